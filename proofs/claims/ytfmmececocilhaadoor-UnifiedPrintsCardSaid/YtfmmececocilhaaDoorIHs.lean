/-
  The last hunk opened, and filled.
-/
import Derived.Test.YtfmmececocilhaaDoorICs
namespace Go.Proofs.YtfmmececocilhaaDoor.Hu
open Go Go.RowKit Kt Lw Li Df

/-- a hunk is opened -/
theorem wpList_pushOH {ops : Array Oper} {rest : List Oper} {o : Oper} {a : Act} {Q : Exit → Act → World → Prop} {W : World} (hgd : o.guard = none) (s x : Operand)
    (ho : o.op = .call { callee := .builtin .append, args := #[s, x], argTypes := #[22, 22] })
    (B : Nat) (w0 : World) (v : Value) (L : List Hk) (z1 z2 : Int) (cs : Array Value) (hs : a.eval s = v) (hx : a.eval x = .slice (some ⟨W.heap.size, 0, none⟩) 1 1) (hc : cs = (hkC ⟨z1, 0, z2, 0, []⟩ (.slice none 0 0)).toArray)
    (hown : OwH W B v L) (M : Nat) (hM : M = L.length + 1) (hlen : L.length + 1 ≤ 1000000000) (hb : Below B w0 W) (hbase : B ≤ W.heap.size)
    (h : ∀ g cap V w', V.map (·.1) = L → OH w' B g cap V ⟨z1, 0, z2, 0, []⟩ (.slice none 0 0) → Below B w0 w' → wpList Tryd.prog ops Q rest (a.put o.dst (.slice (some ⟨g, 0, none⟩) M cap)) w') : wpList Tryd.prog ops Q (o :: rest) a (W.alloc (.cells cs tH)) := by
  subst hM
  refine wpList_plain hgd fun _ hK => ?_
  obtain ⟨i0, hi0, hz0, hz1, hz2⟩ := info_parts infoHk
  subst hc
  obtain ⟨V, hV, hr, hi⟩ := hown
  refine wp_append_own _ s x 22 ho B tH i0 (.agg #[.int .i64 0, .int .i64 0, .int .i64 0, .int .i64 0, .slice none 0 0]) 5 56 Tryd.underlying22 hi0 hz0 hz1 hz2 rfl (by omega) v L.length (V.flatMap hkP) hs (World.ownsRow.alloc hr _)
    ⟨W.heap.size, 0, none⟩ 1 1 (hkC ⟨z1, 0, z2, 0, []⟩ (.slice none 0 0)) hx rfl (fun j u hu => ?_) ?_ (by unfold maxLen; omega) (by omega) (by simp; omega) (fun v' w' h1 h2 _ => ?_)
  · rw [Addr.add_mid, (Row.fresh W tH (hkC ⟨z1, 0, z2, 0, []⟩ (.slice none 0 0)).toArray).cell]
    simpa using hu
  · intro u hu
    simp only [hkC, List.mem_cons, List.not_mem_nil, or_false] at hu
    rcases hu with rfl | rfl | rfl | rfl | rfl <;> rfl
  · have hg := grownBy_back _ h2
    have key : ∀ (u : Value) (l : Ls), OwT W B tS u l → OwT w' B tS u l := by
      intro u l hu
      refine World.ownsRow.kept hu hg ?_
      rcases hu.2 with ⟨rfl, _⟩ | ⟨g, cap, cur, rfl, _, hgg, _⟩
      · exact .inl rfl
      · right
        intro he
        rcases hr.2 with ⟨rfl, _⟩ | ⟨g', cap', cur', rfl, _, hgg', _⟩
        · cases he
        · simp only [Value.ownBlock, Option.some.injEq] at he
          subst he
          rw [hgg] at hgg'
          simp [tS, tH] at hgg'
    obtain ⟨g, cap, rfl⟩ : ∃ g cap, v' = .slice (some ⟨g, 0, none⟩) (L.length + 1) cap := by
      rcases h1.2 with ⟨_, h0⟩ | ⟨g, cap, cur, hv, _⟩
      · omega
      · exact ⟨g, cap, hv⟩
    have hVl : V.length = L.length := by rw [← hV, List.length_map]
    exact hK _ _ (h g cap V w' hV ⟨by rw [hVl]; exact h1, fun p hp => key _ _ (hi p hp)⟩ (hb.grown hg hbase fun k hk => (World.ownsRow.lt hr k hk).1))
section
variable {w w' : World} {B go cap : Nat} {V : List (Hk × Value)} {e : Hk} {vi : Value}
/-- all of the last one is stored -/
theorem OH.fill (h : OH w B go cap V e vi) {N : Nat} (hN : N = V.length) (e' : Hk) (v' : Value) :
    OH (((((w.setCell ⟨go, N * 5, none⟩ (.int .i64 e'.a)).setCell ⟨go, N * 5 + 1, none⟩ (.int .i64 e'.an)).setCell ⟨go, N * 5 + 2, none⟩ (.int .i64 e'.b)).setCell ⟨go, N * 5 + 3, none⟩ (.int .i64 e'.bn)).setCell ⟨go, N * 5 + 4, none⟩ v') B go cap V e' v' ∧
      ∀ (y : Value) (l : Ls), OwT w B tS y l → OwT (((((w.setCell ⟨go, N * 5, none⟩ (.int .i64 e'.a)).setCell ⟨go, N * 5 + 1, none⟩ (.int .i64 e'.an)).setCell ⟨go, N * 5 + 2, none⟩ (.int .i64 e'.b)).setCell ⟨go, N * 5 + 3, none⟩ (.int .i64 e'.bn)).setCell ⟨go, N * 5 + 4, none⟩ v') B tS y l := by
  subst hN
  have hoff : ∀ (y : Value) (l : Ls), OwT w B tS y l → OwT (((((w.setCell ⟨go, V.length * 5, none⟩ (.int .i64 e'.a)).setCell ⟨go, V.length * 5 + 1, none⟩ (.int .i64 e'.an)).setCell ⟨go, V.length * 5 + 2, none⟩ (.int .i64 e'.b)).setCell ⟨go, V.length * 5 + 3, none⟩ (.int .i64 e'.bn)).setCell ⟨go, V.length * 5 + 4, none⟩ v') B tS y l := fun y l hy => by
    have hne : ∀ b, y.ownBlock = some b → b ≠ go := fun b hb e => rowh_own h.row hy (e ▸ hb)
    exact owt_off (owt_off (owt_off (owt_off (owt_off hy hne _) hne _) hne _) hne _) hne _
  have h1 := (World.ownsRow.stored h.row (V.length * 5) (.int .i64 e'.a)).1
  have h2 := (World.ownsRow.stored h1 (V.length * 5 + 1) (.int .i64 e'.an)).1
  have h3 := (World.ownsRow.stored h2 (V.length * 5 + 2) (.int .i64 e'.b)).1
  have h4 := (World.ownsRow.stored h3 (V.length * 5 + 3) (.int .i64 e'.bn)).1
  have h5 := (World.ownsRow.stored h4 (V.length * 5 + 4) v').1
  refine ⟨⟨?_, fun p hp => hoff _ _ (h.rows p hp)⟩, hoff⟩
  have hl : ((((((V.flatMap hkP ++ hkC e vi).set (V.length * 5) (.int .i64 e'.a)).set (V.length * 5 + 1) (.int .i64 e'.an)).set (V.length * 5 + 2) (.int .i64 e'.b)).set (V.length * 5 + 3) (.int .i64 e'.bn)).set (V.length * 5 + 4) v') = V.flatMap hkP ++ hkC e' v' := by
    have hf := hk_flat V
    rw [List.set_append_right _ _ (by omega), List.set_append_right _ _ (by omega), List.set_append_right _ _ (by omega), List.set_append_right _ _ (by omega), List.set_append_right _ _ (by omega), hf, Nat.sub_self, Nat.add_sub_cancel_left, Nat.add_sub_cancel_left, Nat.add_sub_cancel_left, Nat.add_sub_cancel_left]
    rfl
  rw [hl] at h5
  exact h5
end
end Go.Proofs.YtfmmececocilhaaDoor.Hu
