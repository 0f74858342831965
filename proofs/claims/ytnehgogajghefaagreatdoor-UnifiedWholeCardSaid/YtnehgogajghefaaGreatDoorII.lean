/-
  Hunks edit by edit: the group so far, the last hunk opened and filled; the reference's Make: what its round holds, and its parts by number.
-/
import Derived.Test.YtnehgogajghefaaGreatDoorIC
import Derived.Test.YtnehgogajghefaaGreatDoorQ9
import Derived.Test.YtnehgogajghefaaGreatDoorHX
import Derived.Deep.CutRange
import Derived.Deep.CutBlock
namespace Go.Proofs.YtnehgogajghefaaGreatDoor.Hu
open Go Go.RowKit Kt Lw Li Df

theorem right_mono (n : Int) : ∀ (L : List Ed) (last last' : Int), right n last L = true → last' ≤ last → right n last' L = true
  | [], _, _, _, _ => rfl
  | e :: l, last, last', h, hl => by
    obtain ⟨⟨h1, h2, h3, h4, h5⟩, h6⟩ := (right_cons _ _ _ _).1 h
    exact (right_cons _ _ _ _).2 ⟨⟨h1, h2, by omega, h4, h5⟩, h6⟩
/-- edits that are in one hunk, which begins with line z -/
def Gr (r : Nat) (G : List Ed) (z : Nat) : Prop := ∃ e g, G = e :: g ∧ Whole r e g ∧ z = from_ r e
theorem Gr.one (r : Nat) (f : Ed) : Gr r [f] (from_ r f) := ⟨f, [], rfl, Whole.nil r f, rfl⟩
theorem gr_end {n : Nat} {G : List Ed} {z : Nat} (hr : right n (-1) G = true) (e : Ed) (g : List Ed) (h : G = e :: g) : (endB z G : Int) = lastF (fin e) g := by
  have := endB_last n G z (-1) hr (by omega)
  rw [this, h, lastF]
theorem Gr.snoc {n r : Nat} {G : List Ed} {z : Nat} {f : Ed} (h : Gr r G z) (hr : right n (-1) G = true) (hf : f.pos - endB z G ≤ 2 * r) : Gr r (G ++ [f]) z := by
  obtain ⟨e, g, hG, hw, hz⟩ := h
  rw [gr_end hr e g hG] at hf
  exact ⟨e, g ++ [f], by rw [hG]; rfl, hw.snoc hf, hz⟩
theorem Gr.close {a : Ls} {r : Nat} {G : List Ed} {z : Nat} (h : Gr r G z) (m0 : Int) (l : List Ed) (hr : right a.length (-1) G = true) (hf : ∀ f t, l = f :: t → 2 * r < f.pos - endB z G) (B : Ls) (hB : B = body a z G ++ mk 32 ((a.drop (endB z G)).take r)) :
    mkHs a r m0 (G ++ l) = ⟨z, many 45 B, z + m0, many 43 B, B⟩ :: mkHs a r (m0 + delta G) l := by
  obtain ⟨e, g, hG, hw, hz⟩ := h
  have hpb := pts_body a r G z
  rw [← hB] at hpb
  have hf' : ∀ f t, l = f :: t → 2 * r < f.pos - lastF (fin e) g := fun f t he => by
    have := hf f t he
    rwa [gr_end hr e g hG] at this
  subst hG
  rw [List.cons_append, mk_close a r m0 (-1) e g l hw hf' hr (by omega), oneH, ← hz, hpb]
theorem endB_le {n : Nat} {G : List Ed} {f : Ed} {l : List Ed} {z : Nat} (hr : right n (-1) (G ++ f :: l) = true) (hz : G = [] → (z : Int) ≤ f.pos) : (endB z G : Int) ≤ f.pos := by
  cases G with
  | nil => exact hz rfl
  | cons e g =>
    obtain ⟨h1, h2, _, _⟩ := right_app n (e :: g) (f :: l) (-1) hr (by omega)
    rw [gr_end h1 e g rfl]
    have := ((right_cons _ _ _ _).1 h2).1.2.2.1
    rw [lastF] at this
    omega
theorem right_tail {n : Nat} {G l : List Ed} (hr : right n (-1) (G ++ l) = true) : right n (-1) l = true := by
  obtain ⟨_, h2, h3, _⟩ := right_app n G l (-1) hr (by omega)
  exact right_mono _ _ _ _ h2 h3
theorem right_fst {n : Nat} {G l : List Ed} (hr : right n (-1) (G ++ l) = true) : right n (-1) G = true :=
  (right_app n G l (-1) hr (by omega)).1
/-- a hunk is opened -/
theorem wpList_pushOH {ops : Array Oper} {rest : List Oper} {o : Oper} {a : Act} {Q : Exit → Act → World → Prop} {W : World} (hgd : o.guard = none) (s x : Operand)
    (ho : o.op = .call { callee := .builtin .append, args := #[s, x], argTypes := #[27, 27] })
    (B : Nat) (w0 : World) (v : Value) (L : List Hk) (z1 z2 : Int) (cs : Array Value) (hs : a.eval s = v) (hx : a.eval x = .slice (some ⟨W.heap.size, 0, none⟩) 1 1) (hc : cs = (hkC ⟨z1, 0, z2, 0, []⟩ (.slice none 0 0)).toArray)
    (hown : OwH W B v L) (M : Nat) (hM : M = L.length + 1) (hlen : L.length + 1 ≤ 1000000000) (hb : Below B w0 W) (hbase : B ≤ W.heap.size)
    (h : ∀ g cap V w', V.map (·.1) = L → OH w' B g cap V ⟨z1, 0, z2, 0, []⟩ (.slice none 0 0) → Below B w0 w' → wpList Tryz.prog ops Q rest (a.put o.dst (.slice (some ⟨g, 0, none⟩) M cap)) w') : wpList Tryz.prog ops Q (o :: rest) a (W.alloc (.cells cs tH)) := by
  subst hM
  refine wpList_plain hgd fun _ hK => ?_
  obtain ⟨i0, hi0, hz0, hz1, hz2⟩ := info_parts infoHk
  subst hc
  obtain ⟨V, hV, hr, hi⟩ := hown
  refine wp_append_own _ s x 27 ho B tH i0 (.agg #[.int .i64 0, .int .i64 0, .int .i64 0, .int .i64 0, .slice none 0 0]) 5 56 Tryz.underlying27 hi0 hz0 hz1 hz2 rfl (by omega) v L.length (V.flatMap hkP) hs (World.ownsRow.alloc hr _)
    ⟨W.heap.size, 0, none⟩ 1 1 (hkC ⟨z1, 0, z2, 0, []⟩ (.slice none 0 0)) hx rfl (fun j u hu => ?_) ?_ (by unfold maxLen; omega) (by omega) (by simp; omega) (fun v' w' h1 h2 _ => ?_)
  · rw [Addr.add_mid, (Row.fresh W tH (hkC ⟨z1, 0, z2, 0, []⟩ (.slice none 0 0)).toArray).cell]
    simpa using hu
  · intro u hu
    simp only [hkC, List.mem_cons, List.not_mem_nil, or_false] at hu
    rcases hu with rfl | rfl | rfl | rfl | rfl <;> rfl
  · have hg := grownBy_back _ h2
    have key : ∀ (u : Value) (l : Ls), OwT W B tS u l → OwT w' B tS u l := by
      intro u l hu
      refine World.ownsRow.kept hu hg ?_
      rcases hu.2 with ⟨rfl, _⟩ | ⟨g, cap, cur, rfl, _, hgg, _⟩
      · exact .inl rfl
      · right
        intro he
        rcases hr.2 with ⟨rfl, _⟩ | ⟨g', cap', cur', rfl, _, hgg', _⟩
        · cases he
        · simp only [Value.ownBlock, Option.some.injEq] at he
          subst he
          rw [hgg] at hgg'
          simp [tS, tH] at hgg'
    obtain ⟨g, cap, rfl⟩ : ∃ g cap, v' = .slice (some ⟨g, 0, none⟩) (L.length + 1) cap := by
      rcases h1.2 with ⟨_, h0⟩ | ⟨g, cap, cur, hv, _⟩
      · omega
      · exact ⟨g, cap, hv⟩
    have hVl : V.length = L.length := by rw [← hV, List.length_map]
    exact hK _ _ (h g cap V w' hV ⟨by rw [hVl]; exact h1, fun p hp => key _ _ (hi p hp)⟩ (hb.grown hg hbase fun k hk => (World.ownsRow.lt hr k hk).1))
section
variable {w w' : World} {B go cap : Nat} {V : List (Hk × Value)} {e : Hk} {vi : Value}
/-- all of the last one is stored -/
theorem OH.fill (h : OH w B go cap V e vi) {N : Nat} (hN : N = V.length) (e' : Hk) (v' : Value) :
    OH (((((w.setCell ⟨go, N * 5, none⟩ (.int .i64 e'.a)).setCell ⟨go, N * 5 + 1, none⟩ (.int .i64 e'.an)).setCell ⟨go, N * 5 + 2, none⟩ (.int .i64 e'.b)).setCell ⟨go, N * 5 + 3, none⟩ (.int .i64 e'.bn)).setCell ⟨go, N * 5 + 4, none⟩ v') B go cap V e' v' ∧
      ∀ (y : Value) (l : Ls), OwT w B tS y l → OwT (((((w.setCell ⟨go, N * 5, none⟩ (.int .i64 e'.a)).setCell ⟨go, N * 5 + 1, none⟩ (.int .i64 e'.an)).setCell ⟨go, N * 5 + 2, none⟩ (.int .i64 e'.b)).setCell ⟨go, N * 5 + 3, none⟩ (.int .i64 e'.bn)).setCell ⟨go, N * 5 + 4, none⟩ v') B tS y l := by
  subst hN
  have hoff : ∀ (y : Value) (l : Ls), OwT w B tS y l → OwT (((((w.setCell ⟨go, V.length * 5, none⟩ (.int .i64 e'.a)).setCell ⟨go, V.length * 5 + 1, none⟩ (.int .i64 e'.an)).setCell ⟨go, V.length * 5 + 2, none⟩ (.int .i64 e'.b)).setCell ⟨go, V.length * 5 + 3, none⟩ (.int .i64 e'.bn)).setCell ⟨go, V.length * 5 + 4, none⟩ v') B tS y l := fun y l hy => by
    have hne : ∀ b, y.ownBlock = some b → b ≠ go := fun b hb e => rowh_own h.row hy (e ▸ hb)
    exact owt_off (owt_off (owt_off (owt_off (owt_off hy hne _) hne _) hne _) hne _) hne _
  have h1 := (World.ownsRow.stored h.row (V.length * 5) (.int .i64 e'.a)).1
  have h2 := (World.ownsRow.stored h1 (V.length * 5 + 1) (.int .i64 e'.an)).1
  have h3 := (World.ownsRow.stored h2 (V.length * 5 + 2) (.int .i64 e'.b)).1
  have h4 := (World.ownsRow.stored h3 (V.length * 5 + 3) (.int .i64 e'.bn)).1
  have h5 := (World.ownsRow.stored h4 (V.length * 5 + 4) v').1
  refine ⟨⟨?_, fun p hp => hoff _ _ (h.rows p hp)⟩, hoff⟩
  have hl : ((((((V.flatMap hkP ++ hkC e vi).set (V.length * 5) (.int .i64 e'.a)).set (V.length * 5 + 1) (.int .i64 e'.an)).set (V.length * 5 + 2) (.int .i64 e'.b)).set (V.length * 5 + 3) (.int .i64 e'.bn)).set (V.length * 5 + 4) v') = V.flatMap hkP ++ hkC e' v' := by
    have hf := hk_flat V
    rw [List.set_append_right _ _ (by omega), List.set_append_right _ _ (by omega), List.set_append_right _ _ (by omega), List.set_append_right _ _ (by omega), List.set_append_right _ _ (by omega), hf, Nat.sub_self, Nat.add_sub_cancel_left, Nat.add_sub_cancel_left, Nat.add_sub_cancel_left, Nat.add_sub_cancel_left]
    rfl
  rw [hl] at h5
  exact h5
end
end Go.Proofs.YtnehgogajghefaaGreatDoor.Hu
namespace Go.Proofs.YtnehgogajghefaaGreatDoor.Hu
open Go Go.RowKit Kt Lw Li Df

/-- the last hunk is open: its lines are a row of the call's own, and no other hunk's -/
structure OP (w : World) (B go cap : Nat) (V : List (Hk × Value)) (e : Hk) (vi : Value) : Prop where
  out : OH w B go cap V e vi
  own : OwT w B tS vi e.lines
  apart : ∀ p ∈ V, ∀ b, vi.ownBlock = some b → p.2.ownBlock ≠ some b
theorem OP.keep {w w' : World} {B go cap : Nat} {V : List (Hk × Value)} {e : Hk} {vi : Value} (h : OP w B go cap V e vi) (hb : Below w.heap.size w w') : OP w' B go cap V e vi :=
  ⟨h.out.keep hb, h.own.kept hb, h.apart⟩
/-- all hunks so far are whole -/
def Shut (a : Ls) (r : Nat) (L : List Ed) (T : List Hk) (w : World) (B : Nat) (o : Value) (k : Nat) (more : Int) : Prop :=
  ∃ done, OwH w B o done ∧ done ++ mkHs a r more (L.drop k) = T ∧ done.length ≤ k ∧ right a.length (-1) (L.drop k) = true ∧ ∀ e f, k ≠ 0 → L[k - 1]? = some e → L[k]? = some f → 2 * (r : Int) < f.pos - fin e
/-- the last hunk goes on: of the edits G are in it -/
structure Go1 (a : Ls) (r : Nat) (T : List Hk) (w : World) (B go cap : Nat) (V : List (Hk × Value)) (e : Hk) (vi : Value) (G l : List Ed) (z0 : Nat) (m0 : Int) (z : Nat) (more : Int) : Prop where
  op : OP w B go cap V e vi
  num : e.a = z0 ∧ e.b = z0 + m0
  lines : e.lines = body a z0 G
  tot : V.map (·.1) ++ mkHs a r m0 (G ++ l) = T
  right : right a.length (-1) (G ++ l) = true
  fin : z = endB z0 G
  more : more = m0 + delta G
def Open (a : Ls) (r : Nat) (L : List Ed) (T : List Hk) (w : World) (B : Nat) (o : Value) (k z : Nat) (more : Int) : Prop :=
  k ≠ 0 ∧ k < L.length ∧ ∃ go cap V e vi G z0 m0, o = .slice (some ⟨go, 0, none⟩) (V.length + 1) cap ∧ Go1 a r T w B go cap V e vi G (L.drop k) z0 m0 z more ∧ Gr r G z0 ∧ V.length < k ∧ e.lines.length ≤ 1100 * k ∧
    ∀ e f, L[k - 1]? = some e → L[k]? = some f → Hu.fin e = z ∧ f.pos - Hu.fin e ≤ 2 * (r : Int)
theorem Shut.keep {a : Ls} {r : Nat} {L : List Ed} {T : List Hk} {w w' : World} {B : Nat} {o : Value} {k : Nat} {more : Int} (h : Shut a r L T w B o k more) (hb : Below w.heap.size w w') : Shut a r L T w' B o k more := by
  obtain ⟨done, h1, h2⟩ := h
  exact ⟨done, h1.keep hb, h2⟩
theorem Go1.keep {a : Ls} {r : Nat} {T : List Hk} {w w' : World} {B go cap : Nat} {V : List (Hk × Value)} {e : Hk} {vi : Value} {G l : List Ed} {z0 : Nat} {m0 : Int} {z : Nat} {more : Int} (h : Go1 a r T w B go cap V e vi G l z0 m0 z more) (hb : Below w.heap.size w w') : Go1 a r T w' B go cap V e vi G l z0 m0 z more :=
  ⟨h.op.keep hb, h.num, h.lines, h.tot, h.right, h.fin, h.more⟩
theorem Open.keep {a : Ls} {r : Nat} {L : List Ed} {T : List Hk} {w w' : World} {B : Nat} {o : Value} {k z : Nat} {more : Int} (h : Open a r L T w B o k z more) (hb : Below w.heap.size w w') : Open a r L T w' B o k z more := by
  obtain ⟨h1, h2, go, cap, V, e, vi, G, z0, m0, h3, h4, h5⟩ := h
  exact ⟨h1, h2, go, cap, V, e, vi, G, z0, m0, h3, h4.keep hb, h5⟩
theorem run_more (L : Ls) (i j : Nat) (hij : i ≤ j) (hj : j < L.length) : (L.drop i).take (j + 1 - i) = (L.drop i).take (j - i) ++ [L.getD j []] := by
  have h1 : j + 1 - i = (j - i) + 1 := by omega
  rw [h1, List.take_succ_eq_append_getElem (by rw [List.length_drop]; omega), List.getElem_drop]
  congr 1
  simp [List.getElem?_eq_getElem hj, Nat.add_sub_cancel' hij]
theorem MK.num1 {w wr : World} {B go cap : Nat} {V : List (Hk × Value)} {e : Hk} {vi : Value} {g : Nat} {x0 x1 x2 x3 v : Value} {L : Ls} (h : MK w wr B go cap V e vi g x0 x1 x2 x3 v L) (u : Value) : MK w (wr.setCell ⟨g, 1, none⟩ u) B go cap V e vi g x0 u x2 x3 v L :=
  have ⟨h1, h2, h3, h4⟩ := h.num 1 u
  ⟨h1, h3, h2, h.apart, h.ne, h4, h.lt⟩
theorem MK.num3 {w wr : World} {B go cap : Nat} {V : List (Hk × Value)} {e : Hk} {vi : Value} {g : Nat} {x0 x1 x2 x3 v : Value} {L : Ls} (h : MK w wr B go cap V e vi g x0 x1 x2 x3 v L) (u : Value) : MK w (wr.setCell ⟨g, 3, none⟩ u) B go cap V e vi g x0 x1 x2 u v L :=
  have ⟨h1, h2, h3, h4⟩ := h.num 3 u
  ⟨h1, h3, h2, h.apart, h.ne, h4, h.lt⟩
/-- whether the edit begins a hunk is settled: all hunks are whole, or the last one goes on -/
def Fst (a : Ls) (r : Nat) (L : List Ed) (T : List Hk) (w : World) (B : Nat) (o : Value) (k z : Nat) (more : Int) (fst : Bool) : Prop :=
  (fst = true ∧ Shut a r L T w B o k more) ∨ (fst = false ∧ Open a r L T w B o k z more)
/-- the last hunk waits for edit f -/
def Mid (a : Ls) (r : Nat) (T : List Hk) (w : World) (B : Nat) (o : Value) (k z : Nat) (more : Int) (f : Ed) (l : List Ed) : Prop :=
  ∃ go cap V e vi G z0 m0, o = .slice (some ⟨go, 0, none⟩) (V.length + 1) cap ∧ Go1 a r T w B go cap V e vi G (f :: l) z0 m0 z more ∧ Gr r (G ++ [f]) z0 ∧ V.length ≤ k ∧ (z : Int) ≤ f.pos ∧ e.lines.length ≤ 1100 * k
theorem ins_size {L : List Ed} {e : Ed} (h : e ∈ L) : max 0 e.del + e.ins.length ≤ size L := by
  induction L with
  | nil => cases h
  | cons f l ih =>
    rw [size]
    have := size_nn l
    rcases List.mem_cons.1 h with rfl | h
    · omega
    · have := ih h
      omega
/-- the block of a number within a code -/
def findB (n : Nat) : Code → Option Code
  | .seq a b => (findB n a).or (findB n b)
  | .block m b => if m = n then some (.block m b) else findB n b
  | .loop b => findB n b
  | .cond _ a b => (findB n a).or (findB n b)
  | _ => none
end Go.Proofs.YtnehgogajghefaaGreatDoor.Hu
