/-
  The document's lists of ids: Put, Sorted.
-/
import Derived.Test.YtplmcpdlommmaaaQXR
import Derived.Test.YtplmcpdlommmaaaQDD
import Derived.Test.YtplmcpdlommmaaaQDE
namespace Go.Proofs.Ytplmcpdlommmaaa.Dq
open Go Go.RowKit Kt Kg Lw Tr

theorem infoI : (Try.prog.info? 23).map (fun i => (i.zero, i.size, i.bytes)) = some (some (.string ⟨#[]⟩), 1, 16) := by kernel_rfl
theorem wp_pushI {o : Oper} {a : Act} {K : Act → World → Prop} {Q : Exit → Act → World → Prop} {W : World} (s x : Operand)
    (ho : o.op = .call { callee := .builtin .append, args := #[s, x], argTypes := #[31, 31] })
    (B : Nat) (w0 : World) (v : Value) (l : List Bs) (y : List UInt8) (cs : Array Value) (hs : a.eval s = v) (hx : a.eval x = .slice (some ⟨W.heap.size, 0, none⟩) 1 1) (hc : cs = #[.string ⟨y.toArray⟩])
    (hown : OwT W B tId v l) (hlen : l.length + 1 ≤ 1000000000) (hb : Below B w0 W) (hbase : B ≤ W.heap.size)
    (h : ∀ v' w', OwT w' B tId v' (l ++ [y]) → Below B w0 w' → W.grownBy w' v.ownBlock → (v'.ownBlock = v.ownBlock ∨ v'.ownBlock = some (W.heap.size + 1)) → K (a.put o.dst v') w') : o.wp Try.prog a (W.alloc (.cells cs tId)) K Q := by
  obtain ⟨i0, hi0, hz0, hz1, hz2⟩ := info_parts infoI
  subst hc
  have hown' : (W.alloc (.cells #[.string ⟨y.toArray⟩] tId)).ownsRow B tId 1 v l.length (texts l) := World.ownsRow.alloc hown _
  have hnews : ∀ j u, (texts [y])[j]? = some u → (W.alloc (.cells #[.string ⟨y.toArray⟩] tId)).cell? ((⟨W.heap.size, 0, none⟩ : Addr).add j) = some u := fun j u hu => by
    rw [Addr.add_mid, (Row.fresh W tId #[.string ⟨y.toArray⟩]).cell, Nat.zero_add]
    exact hu
  obtain ⟨v', w', hr, h1, h2, _⟩ := run_append_own (P := Try.prog) (W.alloc (.cells #[.string ⟨y.toArray⟩] tId)) B 31 o.type tId i0 (.string ⟨#[]⟩) 1 16 Try.underlying31 hi0 hz0 hz1 hz2 rfl (by omega) v l.length (texts l) hown'
    ⟨W.heap.size, 0, none⟩ 1 1 (texts [y]) rfl hnews (texts_one [y]) (by unfold maxLen; omega) (by omega) (by simp; omega)
  have hg := grownBy_back _ h2
  have hbl : v'.ownBlock = v.ownBlock ∨ v'.ownBlock = some (W.heap.size + 1) := by
    rcases hown'.2 with ⟨rfl, h0⟩ | ⟨g, cap, cur, rfl, _, hgg, hnc, _, hcs, htake⟩
    · have hr2 := run_append_nil (P := Try.prog) (W.alloc (.cells #[.string ⟨y.toArray⟩] tId)) 31 o.type tId i0 (.string ⟨#[]⟩) Try.underlying31 hi0 hz0 ⟨W.heap.size, 0, none⟩ 1 1 (texts [y]) (by rw [hz1]; rfl) hnews (by omega) (by omega) (by rw [hz2]; omega)
      rw [hr] at hr2
      injection hr2 with e1 _
      right
      rw [e1]
      simp [Value.ownBlock]
    · by_cases hroom : l.length + 1 ≤ cap
      · have hr2 := run_append_room (P := Try.prog) (W.alloc (.cells #[.string ⟨y.toArray⟩] tId)) 31 o.type tId i0 Try.underlying31 hi0 g l.length cap cur hgg ⟨W.heap.size, 0, none⟩ 1 1 (texts [y]) (by rw [hz1]; rfl) hnews (texts_one [y]) hroom (by rw [hz1, hcs]; simp [texts]; omega)
        rw [hr] at hr2
        injection hr2 with e1 _
        left
        rw [e1]
        rfl
      · have hr2 := run_append_grow (P := Try.prog) (W.alloc (.cells #[.string ⟨y.toArray⟩] tId)) 31 o.type tId i0 (.string ⟨#[]⟩) Try.underlying31 hi0 hz0 ⟨g, 0, none⟩ l.length cap (texts l) (by rw [hz1, texts_len]; omega) (World.ownsRow.cells hown' rfl)
          ⟨W.heap.size, 0, none⟩ 1 1 (texts [y]) (by rw [hz1]; rfl) hnews (by omega) (by omega) (growslice_fits (by omega) (by rw [hz2]; omega))
        rw [hr] at hr2
        injection hr2 with e1 _
        right
        rw [e1]
        simp [Value.ownBlock]
  unfold Oper.wp execOp
  simp only [ho, resolve, invoke, builtin, Sem.run_bind, Sem.run_pure, Result.andThen_ok, List.map_toArray, List.map_cons, List.map_nil, hs, hx, hr]
  refine h v' w' ?_ (hb.grown hg hbase fun k hk => (World.ownsRow.lt hown k hk).1) hg hbl
  unfold OwT
  rw [List.length_append, texts_append]
  exact h1
theorem wpList_pushI {ops : Array Oper} {rest : List Oper} {o : Oper} {a : Act} {Q : Exit → Act → World → Prop} {W : World} (hgd : o.guard = none) (s x : Operand)
    (ho : o.op = .call { callee := .builtin .append, args := #[s, x], argTypes := #[31, 31] })
    (B : Nat) (w0 : World) (v : Value) (l : List Bs) (y : List UInt8) (cs : Array Value) (hs : a.eval s = v) (hx : a.eval x = .slice (some ⟨W.heap.size, 0, none⟩) 1 1) (hc : cs = #[.string ⟨y.toArray⟩])
    (hown : OwT W B tId v l) (hlen : l.length + 1 ≤ 1000000000) (hb : Below B w0 W) (hbase : B ≤ W.heap.size)
    (h : ∀ v' w', OwT w' B tId v' (l ++ [y]) → Below B w0 w' → W.grownBy w' v.ownBlock → (v'.ownBlock = v.ownBlock ∨ v'.ownBlock = some (W.heap.size + 1)) → wpList Try.prog ops Q rest (a.put o.dst v') w') : wpList Try.prog ops Q (o :: rest) a (W.alloc (.cells cs tId)) :=
  wpList_plain hgd fun _ hK => wp_pushI s x ho B w0 v l y cs hs hx hc hown hlen hb hbase fun v' w' h1 h2 h3 h4 => hK _ _ (h v' w' h1 h2 h3 h4)

theorem drop_at {α : Type} {l : List α} {k : Nat} {y : α} (h : l[k]? = some y) : l.drop k = y :: l.drop (k + 1) := by
  obtain ⟨h1, h2⟩ := List.getElem?_eq_some_iff.1 h
  rw [List.drop_eq_getElem_cons h1, h2]
set_option maxRecDepth 100000 in
set_option maxHeartbeats 4000000 in
theorem rput_any (l : List Bs) (x : Bs) (A : Option Addr) (c : Nat) (P : Nat → Prop) (w : World) (hs : Vs w P A c (texts l)) (hl : l.length ≤ 1000000) (hx : x.length ≤ 100000) (hy : ∀ y ∈ l, y.length ≤ 100000) :
    Calls Try.prog 51 #[.slice A l.length c, .string ⟨x.toArray⟩] w fun e w' => ∃ v, e = .returned v ∧ OwT w' w.heap.size tId v (putId l x) ∧ Below w.heap.size w w' := by
  have Hs := hide (vs_low hs)
  have Hx := hide hx
  have Hy := hide hy
  obtain ⟨N, hN⟩ : ∃ N, N = l.length := ⟨_, rfl⟩
  have HN := hide hN
  rw [← hN] at hl ⊢
  clear hs hx hy hN
  go_enter Try.func51, Try.ntmps51
  go_wp2
  go_loopw [5, 6, 7] (fun ov dv i wr => ∃ (k : Nat) (out : List Bs) (d : Bool), dv = .bool d ∧ i = .int .i64 k ∧ k ≤ N ∧ out.length ≤ k + d.toNat ∧ Hid (out ++ putGo x d (l.drop k) = putId l x) ∧ Hid (OwT wr w.heap.size tId ov out) ∧ Hid (Below w.heap.size w wr)) (fun _ _ i _ => N - (intOf i).toNat)
  case atStart => exact ⟨0, [], false, rfl, rfl, Nat.zero_le _, Nat.zero_le _, by show Hid _; exact hide (by simp [putGo]), by show Hid _; exact hide (OwT.nil _ _ _), by show Hid _; exact hide (Below.refl _ _)⟩
  case round =>
    obtain ⟨k, out, d, rfl, rfl, hk, hol, HE, HO, HB⟩ := hrel
    have hol2 : out.length ≤ k + 1 := by have := Bool.toNat_le d; omega
    by_cases hlt : k < N
    · obtain ⟨y, hyk⟩ : ∃ z, l[k]? = some z := ⟨_, List.getElem?_eq_getElem (by have := HN.out; omega)⟩
      obtain ⟨b, o, rfl, hp, ck⟩ := vs_at Hs.out hyk
      have HX := hide (fun (wz : World) (hz : Below w.heap.size w wz) => (World.cell?_of_block (a := ⟨b, o + k, none⟩) (hz.block b hp)).trans ck)
      have HYl := hide (Hy.out y (List.mem_of_getElem? hyk))
      have HD := hide (drop_at hyk)
      have hc := HX.out wr HB.out
      clear hyk hp ck
      by_cases hxy : y = x
      · have HE2 := hide (show (out ++ [y]) ++ putGo x true (l.drop (k + 1)) = putId l x by rw [← HE.out, HD.out, putGo_eq hxy, List.append_assoc]; rfl)
        subst hxy
        have hq : (y == y) = true := by simp
        clear HE
        go_wp2_with (at_builtin; go_loud (refine wpList_pushI rfl (.tmp 34) (.tmp 39) rfl w.heap.size w _ out y _ rfl rfl rfl HO.out (by omega) HB.out HB.out.size ?_; intro v6 w6 hown6 hb6 _ _; have HO6 := hide hown6; have HB6 := hide hb6; clear hown6 hb6))
        exact ⟨⟨k + 1, out ++ [y], true, rfl, by go_num, by omega, by rw [List.length_append, List.length_cons, List.length_nil, Bool.toNat_true]; omega, by show Hid _; exact HE2, by show Hid _; exact HO6, by show Hid _; exact HB6⟩, by simp [intOf]; omega⟩
      · have hq : (y == x) = false := by simpa using hxy
        cases d with
        | true =>
          have HE2 := hide (show (out ++ [y]) ++ putGo x true (l.drop (k + 1)) = putId l x by rw [← HE.out, HD.out, putGo_yes, List.append_assoc]; rfl)
          clear HE hxy
          go_wp2_with (at_builtin; go_loud (refine wpList_pushI rfl (.tmp 34) (.tmp 39) rfl w.heap.size w _ out y _ rfl rfl rfl HO.out (by omega) HB.out HB.out.size ?_; intro v6 w6 hown6 hb6 _ _; have HO6 := hide hown6; have HB6 := hide hb6; clear hown6 hb6))
          exact ⟨⟨k + 1, out ++ [y], true, rfl, by go_num, by omega, by rw [List.length_append, List.length_cons, List.length_nil, Bool.toNat_true]; omega, by show Hid _; exact HE2, by show Hid _; exact HO6, by show Hid _; exact HB6⟩, by simp [intOf]; omega⟩
        | false =>
          have HLs := hide (rless_any x y wr Hx.out HYl.out)
          go_wp2_with fail
          refine HLs.out.mono ?_
          rintro e w5 ⟨rfl, hb5⟩
          have HB5 := hide (HB.out.trans (hb5.mono HB.out.size))
          have HO5 := hide (HO.out.kept hb5)
          clear hb5 HLs hc hq
          have hc := HX.out w5 HB5.out
          cases hlx : Tr.lt x y with
          | true =>
            have HE2 := hide (show ((out ++ [x]) ++ [y]) ++ putGo x true (l.drop (k + 1)) = putId l x by rw [← HE.out, HD.out, putGo_lt hxy hlx, List.append_assoc, List.append_assoc]; rfl)
            clear HE hxy hlx
            have hl5 : out.length + 1 ≤ 1000000000 := by omega
            have hl6 : (out ++ [x]).length + 1 ≤ 1000000000 := by rw [List.length_append, List.length_cons, List.length_nil]; omega
            have tok1 : True := trivial
            have tok2 : True := trivial
            go_wp2_with (first
              | (have _t := tok1; at_builtin; go_loud (refine wpList_pushI rfl (.tmp 30) (.tmp 32) rfl w.heap.size w _ out x _ rfl rfl rfl HO5.out hl5 HB5.out HB5.out.size ?_; intro v6 w6 hown6 hb6 _ _; have HO6 := hide hown6; have HB6 := hide hb6; have hc6 := HX.out w6 HB6.out; clear tok1 hc; clear hown6 hb6))
              | (have _t := tok2; at_builtin; go_loud (refine wpList_pushI rfl (.tmp 34) (.tmp 39) rfl w.heap.size w _ (out ++ [x]) y _ rfl rfl rfl HO6.out hl6 HB6.out HB6.out.size ?_; intro v7 w7 hown7 hb7 _ _; have HO7 := hide hown7; have HB7 := hide hb7; clear hown7 hb7)))
            exact ⟨⟨k + 1, (out ++ [x]) ++ [y], true, rfl, by go_num, by omega, by rw [List.length_append, List.length_append, List.length_cons, List.length_nil, List.length_cons, List.length_nil, Bool.toNat_true]; rw [Bool.toNat_false] at hol; omega, by show Hid _; exact HE2, by show Hid _; exact HO7, by show Hid _; exact HB7⟩, by simp [intOf]; omega⟩
          | false =>
            have HE2 := hide (show (out ++ [y]) ++ putGo x false (l.drop (k + 1)) = putId l x by rw [← HE.out, HD.out, putGo_ge hxy hlx, List.append_assoc]; rfl)
            clear HE hxy hlx
            go_wp2_with (at_builtin; go_loud (refine wpList_pushI rfl (.tmp 34) (.tmp 39) rfl w.heap.size w _ out y _ rfl rfl rfl HO5.out (by omega) HB5.out HB5.out.size ?_; intro v6 w6 hown6 hb6 _ _; have HO6 := hide hown6; have HB6 := hide hb6; clear hown6 hb6))
            exact ⟨⟨k + 1, out ++ [y], false, rfl, by go_num, by omega, by rw [List.length_append, List.length_cons, List.length_nil]; have := hol; rw [Bool.toNat_false] at *; omega, by show Hid _; exact HE2, by show Hid _; exact HO6, by show Hid _; exact HB6⟩, by simp [intOf]; omega⟩
    · obtain rfl : k = N := by omega
      have HE2 := hide (show out ++ putGo x d [] = putId l x by have := HE.out; rwa [HN.out, List.drop_length] at this)
      clear HE
      cases d with
      | true =>
        have hpe : putId l x = out := by rw [← HE2.out]; simp [putGo]
        have HPe := hide hpe
        clear hpe
        go_wp2
        go_ret
        exact ⟨_, rfl, by rw [HPe.out]; exact HO.out, HB.out⟩
      | false =>
        go_wp2_with (at_builtin; go_loud (refine wpList_pushI rfl (.tmp 43) (.tmp 45) rfl w.heap.size w _ out x _ rfl rfl rfl HO.out (by omega) HB.out HB.out.size ?_; intro v6 w6 hown6 hb6 _ _; have HO6 := hide hown6; have HB6 := hide hb6; clear hown6 hb6))
        go_ret
        exact ⟨_, rfl, by rw [← HE2.out]; exact HO6.out, HB6.out⟩
theorem sort_next {l : List Bs} {k : Nat} {y : Bs} (h : l[k]? = some y) : sortIds (l.take (k + 1)) = putId (sortIds (l.take k)) y := by
  unfold sortIds
  rw [List.take_add_one, h, List.foldl_append]; rfl
theorem owt_base {w : World} {B B' : Nat} {v : Value} {l : List Bs} (h : OwT w B tId v l) (hb : B' ≤ B) : OwT w B' tId v l :=
  ⟨h.1, h.2.imp id fun ⟨g, cap, cur, hv', h1, h2⟩ => ⟨g, cap, cur, hv', Nat.le_trans hb h1, h2⟩⟩
set_option maxRecDepth 100000 in
set_option maxHeartbeats 4000000 in
theorem rsorted_any (l : List Bs) (A : Option Addr) (c : Nat) (P : Nat → Prop) (w : World) (hs : Vs w P A c (texts l)) (hl : l.length ≤ 1000000) (hy : ∀ y ∈ l, y.length ≤ 100000) :
    Calls Try.prog 35 #[.slice A l.length c] w fun e w' => ∃ v, e = .returned v ∧ OwT w' w.heap.size tId v (sortIds l) ∧ Below w.heap.size w w' := by
  have Hs := hide (vs_low hs)
  have Hy := hide hy
  obtain ⟨N, hN⟩ : ∃ N, N = l.length := ⟨_, rfl⟩
  have HN := hide hN
  rw [← hN] at hl ⊢
  clear hs hy hN
  go_enter Try.func35, Try.ntmps35
  go_wp2
  go_loopw [3, 4] (fun ov i wr => ∃ (k : Nat) (v : Value), v = ov ∧ i = .int .i64 k ∧ k ≤ N ∧ Hid (OwT wr w.heap.size tId v (sortIds (l.take k))) ∧ Hid (Below w.heap.size w wr)) (fun _ i _ => N - (intOf i).toNat)
  case atStart => exact ⟨0, _, rfl, rfl, Nat.zero_le _, by show Hid _; exact hide (OwT.nil _ _ _), by show Hid _; exact hide (Below.refl _ _)⟩
  case round =>
    obtain ⟨k, v, rfl, rfl, hk, HO, HB⟩ := hrel
    by_cases hlt : k < N
    · obtain ⟨y, hyk⟩ : ∃ z, l[k]? = some z := ⟨_, List.getElem?_eq_getElem (by have := HN.out; omega)⟩
      obtain ⟨b, o, rfl, hp, ck⟩ := vs_at Hs.out hyk
      have hc := (World.cell?_of_block (a := ⟨b, o + k, none⟩) (HB.out.block b hp)).trans ck
      obtain ⟨A1, c1, e1, hv1, _⟩ := own_vs HO.out
      have hlen : (sortIds (l.take k)).length ≤ 1000000 := by
        have := sortIds_len (l.take k)
        rw [List.length_take] at this
        omega
      have HPt := hide (rput_any (sortIds (l.take k)) y A1 c1 _ wr hv1 hlen (Hy.out y (List.mem_of_getElem? hyk)) (fun z hz => Hy.out z (List.mem_of_mem_take (sortIds_mem.1 hz))))
      rw [← sort_next hyk] at HPt
      subst e1
      obtain ⟨M, hM⟩ : ∃ M, M = (sortIds (l.take k)).length := ⟨_, rfl⟩
      rw [← hM] at HPt ⊢
      clear hyk hp ck hv1 hlen hM HO
      go_wp2_with fail
      refine HPt.out.mono ?_
      rintro e w5 ⟨v5, rfl, hown5, hb5⟩
      have HO5 := hide (owt_base hown5 HB.out.size)
      have HB5 := hide (HB.out.trans (hb5.mono HB.out.size))
      clear hown5 hb5 HPt hc HB
      go_wp2
      exact ⟨⟨k + 1, v5, rfl, by go_num, by omega, by show Hid _; exact HO5, by show Hid _; exact HB5⟩, by simp [intOf]; omega⟩
    · obtain rfl : k = N := by omega
      have HO2 := hide (show OwT wr w.heap.size tId v (sortIds l) by have := HO.out; rwa [HN.out, List.take_length] at this)
      go_wp2
      go_ret
      exact ⟨_, rfl, HO2.out, HB.out⟩
end Go.Proofs.Ytplmcpdlommmaaa.Dq
namespace Go.Proofs.Ytplmcpdlommmaaa.Dq
open Go Go.RowKit Kt Kg Lw Tr

abbrev tRd : TypeId := 30
def ndP (p : Nd × Value) : List Value := ndC p.1 p.2
theorem ndP_len (p : Nd × Value) : (ndP p).length = 3 := rfl
/-- the document's graph, in the blocks of S -/
def RdIn (w : World) (S : Nat → Prop) (g : Nat) (D : List Nd) : Prop :=
  ∃ (v : Value) (V : List (Nd × Value)), V.map (·.1) = D ∧ Row w g tRd [v] ∧ S g ∧ w.ownsRow 0 tNd 3 v D.length (V.flatMap ndP) ∧ (∀ b, v.ownBlock = some b → S b) ∧
    (∀ p ∈ V, ∃ A c, p.2 = .slice A p.1.ps.length c ∧ Vs w S A c (texts p.1.ps)) ∧ ∀ k, S k → k < w.heap.size
theorem flat3 : ∀ (V : List (Nd × Value)) (j k : Nat) (p : Nd × Value), V[j]? = some p → k < 3 → (V.flatMap ndP)[3 * j + k]? = (ndP p)[k]?
  | [], j, k, p, h, _ => by cases h
  | x :: V, 0, k, p, h, hk => by
    simp at h
    subst h
    rw [List.flatMap_cons, Nat.mul_zero, Nat.zero_add, List.getElem?_append_left (by rw [ndP_len]; exact hk)]
  | x :: V, j + 1, k, p, h, hk => by
    rw [List.flatMap_cons, List.getElem?_append_right (by rw [ndP_len]; omega), ndP_len, show 3 * (j + 1) + k - 3 = 3 * j + k by omega]
    exact flat3 V j k p (by simpa using h) hk
theorem RdIn.rd {w : World} {S : Nat → Prop} {g : Nat} {D : List Nd} (h : RdIn w S g D) : ∃ A c, w.cell? ⟨g, 0, none⟩ = some (.slice A D.length c) ∧ ∀ j n, D[j]? = some n →
    ∃ b A' c', A = some ⟨b, 0, none⟩ ∧ w.cell? ⟨b, j * 3, none⟩ = some (.string ⟨n.id.toArray⟩) ∧ w.cell? ⟨b, j * 3 + 1, none⟩ = some (.slice A' n.ps.length c') ∧ w.cell? ⟨b, j * 3 + 2, none⟩ = some (.bool n.on) ∧ Vs w S A' c' (texts n.ps) := by
  obtain ⟨v, V, rfl, hr, _, ho, _, hi, _⟩ := h
  have h0 : w.cell? ⟨g, 0, none⟩ = some v := hr.cell 0
  have ho' := ho
  rcases ho.2 with ⟨rfl, hz⟩ | ⟨b, cap, cur, rfl, _, _, _⟩
  · refine ⟨none, 0, by rw [h0, hz], fun j n hj => ?_⟩
    have := (List.getElem?_eq_some_iff.1 hj).1
    omega
  · refine ⟨_, cap, h0, fun j n hj => ?_⟩
    rw [List.getElem?_map] at hj
    cases hp : V[j]? with
    | none => rw [hp] at hj; cases hj
    | some p =>
      rw [hp] at hj
      simp at hj
      subst hj
      have hjl : j < V.length := (List.getElem?_eq_some_iff.1 hp).1
      obtain ⟨A', c', hv, hvs⟩ := hi p (List.mem_of_getElem? hp)
      have key : ∀ k u, k < 3 → (ndP p)[k]? = some u → w.cell? ⟨b, j * 3 + k, none⟩ = some u := fun k u hk hu => by
        have := World.ownsRow.cellAt (cap := cap) ho' (3 * j + k) (by rw [List.length_map]; omega)
        rw [flat3 V j k p hp hk, hu, Nat.mul_comm] at this
        exact this
      refine ⟨b, A', c', rfl, key 0 _ (by omega) rfl, ?_, key 2 _ (by omega) rfl, hvs⟩
      rw [← hv]
      exact key 1 _ (by omega) rfl
set_option maxRecDepth 100000 in
set_option maxHeartbeats 4000000 in
theorem rfind_any {w : World} {S : Nat → Prop} {g : Nat} {D : List Nd} (h : RdIn w S g D) (hl : D.length ≤ 1000000) (id : Bs) :
    Calls Try.prog 45 #[pt g, .string ⟨id.toArray⟩] w fun e w' => e = .returned (.int .i64 (fnd D id)) ∧ w' = w := by
  obtain ⟨A, c, k0, hr⟩ := h.rd
  have HR := hide hr
  obtain ⟨N, hN⟩ : ∃ N, N = D.length := ⟨_, rfl⟩
  have HN := hide hN
  rw [← hN] at hl k0
  clear h hr hN
  go_enter Try.func45, Try.ntmps45
  go_wp2
  go_loopw [5] (fun i wr => ∃ k : Nat, k ≤ N ∧ i = .int .i64 k ∧ Hid (∀ (j : Nat) (m : Nd), j < k → D[j]? = some m → m.id ≠ id) ∧ wr = w) (fun i _ => N - (intOf i).toNat)
  case atStart => exact ⟨0, Nat.zero_le _, rfl, by show Hid _; exact hide (fun j _ hj => absurd hj (Nat.not_lt_zero j)), rfl⟩
  case round =>
    obtain ⟨k, hk, rfl, HA, rfl⟩ := hrel
    by_cases hlt : k < N
    · obtain ⟨n, hx⟩ : ∃ z, D[k]? = some z := ⟨_, List.getElem?_eq_getElem (by have := HN.out; omega)⟩
      obtain ⟨b, _, _, rfl, k1, _, _, _⟩ := HR.out k n hx
      have HX := hide hx
      clear hx
      by_cases he : n.id = id
      · have hq : (n.id == id) = true := by simpa using he
        have HF := hide (fnd_at HX.out he HA.out)
        clear he
        go_wp2
        go_ret
        exact ⟨by rw [HF.out]; rfl, rfl⟩
      · have hq : (n.id == id) = false := by simpa using he
        have HA2 := hide (show ∀ (j : Nat) (m : Nd), j < k + 1 → D[j]? = some m → m.id ≠ id from fun j m hj hm => by
          by_cases e : j = k
          · subst e
            have := HX.out
            rw [hm] at this
            injection this with this
            rw [this]; exact he
          · exact HA.out j m (by omega) hm)
        clear he HA
        go_wp2
        exact ⟨⟨k + 1, by omega, by go_num, by show Hid _; exact HA2, trivial⟩, by simp [intOf]; omega⟩
    · obtain rfl : k = N := by omega
      have HF := hide (fnd_no (D := D) (id := id) fun j m hj => HA.out j m (by have := (List.getElem?_eq_some_iff.1 hj).1; have := HN.out; omega) hj)
      clear HA
      go_wp2
      go_ret
      exact ⟨by rw [HF.out]; rfl, rfl⟩
set_option maxRecDepth 100000 in
set_option maxHeartbeats 4000000 in
theorem rhas_any {w : World} {S : Nat → Prop} {g : Nat} {D : List Nd} (h : RdIn w S g D) (hl : D.length ≤ 1000000) (id : Bs) :
    Calls Try.prog 22 #[pt g, .string ⟨id.toArray⟩] w fun e w' => e = .returned (.bool (has D id)) ∧ w' = w := by
  have HFi := hide (rfind_any h hl id)
  obtain ⟨A, c, k0, hr⟩ := h.rd
  have HR := hide hr
  clear h hr
  go_enter Try.func22, Try.ntmps22
  go_wp2_with fail
  refine HFi.out.mono ?_
  rintro e w1 ⟨rfl, rfl⟩
  rcases fnd_get (D := D) (id := id) with ⟨i, n, e1, e2, e3, e4, e5⟩ | ⟨e1, e2⟩
  · obtain ⟨b, _, _, rfl, _, _, k1, _⟩ := HR.out i n e2
    have hh : has D id = n.on := by rw [has_get, e4]
    have HHh := hide hh
    rw [e1]
    have d1 : decide ((0 : Int) ≤ (i : Int)) = true := decide_eq_true (by omega)
    obtain ⟨N, hN⟩ : ∃ N, N = D.length := ⟨_, rfl⟩
    rw [← hN] at k0 e5
    clear e1 e2 e3 e4 hh hN HFi HR
    go_wp2
    go_ret
    exact ⟨by rw [HHh.out]; rfl, rfl⟩
  · have hh : has D id = false := by rw [has_get, e2]
    have HHh := hide hh
    rw [e1]
    clear e1 e2 hh HFi HR
    go_wp2
    go_ret
    exact ⟨by rw [HHh.out]; rfl, rfl⟩
set_option maxRecDepth 100000 in
set_option maxHeartbeats 4000000 in
theorem rready_any {w : World} {S : Nat → Prop} {g : Nat} {D : List Nd} (h : RdIn w S g D) (hl : D.length ≤ 1000000) (ps : List Bs) (A : Option Addr) (c : Nat) (P : Nat → Prop) (hs : Vs w P A c (texts ps)) (hp : ps.length ≤ 1000000) :
    Calls Try.prog 46 #[pt g, .slice A ps.length c] w fun e w' => e = .returned (.bool (ready D ps)) ∧ w' = w := by
  have HH := hide (fun id => rhas_any h hl id)
  have Hs := hide hs
  obtain ⟨N, hN⟩ : ∃ N, N = ps.length := ⟨_, rfl⟩
  have HN := hide hN
  rw [← hN] at hp ⊢
  clear h hs hN
  go_enter Try.func46, Try.ntmps46
  go_wp2
  go_loopw [5] (fun i wr => ∃ k : Nat, k ≤ N ∧ i = .int .i64 k ∧ Hid (∀ p ∈ ps.take k, has D p = true) ∧ wr = w) (fun i _ => N - (intOf i).toNat)
  case atStart => exact ⟨0, Nat.zero_le _, rfl, by show Hid _; exact hide (fun p hp => by simp at hp), rfl⟩
  case round =>
    obtain ⟨k, hk, rfl, HA, rfl⟩ := hrel
    by_cases hlt : k < N
    · obtain ⟨p, hx⟩ : ∃ z, ps[k]? = some z := ⟨_, List.getElem?_eq_getElem (by have := HN.out; omega)⟩
      obtain ⟨b, o, rfl, _, k1⟩ := vs_at Hs.out hx
      have HX := hide hx
      have HC := hide (HH.out p)
      clear hx
      go_wp2_with fail
      refine HC.out.mono ?_
      rintro e w1 ⟨rfl, rfl⟩
      cases hh : has D p with
      | true =>
        have HA2 := hide (show ∀ q ∈ ps.take (k + 1), has D q = true from fun q hq => by
          rw [List.take_add_one, HX.out] at hq
          rcases List.mem_append.1 hq with hq | hq
          · exact HA.out q hq
          · obtain rfl : q = p := by simpa using hq
            exact hh)
        clear HA hh HC
        go_wp2
        exact ⟨⟨k + 1, by omega, by go_num, by show Hid _; exact HA2, trivial⟩, by simp [intOf]; omega⟩
      | false =>
        have HF := hide (show ready D ps = false by
          cases hr : ready D ps with
          | false => rfl
          | true => rw [ready_iff.1 hr p (List.mem_of_getElem? HX.out)] at hh; cases hh)
        clear HA hh HC
        go_wp2
        go_ret
        exact ⟨by rw [HF.out]; rfl, rfl⟩
    · obtain rfl : k = N := by omega
      have HF := hide (show ready D ps = true from ready_iff.2 fun p hp => HA.out p (by rw [HN.out, List.take_length]; exact hp))
      clear HA
      go_wp2
      go_ret
      exact ⟨by rw [HF.out]; rfl, rfl⟩
end Go.Proofs.Ytplmcpdlommmaaa.Dq
