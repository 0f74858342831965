/-
  order: Common, walked.
-/
import Derived.Test.YtplmcpdlommmaaaQCF
import Derived.Test.YtplmcpdlommmaaaQCH
import Derived.Test.YtplmcpdlommmaaaQXB
namespace Go.Proofs.Ytplmcpdlommmaaa.Oq
open Go Go.RowKit Go.Maps Kt Kg Lw Tr Dq

abbrev fCmp : Nat := 57
/-- compare, bound to a graph -/
def cmpV (g : Nat) : Value := .func (.func fCmp) #[.agg #[pt g]] #[]
set_option maxRecDepth 100000 in
set_option maxHeartbeats 4000000 in
/-- slices.MaxFunc by rank -/
theorem max_any {w0 : World} {In : World → (Nat → Prop) → Nat → List Nd → Prop} (C : Cd w0 In) {w : World} {S : Nat → Prop} {g : Nat} {D : List Nd} (hlow : Below w0.heap.size w0 w) (h : In w S g D) (hK : Okd D)
    (l : List Bs) (A : Option Addr) (c : Nat) (Pb : Nat → Prop) (hs : Vs w Pb A c (texts l)) (hl : l.length ≤ 1000) (h0 : 0 < l.length) (hx : ∀ x ∈ l, x.length ≤ 50) :
    Calls Try.prog 61 #[.slice A l.length c, .func (.func fCmp) #[.agg #[pt g]] #[]] w fun y w' => ∃ m, y = .returned (.string ⟨m.toArray⟩) ∧ m ∈ l ∧ (∀ y ∈ l, y = m ∨ rlt D y m) ∧ Below w.heap.size w w' := by
  have HC := hide (show ∀ (a b : Bs), a.length ≤ 50 → b.length ≤ 50 → ∀ W, Below w.heap.size w W → Calls Try.prog 57 #[.agg #[pt g], .string ⟨a.toArray⟩, .string ⟨b.toArray⟩] W fun y w' => y = .returned (.int .i64 (cmpR D a b)) ∧ Hid (Below W.heap.size W w') from fun a b ha hb W hW =>
    (pcompare_any C (hlow.trans (hW.mono hlow.size)) (C.below h hW) hK a b ha hb).mono fun y w' ⟨q1, q2⟩ => ⟨q1, hide q2⟩)
  have Hs := hide (vs_low hs)
  have Hx := hide hx
  obtain ⟨N, hN⟩ : ∃ N, N = l.length := ⟨_, rfl⟩
  have HN := hide hN
  rw [← hN] at hl h0 ⊢
  obtain ⟨b, o, rfl, hpb, c0⟩ := vs_at Hs.out (k := 0) (x := l.getD 0 []) (by rw [List.getD_eq_getElem?_getD, List.getElem?_eq_getElem (by omega)]; rfl)
  have HCell := hide (show ∀ W, Below w.heap.size w W → ∀ k x, l[k]? = some x → W.cell? ⟨b, o + k, none⟩ = some (.string ⟨x.toArray⟩) from fun W hW k x hk => by
    obtain ⟨b2, o2, e, _, ck⟩ := vs_at Hs.out hk
    injection e with e
    injection e with e1 e2 _
    subst e1 e2
    exact (World.cell?_of_block (hW.block b hpb)).trans ck)
  obtain ⟨m0, hm0⟩ : ∃ m0, m0 = l.getD 0 [] := ⟨_, rfl⟩
  rw [← hm0] at c0
  have hm0l : l[0]? = some m0 := by rw [hm0, List.getD_eq_getElem?_getD, List.getElem?_eq_getElem (by omega)]; rfl
  have HM0 := hide (show m0 ∈ l.take 1 ∧ ∀ y ∈ l.take 1, y = m0 ∨ rlt D y m0 from by
    have e : l.take 1 = [m0] := by
      rw [show (1 : Nat) = 0 + 1 from rfl, List.take_add_one, hm0l]; rfl
    rw [e]
    exact ⟨by simp, fun y hy => .inl (by simpa using hy)⟩)
  have d1 : decide ((N : Int) < 1) = false := decide_eq_false (by omega)
  clear hs hx hN h hK hlow hm0 hm0l
  rw [Nat.add_zero] at c0
  go_enter Try.func61, Try.ntmps61
  go_wp2
  go_loopw [5, 6] (fun mv i wr => ∃ (k : Nat) (m : Bs), mv = .string ⟨m.toArray⟩ ∧ i = .int .i64 k ∧ 1 ≤ k ∧ k ≤ N ∧ Hid (m ∈ l.take k ∧ ∀ y ∈ l.take k, y = m ∨ rlt D y m) ∧ Hid (Below w.heap.size w wr)) (fun _ i _ => N - (intOf i).toNat)
  case atStart => exact ⟨1, m0, rfl, rfl, Nat.le_refl _, h0, by show Hid _; exact HM0, by show Hid _; exact hide (Below.refl _ _)⟩
  case round =>
    clear HM0 c0
    obtain ⟨k, m, rfl, rfl, hk1, hk, HM, HB⟩ := hrel
    by_cases hlt : k < N
    · obtain ⟨x, hxk⟩ : ∃ z, l[k]? = some z := ⟨_, List.getElem?_eq_getElem (by have := HN.out; omega)⟩
      have hck := HCell.out wr HB.out k x hxk
      have HCm := hide (HC.out x m (Hx.out x (List.mem_of_getElem? hxk)) (Hx.out m (List.mem_of_mem_take HM.out.1)) wr HB.out)
      have HTk := hide (show l.take (k + 1) = l.take k ++ [x] from by rw [List.take_add_one, hxk]; rfl)
      have HCell2 := hide (fun W hW => HCell.out W hW k x hxk)
      clear hxk
      go_wp2_with fail
      refine HCm.out.mono ?_
      rintro e w2 ⟨rfl, hb2⟩
      have HB2 := hide (HB.out.trans (hb2.out.mono HB.out.size))
      have hck2 := HCell2.out w2 HB2.out
      obtain ⟨cv, hcv⟩ : ∃ z, z = cmpR D x m := ⟨_, rfl⟩
      rw [← hcv]
      have HCv := hide hcv
      clear hb2 HCm hcv hck
      by_cases hp : 0 < cv
      · have HM2 := hide (show x ∈ l.take (k + 1) ∧ ∀ y ∈ l.take (k + 1), y = x ∨ rlt D y x from by
          have hr : rlt D m x := cmpR_pos.1 (by rw [← HCv.out]; exact hp)
          rw [HTk.out]
          refine ⟨by simp, fun y hy => ?_⟩
          rcases List.mem_append.1 hy with hy | hy
          · rcases HM.out.2 y hy with e | e
            · rw [e]; exact .inr hr
            · exact .inr (rlt_trans e hr)
          · exact .inl (by simpa using hy))
        have d2 : decide (0 < cv) = true := decide_eq_true hp
        clear hp
        go_wp2
        exact ⟨⟨k + 1, x, rfl, by go_num, by omega, by omega, by show Hid _; exact HM2, by show Hid _; exact HB2⟩, by simp [intOf]; omega⟩
      · have HM2 := hide (show m ∈ l.take (k + 1) ∧ ∀ y ∈ l.take (k + 1), y = m ∨ rlt D y m from by
          have hr : ¬ rlt D m x := fun h => hp (by rw [HCv.out]; exact cmpR_pos.2 h)
          rw [HTk.out]
          refine ⟨List.mem_append_left _ HM.out.1, fun y hy => ?_⟩
          rcases List.mem_append.1 hy with hy | hy
          · exact HM.out.2 y hy
          · obtain rfl : y = x := by simpa using hy
            rcases rlt_tri D y m with e | e | e
            · exact .inr e
            · exact .inl e
            · exact absurd e hr)
        have d2 : decide (0 < cv) = false := decide_eq_false hp
        clear hp
        go_wp2
        exact ⟨⟨k + 1, m, rfl, by go_num, by omega, by omega, by show Hid _; exact HM2, by show Hid _; exact HB2⟩, by simp [intOf]; omega⟩
    · obtain rfl : k = N := by omega
      have HF := hide (show m ∈ l ∧ ∀ y ∈ l, y = m ∨ rlt D y m from by have := HM.out; rwa [HN.out, List.take_length] at this)
      clear HM
      go_wp2
      go_ret
      exact ⟨m, rfl, HF.out.1, HF.out.2, HB.out⟩
theorem own_str {w : World} {b n : Nat} {es0 : List (Lit × DataW Value)} (h : w.ownsMap Try.prog tId RR b n (.map es0)) : ∀ p ∈ es0, ∃ x, p.1 = .string x := by
  obtain ⟨es, clock, _, F, _, hD⟩ := h
  injection hD with hD
  subst hD
  intro p hp
  obtain ⟨x, hx, rfl⟩ := List.mem_map.1 (mem_sorted.1 hp)
  obtain ⟨y, hy⟩ := F.reads x hx
  rw [Go.WideElems.rg_of hy]
  obtain ⟨z, _, e, _⟩ := Maps.keyOf_str Try.underlying23 (Go.WideElems.rd_key hy)
  exact ⟨z, e⟩
theorem len_zero {w : World} {b : Nat} {P : Bs → Prop} (h : Ks w b P) : ∃ n : Nat, n ≤ 1000 ∧ (∀ ty, (Builtin.len_ #[tMH] ty #[.map (some b)]).run Try.prog w = .ok (.int .i64 (n : Int)) w) ∧ (n = 0 → ∀ x, ¬ P x) ∧ (n ≠ 0 → ∃ x, P x) := by
  obtain ⟨n, D0, hown, hhas, hsize, hnd, hval⟩ := h
  have hl := fun ty => hown.len Try.underlying58 ty
  obtain ⟨es0, rfl, hap, hkeys⟩ := hown.entries (string_keyed Try.underlying23)
  refine ⟨_, hsize, hl, fun h0 x hx => ?_, fun h0 => ?_⟩
  · have := (hhas x).2 hx
    rw [Maps.size_eq, List.length_eq_zero_iff] at h0
    subst h0
    cases this
  · rw [Maps.size_eq] at h0
    obtain ⟨p, hp⟩ := List.exists_mem_of_ne_nil es0 fun e => h0 (by rw [e]; rfl)
    obtain ⟨x, hx⟩ := own_str hown p hp
    refine ⟨x, (hhas x).1 ?_⟩
    rw [Maps.has_eq, List.any_eq_true]
    exact ⟨p, hp, by rw [hx]; simp [Lit.sameKey]⟩
set_option maxRecDepth 100000 in
set_option maxHeartbeats 4000000 in
/-- order.Common -/
theorem pCommon_any {w0 : World} {In : World → (Nat → Prop) → Nat → List Nd → Prop} (C : Cd w0 In) {w : World} {S : Nat → Prop} {g : Nat} {D : List Nd} (hlow : Below w0.heap.size w0 w) (h : In w S g D) (hK : Okd D)
    (a : List Bs) (A : Option Addr) (c : Nat) (Pa : Nat → Prop) (hs : Vs w Pa A c (texts a)) (hl : a.length ≤ 40) (hx : ∀ x ∈ a, x.length ≤ 50)
    (b : List Bs) (A2 : Option Addr) (c2 : Nat) (Pb : Nat → Prop) (hs2 : Vs w Pb A2 c2 (texts b)) (hl2 : b.length ≤ 40) (hx2 : ∀ x ∈ b, x.length ≤ 50) :
    Calls Try.prog 38 #[pt g, .slice A a.length c, .slice A2 b.length c2] w fun y w' => y = .returned (.tuple #[.string ⟨((common D a b).getD []).toArray⟩, .bool (common D a b).isSome]) ∧ Below w.heap.size w w' := by
  have HB1 := hide (pbelow_any C hlow h hK a A c Pa hs hl hx)
  have HB2 := hide (show ∀ W, Below w.heap.size w W → Calls Try.prog 58 #[pt g, .slice A2 b.length c2] W fun y w' => ∃ q, y = .returned (.map (some q)) ∧ Mp w' q (fun k => if k ∈ bel D b then some unV else none) ∧ W.heap.size ≤ q ∧ Below W.heap.size W w' from fun W hW =>
    pbelow_any C (hlow.trans (hW.mono hlow.size)) (C.below h hW) hK b A2 c2 _ (vs_move (vs_low hs2) fun k hk => hW.block k hk) hl2 hx2)
  have HI := hide hK.inv
  have HSh := hide (show ∀ l x, x ∈ bel D l → x.length ≤ 50 from fun l x hx => by
    obtain ⟨n, hn, rfl, _⟩ := (has_iff hK.inv.up).1 (bel_has hK.inv hx)
    exact (hK.ids n hn).1)
  have HLe := hide (show ∀ l, (bel D l).length ≤ 1000 from fun l => by have := bel_len D l; have := all_len D true; have := hK.few; omega)
  have HMx := hide (show ∀ W, Below w.heap.size w W → ∀ (l : List Bs) A c Pb, Vs W Pb A c (texts l) → l.length ≤ 1000 → 0 < l.length → (∀ x ∈ l, x.length ≤ 50) → Calls Try.prog 61 #[.slice A l.length c, .func (.func fCmp) #[.agg #[pt g]] #[]] W fun y w' => ∃ m, y = .returned (.string ⟨m.toArray⟩) ∧ m ∈ l ∧ (∀ y ∈ l, y = m ∨ rlt D y m) ∧ Below W.heap.size W w' from fun W hW l A c Pb h1 h2 h3 h4 =>
    max_any C (hlow.trans (hW.mono hlow.size)) (C.below h hW) hK l A c Pb h1 h2 h3 h4)
  clear hlow h hK hs hl hx hs2 hl2 hx2
  obtain ⟨r, hr⟩ : ∃ r, r = common D a b := ⟨_, rfl⟩
  rw [← hr]
  have HR := hide hr
  clear hr
  generalize a.length = na at *
  generalize b.length = nb at *
  go_enter Try.func38, Try.ntmps38
  go_wp2_with fail
  refine HB1.out.mono ?_
  rintro y w1 ⟨q1, rfl, h1, h2, h3⟩
  have HM1 := hide h1
  have HQ1 := hide h2
  have HL1 := hide h3
  have HBb := hide (HB2.out w1 h3)
  clear h1 h2 h3 HB1 HB2
  go_wp2_with fail
  refine HBb.out.mono ?_
  rintro y w2 ⟨q2, rfl, h1, h2, h3⟩
  have hq12 : q2 ≠ q1 := by have := HM1.out.lt; omega
  have HM2 := hide h1
  have HL2 := hide (HL1.out.trans (h3.mono HL1.out.size))
  have HM12 := hide (HM1.out.move (h3.block q1 HM1.out.lt))
  have HQ := hide hq12
  clear h1 h2 h3 HBb HL1 HM1 hq12
  go_wp2_with fail
  obtain ⟨w3, hw3⟩ : ∃ z, z = w2.alloc (.cells #[.map (some q2)] tMH) := ⟨_, rfl⟩
  have hb3 : Below w2.heap.size w2 w3 := by rw [hw3]; exact (Below.refl _ _).alloc (Nat.le_refl _) _
  have hc3 : w3.cell? ⟨w2.heap.size, 0, none⟩ = some (.map (some q2)) := by rw [hw3]; exact (Row.fresh w2 tMH #[Value.map (some q2)]).cell 0
  have hm1 := HM12.out.move (hb3.block q1 HM12.out.lt)
  have hm2 := HM2.out.move (hb3.block q2 HM2.out.lt)
  have HDl := hide (delfunc_any (Ks.of hm1 (fun x hx => by have := HSh.out a x hx; omega) (HLe.out a)) hc3 hm2 HQ.out)
  have HL3 := hide (HL2.out.trans (hb3.mono HL2.out.size))
  rw [← hw3]
  clear hw3 hb3 hc3 hm1 hm2 HM12 HM2
  refine HDl.out.mono ?_
  rintro y w4 ⟨rfl, hk4, hg4⟩
  have HL4 := hide (HL3.out.grown hg4 HL3.out.size fun k e => by injection e with e; rw [← e]; exact HQ1.out)
  have HK4 := hide hk4
  obtain ⟨n, hn1, hlen, hn2, hn3⟩ := len_zero hk4
  clear hk4 hg4 HDl
  by_cases h0 : n = 0
  · have HF := hide (show r = none from by
      rw [HR.out]
      exact common_none HI.out fun y h1 h2 => hn2 h0 y ⟨h1, h2⟩)
    subst h0
    clear hn2 hn3
    go_wp2
    go_ret2
    exact ⟨by rw [HF.out]; rfl, HL4.out⟩
  · have HNz := hide (hn3 h0)
    have hne : ((n : Int) == 0) = false := by rw [beq_eq_false_iff_ne]; omega
    clear hn2 hn3 h0
    go_wp2_with fail
    refine (keysU_any (some q1) w4).mono ?_
    rintro y w5 ⟨rfl, hw5⟩
    have hb5 : Below w4.heap.size w4 w5 := by rw [hw5]; exact (Below.refl _ _).alloc (Nat.le_refl _) _
    have hlt : w4.heap.size < w5.heap.size := by rw [hw5]; simp
    have hcell : w5.cell? ⟨w4.heap.size, 0, none⟩ = some (.map (some q1)) := by rw [hw5]; exact (Row.fresh w4 58 #[Value.map (some q1)]).cell 0
    have HCo := hide (collect_any (HK4.out.move (hb5.block q1 HK4.out.lt)) hlt hcell)
    have HL5 := hide (HL4.out.trans (hb5.mono HL4.out.size))
    clear hw5 hb5 hlt hcell hlen hne
    go_wp2_with fail
    refine HCo.out.mono ?_
    rintro y w6 ⟨v, ss, rfl, h1, h2, h3, h4, h5⟩
    obtain ⟨A6, c6, rfl, hv6, _⟩ := own_vs h1
    have hpos : 0 < ss.length := by
      obtain ⟨x, hx⟩ := HNz.out
      exact List.length_pos_of_mem ((h3 x).2 hx)
    have HL6 := hide (HL5.out.trans (h5.mono HL5.out.size))
    have HM6 := hide (HMx.out w6 HL6.out ss A6 c6 _ hv6 h4 hpos fun x hx => HSh.out a x ((h3 x).1 hx).1)
    have H3 := hide h3
    generalize ss.length = ns at *
    clear h1 h2 h3 h4 h5 hv6 hpos HCo
    go_wp2_with fail
    refine HM6.out.mono ?_
    rintro y w7 ⟨m, rfl, h1, h2, h3⟩
    have HF := hide (show r = some m from by
      rw [HR.out]
      have := (H3.out m).1 h1
      exact common_is HI.out this.1 this.2 fun y k1 k2 => h2 y ((H3.out y).2 ⟨k1, k2⟩))
    have HL7 := hide (HL6.out.trans (h3.mono HL6.out.size))
    clear h1 h2 h3 HM6
    go_wp2
    go_ret2
    exact ⟨by rw [HF.out]; rfl, HL7.out⟩
end Go.Proofs.Ytplmcpdlommmaaa.Oq
namespace Go.Proofs.Ytplmcpdlommmaaa.Oq
open Go Go.RowKit Kt Kg Lw Tr Dq

def at_ (l : List Bs) (k : Nat) : Bs := l.getD k []
/-- as it was, but for the places from a to b -/
structure Mvd (l l' : List Bs) (a b : Nat) : Prop where
  perm : l'.Perm l
  out : ∀ k, (k < a ∨ b ≤ k) → at_ l' k = at_ l k
theorem Mvd.refl (l : List Bs) (a b : Nat) : Mvd l l a b := ⟨List.Perm.refl _, fun _ _ => rfl⟩
theorem Mvd.trans {l l1 l2 : List Bs} {a b : Nat} (h : Mvd l l1 a b) (k : Mvd l1 l2 a b) : Mvd l l2 a b := ⟨k.perm.trans h.perm, fun j hj => (k.out j hj).trans (h.out j hj)⟩
theorem Mvd.mono {l l1 : List Bs} {a b a' b' : Nat} (h : Mvd l l1 a b) (h1 : a' ≤ a) (h2 : b ≤ b') : Mvd l l1 a' b' := ⟨h.perm, fun j hj => h.out j (by omega)⟩
theorem Mvd.len {l l1 : List Bs} {a b : Nat} (h : Mvd l l1 a b) : l1.length = l.length := h.perm.length_eq
theorem Mvd.swp {l l1 : List Bs} {a b i j : Nat} (h : Mvd l l1 a b) (hi : a ≤ i ∧ i < b) (hj : a ≤ j ∧ j < b) (hb : b ≤ l.length) : Mvd l (swp l1 i j) a b := by
  have hl := h.len
  refine ⟨(swp_perm (by omega) (by omega)).trans h.perm, fun k hk => ?_⟩
  unfold at_
  rw [swp_at (by omega) (by omega), if_neg (by omega), if_neg (by omega)]
  exact h.out k hk
/-- from a to b each one is not above the next ones -/
def Asc (D : List Nd) (l : List Bs) (a b : Nat) : Prop := ∀ p q, a ≤ p → p < q → q < b → ¬ rlt D (at_ l q) (at_ l p)
theorem rlt_asymm {D : List Nd} {x y : Bs} (h : rlt D x y) : ¬ rlt D y x := fun k => rlt_irr (rlt_trans h k)
/-- not above, twice -/
theorem nlt_trans {D : List Nd} {x y z : Bs} (h1 : ¬ rlt D y x) (h2 : ¬ rlt D z y) : ¬ rlt D z x := fun h => by
  rcases rlt_tri D x y with e | e | e
  · exact h2 (rlt_trans h e)
  · rw [e] at h; exact h2 h
  · exact h1 e
/-- one of them goes down -/
structure Ins (D : List Nd) (l : List Bs) (a i j : Nat) : Prop where
  aj : a ≤ j
  ji : j ≤ i
  asc : ∀ p q, a ≤ p → p < q → q ≤ i → q ≠ j → ¬ rlt D (at_ l q) (at_ l p)
theorem Ins.start {D : List Nd} {l : List Bs} {a i : Nat} (h : Asc D l a i) (ha : a ≤ i) : Ins D l a i i := ⟨ha, Nat.le_refl _, fun p q h1 h2 h3 h4 => h p q h1 h2 (by omega)⟩
theorem Ins.over {D : List Nd} {l : List Bs} {a i j : Nat} (h : Ins D l a i j) (hj : j = a ∨ ¬ rlt D (at_ l j) (at_ l (j - 1))) : Asc D l a (i + 1) := by
  intro p q h1 h2 h3
  by_cases e : q = j
  · subst e
    rcases hj with hj | hj
    · omega
    · by_cases e2 : p = q - 1
      · rw [e2]; exact hj
      · exact nlt_trans (h.asc p (q - 1) h1 (by omega) (by have := h.ji; omega) (by omega)) hj
  · exact h.asc p q h1 h2 (by omega) e
theorem Ins.down {D : List Nd} {l : List Bs} {a i j : Nat} (h : Ins D l a i j) (hj : a < j) (hl : i < l.length) (hlt : rlt D (at_ l j) (at_ l (j - 1))) : Ins D (swp l j (j - 1)) a i (j - 1) := by
  have hji := h.ji
  have e : ∀ k, at_ (swp l j (j - 1)) k = if k = j - 1 then at_ l j else if k = j then at_ l (j - 1) else at_ l k := fun k => by
    unfold at_
    exact swp_at (by omega) (by omega) k
  refine ⟨by omega, by omega, fun p q h1 h2 h3 h4 => ?_⟩
  rw [e q, e p, if_neg h4]
  by_cases eq : q = j
  · subst eq
    rw [if_pos rfl]
    by_cases ep : p = q - 1
    · rw [if_pos ep]; exact rlt_asymm hlt
    · rw [if_neg ep, if_neg (by omega)]
      exact h.asc p (q - 1) h1 (by omega) (by omega) (by omega)
  · rw [if_neg eq]
    by_cases ep : p = j - 1
    · rw [if_pos ep]; exact h.asc j q (by omega) (by omega) h3 eq
    · rw [if_neg ep]
      by_cases ep2 : p = j
      · rw [if_pos ep2]; exact h.asc (j - 1) q (by omega) (by omega) h3 eq
      · rw [if_neg ep2]; exact h.asc p q h1 h2 h3 eq
theorem wrap_small {k : Nat} (h : k ≤ 1000000) : IntKind.i64.wrap (k : Int) = (k : Int) := by simp [IntKind.wrap, IntKind.bits, IntKind.signed]; omega
/-- the library's comparison, wherever the row has turned -/
def Cmp (w : World) (g : Nat) (D : List Nd) (gd : Nat) : Prop := ∀ W, w.grownBy W (some g) → ∀ (a b : Bs), a.length ≤ 50 → b.length ≤ 50 →
  Calls Try.prog 57 #[.agg #[pt gd], .string ⟨a.toArray⟩, .string ⟨b.toArray⟩] W fun y w' => y = .returned (.int .i64 (cmpR D a b)) ∧ Hid (Below W.heap.size W w')
abbrev slV (g n cap : Nat) : Value := .slice (some ⟨g, 0, none⟩) n cap
theorem grown_below {A B C : World} {r : Option Nat} (h : A.grownBy B r) (k : Below B.heap.size B C) : A.grownBy C r :=
  ⟨k.os.trans h.os, k.tape.trans h.tape, k.output.trans h.output, Nat.le_trans h.size k.size, fun i hi hne => (k.block i (Nat.lt_of_lt_of_le hi h.size)).trans (h.block i hi hne)⟩
theorem own_swp {w : World} {g n cap i j : Nat} {l : List Bs} (h : OwT w 0 tId (slV g n cap) l) : OwT ((w.setCell ⟨g, i, none⟩ (encStr (at_ l j))).setCell ⟨g, j, none⟩ (encStr (at_ l i))) 0 tId (slV g n cap) (swp l i j) := OwT.set (OwT.set h i _) j _
theorem grown_two_put {A w : World} {g i j : Nat} (h : A.grownBy w (some g)) (x y : Value) : A.grownBy ((w.setCell ⟨g, i, none⟩ x).setCell ⟨g, j, none⟩ y) (some g) := grown_put (grown_put h x) y
theorem own_len {w : World} {g n cap : Nat} {l : List Bs} (h : OwT w 0 tId (slV g n cap) l) : l.length = n := by
  rcases h.2 with ⟨h1, _⟩ | ⟨_, _, _, hv, _⟩
  · cases h1
  · injection hv with _ h2 _; exact h2.symm
set_option maxRecDepth 100000 in
set_option maxHeartbeats 4000000 in
/-- slices' insertion sort -/
theorem insert_any {w : World} {g gd cap n : Nat} {D : List Nd} (H : Cmp w g D gd) {W : World} (hW : w.grownBy W (some g)) {l : List Bs} (hO : OwT W 0 tId (slV g n cap) l) (hn : n ≤ 1000) (hs : ∀ x ∈ l, x.length ≤ 50) (a b : Nat) (ha : a ≤ n) (hb : b ≤ n) :
    Calls Try.prog 95 #[slV g n cap, .int .i64 a, .int .i64 b, .func (.func fCmp) #[.agg #[pt gd]] #[]] W fun y w' => y = .returned (.tuple #[]) ∧ ∃ l', OwT w' 0 tId (slV g n cap) l' ∧ w.grownBy w' (some g) ∧ Mvd l l' a b ∧ Asc D l' a b := by
  have HC := hide H
  have HL := hide (own_len hO)
  have HS := hide hs
  have HO0 := hide hO
  have HW0 := hide hW
  clear H hO hW hs
  by_cases hab : a + 1 < b
  · go_enter Try.func95, Try.ntmps95
    go_wp2
    go_loopw [8] (fun iv wr => ∃ (i : Nat) (l1 : List Bs), iv = .int .i64 i ∧ a + 1 ≤ i ∧ i ≤ b ∧ Hid (OwT wr 0 tId (slV g n cap) l1) ∧ Hid (w.grownBy wr (some g)) ∧ Hid (Mvd l l1 a b) ∧ Hid (Asc D l1 a i)) (fun iv _ => b - (intOf iv).toNat)
    case atStart => exact ⟨a + 1, l, by go_num, Nat.le_refl _, by omega, by show Hid _; exact HO0, by show Hid _; exact HW0, by show Hid _; exact hide (Mvd.refl _ _ _), by show Hid _; exact hide (fun p q h1 h2 h3 => by omega)⟩
    case round =>
      clear HO0 HW0
      obtain ⟨i, l1, rfl, hi1, hi2, HO, HW, HM, HA⟩ := hrel
      by_cases hlt : i < b
      · have HI0 := hide (Ins.start HA.out (by omega))
        go_wp2
        obtain ⟨wo, hwo⟩ : ∃ z, z = wr := ⟨_, rfl⟩
        rw [← hwo]
        subst hwo
        go_loopw [9] (fun jv wr => ∃ (j : Nat) (l1 : List Bs), jv = .int .i64 j ∧ j ≤ i ∧ a ≤ j ∧ Hid (OwT wr 0 tId (slV g n cap) l1) ∧ Hid (w.grownBy wr (some g)) ∧ Hid (Mvd l l1 a b) ∧ Hid (Ins D l1 a i j)) (fun jv _ => (intOf jv).toNat)
        case atStart => exact ⟨i, l1, rfl, Nat.le_refl _, by omega, by show Hid _; exact HO, by show Hid _; exact HW, by show Hid _; exact HM, by show Hid _; exact HI0⟩
        case round =>
          clear HO HW HM HA HI0
          obtain ⟨j, l2, rfl, hj1, hj2, HO, HW, HM, HI⟩ := hrel
          by_cases hja : a < j
          · obtain ⟨j', rfl⟩ : ∃ j', j = j' + 1 := ⟨j - 1, by omega⟩
            have hln := own_len HO.out
            obtain ⟨c1, f1⟩ := rdy_cell HO.out (k := j' + 1) (by omega)
            obtain ⟨c0, f0⟩ := rdy_cell HO.out (k := j') (by omega)
            change wr.cell? ⟨g, j' + 1, none⟩ = some (encStr (at_ l2 (j' + 1))) at c1
            change wr.cell? ⟨g, j', none⟩ = some (encStr (at_ l2 j')) at c0
            have hx1 : (at_ l2 (j' + 1)).length ≤ 50 := HS.out _ (HM.out.perm.mem_iff.1 (by unfold at_; rw [List.getD_eq_getElem?_getD, List.getElem?_eq_getElem (by omega)]; exact List.getElem_mem _))
            have hx0 : (at_ l2 j').length ≤ 50 := HS.out _ (HM.out.perm.mem_iff.1 (by unfold at_; rw [List.getD_eq_getElem?_getD, List.getElem?_eq_getElem (by omega)]; exact List.getElem_mem _))
            have HCx := hide (HC.out wr.drew ⟨HW.out.os, HW.out.tape, HW.out.output, HW.out.size, HW.out.block⟩ (at_ l2 (j' + 1)) (at_ l2 j') hx1 hx0)
            have HOw := hide (fun (wz : World) (hz : Below wr.heap.size wr wz) => HO.out.kept hz)
            obtain ⟨x, hx⟩ : ∃ x, x = at_ l2 (j' + 1) := ⟨_, rfl⟩
            obtain ⟨y, hy⟩ : ∃ y, y = at_ l2 j' := ⟨_, rfl⟩
            rw [← hx] at c1 HCx
            rw [← hy] at c0 HCx
            have HX := hide hx
            have HY := hide hy
            have e1 : (j' : Int) + 1 - 1 = (j' : Int) := by omega
            have d1 : decide ((a : Int) < (j' : Int) + 1) = true := decide_eq_true (by omega)
            have hjn : j' + 1 < n := by omega
            have pw : IntKind.i64.wrap (j' : Int) = (j' : Int) := wrap_small (by omega)
            have p1 : (0 : Int) ≤ (j' : Int) + 1 := by omega
            have p2 : (j' : Int) + 1 < (n : Int) := by omega
            have p3 : (0 : Int) ≤ (j' : Int) := by omega
            have p4 : (j' : Int) < (n : Int) := by omega
            have hlt1 := (World.ownsRow.lt HO.out g rfl).2
            clear hx hy hx1 hx0 f1 f0
            go_wp2
            have hc : wr.drew.cell? ⟨g, j' + 1, none⟩ = some (encStr x) ∧ wr.drew.cell? ⟨g, j', none⟩ = some (encStr y) := ⟨c1, c0⟩
            refine Rg.wp_region_ord (fun w' => w'.cell? ⟨g, j' + 1, none⟩ = some (encStr x) ∧ w'.cell? ⟨g, j', none⟩ = some (encStr y)) [(0, true), (1, true), (2, true), (3, true), (4, true), (5, true), (6, true), (7, true), (8, true), (9, true), (10, true), (11, true), (12, true), (13, true), (14, false), (15, true), (16, true)] (by kernel_rfl) (by kernel_rfl) ?_
            simp only [Rg.pick, List.map_cons, List.map_nil, List.getD_cons_zero, List.getD_cons_succ]
            iterate 4 (refine Rg.ord_quiet (v := ?_) rfl (fun w' hS => ?_) hc ?_; rotate_left; (obtain ⟨s1, s2⟩ := hS; go_simp; with_reducible rfl); simp only [Act.put, List.setIfInBounds_toArray, List.set_cons_succ, List.set_cons_zero])
            try simp only [d1]
            iterate 10 (refine Rg.ord_guarded (v := ?_) (by rfl) (fun w' hS => ?_) hc ?_; rotate_left; (obtain ⟨s1, s2⟩ := hS; go_simp; with_reducible rfl); simp only [Act.put, List.setIfInBounds_toArray, List.set_cons_succ, List.set_cons_zero])
            refine Rg.ord_loud (by rfl) (fun K hK => ?_)
            go_simp
            refine HCx.out.mono ?_
            rintro e w5 ⟨rfl, hb5⟩
            have hb5' : Below wr.heap.size wr w5 := ⟨hb5.out.os, hb5.out.tape, hb5.out.output, hb5.out.size, hb5.out.block⟩
            have hc5 : w5.cell? ⟨g, j' + 1, none⟩ = some (encStr x) ∧ w5.cell? ⟨g, j', none⟩ = some (encStr y) := ⟨(World.cell?_of_block (hb5'.block g hlt1)).trans c1, (World.cell?_of_block (hb5'.block g hlt1)).trans c0⟩
            have HO5 := hide (HO.out.kept hb5')
            have HW5 := hide (grown_below HW.out hb5')
            obtain ⟨cv, hcv⟩ : ∃ z, z = cmpR D x y := ⟨_, rfl⟩
            rw [← hcv]
            refine hK _ _ (fun _ => hc5) ?_
            clear hK K hc c1 c0 HCx hb5 hb5' HOw
            by_cases hlt2 : rlt D x y
            · have d2 : decide (cv < 0) = true := decide_eq_true (by rw [hcv]; exact cmpR_neg.2 hlt2)
              have HI2 := hide (HI.out.down (by omega) (by omega) (by rw [← HX.out, show j' + 1 - 1 = j' from rfl, ← HY.out]; exact hlt2))
              have HM2 := hide (HM.out.swp (i := j' + 1) (j := j') (by omega) (by omega) (by rw [HL.out]; exact hb))
              have HO6 := hide (own_swp (i := j' + 1) (j := j') HO5.out)
              rw [← HX.out, ← HY.out] at HO6
              have HW6 := hide (grown_two_put (i := j' + 1) (j := j') HW5.out (encStr y) (encStr x))
              clear hcv hlt2
              iterate 1 (refine Rg.ord_guarded (v := ?_) (by rfl) (fun w' hS => ?_) hc5 ?_; rotate_left; (obtain ⟨s1, s2⟩ := hS; go_simp; with_reducible rfl); simp only [Act.put, List.setIfInBounds_toArray, List.set_cons_succ, List.set_cons_zero])
              iterate 1 (refine Rg.ord_quiet (v := ?_) rfl (fun w' hS => ?_) hc5 ?_; rotate_left; (obtain ⟨s1, s2⟩ := hS; go_simp; with_reducible rfl); simp only [Act.put, List.setIfInBounds_toArray, List.set_cons_succ, List.set_cons_zero])
              refine Rg.ord_nil ?_
              obtain ⟨c1, c0⟩ := hc5
              obtain ⟨f1, f0⟩ : w5.frozen? ⟨g, j' + 1, none⟩ = false ∧ w5.frozen? ⟨g, j', none⟩ = false := ⟨(rdy_cell HO5.out (k := j' + 1) (by omega)).2, (rdy_cell HO5.out (k := j') (by omega)).2⟩
              obtain ⟨v', hy'⟩ := cell?_setCell_some (w := w5) (p := ⟨g, j' + 1, none⟩) (x := encStr y) (q := ⟨g, j', none⟩) c0
              go_wp2
              go_region
              all_goals (try go_wp2)
              all_goals exact ⟨⟨j', swp l2 (j' + 1) j', rfl, by omega, by omega, by show Hid _; exact hide HO6.out, by show Hid _; exact hide ⟨HW6.out.os, HW6.out.tape, HW6.out.output, HW6.out.size, HW6.out.block⟩, by show Hid _; exact HM2, by show Hid _; exact HI2⟩, by simp [intOf]⟩
            · have d2 : decide (cv < 0) = false := decide_eq_false (by rw [hcv]; exact fun h => hlt2 (cmpR_neg.1 h))
              have HF := hide (HI.out.over (.inr (by rw [← HX.out, show j' + 1 - 1 = j' from rfl, ← HY.out]; exact hlt2)))
              clear hcv hlt2
              iterate 1 (refine Rg.ord_guarded (v := ?_) (by rfl) (fun w' hS => ?_) hc5 ?_; rotate_left; (obtain ⟨s1, s2⟩ := hS; go_simp; with_reducible rfl); simp only [Act.put, List.setIfInBounds_toArray, List.set_cons_succ, List.set_cons_zero])
              iterate 1 (refine Rg.ord_quiet (v := ?_) rfl (fun w' hS => ?_) hc5 ?_; rotate_left; (obtain ⟨s1, s2⟩ := hS; go_simp; with_reducible rfl); simp only [Act.put, List.setIfInBounds_toArray, List.set_cons_succ, List.set_cons_zero])
              refine Rg.ord_nil ?_
              go_wp2
              exact ⟨⟨i + 1, l2, by go_num, by omega, by omega, by show Hid _; exact HO5, by show Hid _; exact HW5, by show Hid _; exact HM, by show Hid _; exact HF⟩, by simp [intOf]; omega⟩
          · obtain rfl : j = a := by omega
            have HF := hide (HI.out.over (.inl rfl))
            have d1 : decide ((j : Int) < (j : Int)) = false := by simp
            go_wp2
            go_quiet (fail)
            go_wp2
            exact ⟨⟨i + 1, l2, by go_num, by omega, by omega, by show Hid _; exact hide (HO.out.drewN nq), by show Hid _; exact hide ⟨HW.out.os, HW.out.tape, HW.out.output, HW.out.size, HW.out.block⟩, by show Hid _; exact HM, by show Hid _; exact HF⟩, by simp [intOf]; omega⟩
      · obtain rfl : i = b := by omega
        go_wp2
        go_end0
        exact ⟨rfl, l1, HO.out, HW.out, HM.out, HA.out⟩
  · have d1 : decide ((a : Int) + 1 < (b : Int)) = false := decide_eq_false (by omega)
    go_enter Try.func95, Try.ntmps95
    go_wp2
    refine wp_loop_rounds 1 ?_
    rw [rounds_succ]
    go_wp2
    go_end0
    exact ⟨rfl, l, HO0.out, HW0.out, Mvd.refl _ _ _, fun p q h1 h2 h3 => by omega⟩
end Go.Proofs.Ytplmcpdlommmaaa.Oq
