/-
  order: Below: a map's keys, rising.
-/
import Derived.Test.YtplmcpdlommmaaaQCF
namespace Go.Proofs.Ytplmcpdlommmaaa.Oq
open Go Go.RowKit Go.Maps Kt Kg Lw Tr Dq

/-- a map whose keys are these -/
def Ks (w : World) (b : Nat) (P : Bs → Prop) : Prop := ∃ (n : Nat) (D0 : DataW Value), w.ownsMap Try.prog tId RR b n D0 ∧ (∀ x, Maps.has D0 (.string x) = true ↔ P x) ∧ Maps.size D0 ≤ 1000 ∧ (strKeys D0).Nodup ∧ ∀ x, Maps.has D0 (.string x) = true → ∀ zd, D0.atKey (.string x) zd = .held unV
theorem Ks.of {w : World} {q : Nat} {L : List Bs} (h : Mp w q (fun k => if k ∈ L then some unV else none)) (hs : ∀ x ∈ L, x.length ≤ 1000000) (hl : L.length ≤ 1000) : Ks w q (· ∈ L) := by
  obtain ⟨D0, h1, h2, h3, h4⟩ := h.owns (P := Try.prog) (K := tId) Try.underlying23 L (fun k hk => by
    by_cases e : k ∈ L
    · exact ⟨e, hs k e⟩
    · rw [if_neg e] at hk; cases hk) (by omega)
  refine ⟨_, D0, h1, fun x => ?_, by omega, h4, fun x hx zd => ?_⟩
  · rw [h2 x]
    by_cases e : x ∈ L <;> simp [e]
  · have hm : x ∈ L := by
      have := (h2 x).1 hx
      by_cases e : x ∈ L
      · exact e
      · rw [if_neg e] at this; cases this
    exact h.at_key (P := Try.prog) (K := tId) Try.underlying23 h1 (x := x) (v := unV) (by rw [if_pos hm]) (hs x hm) zd
theorem Ks.lt {w : World} {b : Nat} {P : Bs → Prop} (h : Ks w b P) : b < w.heap.size := by
  obtain ⟨n, D0, ⟨es, cl, hb, _⟩, _⟩ := h
  exact (Array.getElem?_eq_some_iff.1 hb).1
theorem Ks.move {w w' : World} {b : Nat} {P : Bs → Prop} (h : Ks w b P) (hb : w'.heap[b]? = w.heap[b]?) : Ks w' b P := by
  obtain ⟨n, D0, ⟨es, cl, h1, h2⟩, h3⟩ := h
  exact ⟨n, D0, ⟨es, cl, hb.trans h1, h2⟩, h3⟩
abbrev fKeys : Nat := 79
set_option maxRecDepth 100000 in
set_option maxHeartbeats 1000000 in
/-- slices.Collect of a map's keys -/
theorem collect_any {W : World} {Bm b : Nat} {P : Bs → Prop} (hk : Ks W b P) (hBm : Bm < W.heap.size) (hm : W.cell? ⟨Bm, 0, none⟩ = some (.map (some b))) :
    Calls Try.prog 62 #[.func (.func fKeys) #[] #[.pointer (some ⟨Bm, 0, none⟩)]] W fun y w' => ∃ v ss, y = .returned v ∧ OwT w' W.heap.size tId v ss ∧ ss.Nodup ∧ (∀ x, x ∈ ss ↔ P x) ∧ ss.length ≤ 1000 ∧ Below W.heap.size W w' := by
  obtain ⟨n, D0, hown, hhas, hsize, hnd, _⟩ := hk
  have hA := aseq_any (OwT.nil W W.heap.size tId) (Nat.le_refl _) (enters_of Try.func79 (by kernel_rfl) rfl) (by omega) (keysU_stops Bm b _ D0 W hBm hm hown)
  have HA := hide (Calls.mono hA (R' := fun y w' => ∃ v ss, y = .returned v ∧ OwT w' W.heap.size tId v ss ∧ ss.Nodup ∧ (∀ x, x ∈ ss ↔ P x) ∧ ss.length ≤ 1000 ∧ Below W.heap.size W w') (by
    rintro y w' ⟨v, ss, rfl, ⟨hp, hm2⟩, h1, h2⟩
    have hn := hp.nodup_iff.2 hnd
    refine ⟨v, ss, rfl, h1, hn, fun x => (hm2 x).trans (hhas x), ?_, h2⟩
    rw [hp.length_eq]
    have : (strKeys D0).length = Maps.size D0 := by
      obtain ⟨es, cl, _, _, _, rfl⟩ := hown
      simp [strKeys, Maps.size_eq]
    omega))
  clear hA hown hhas hsize hnd hm hBm
  go_enter Try.func62, Try.ntmps62
  go_wp2_with fail
  refine HA.out.mono ?_
  rintro y w1 ⟨v, ss, rfl, h1, h2, h3, h4, h5⟩
  have H := hide (And.intro h1 (And.intro h2 (And.intro h3 (And.intro h4 h5))))
  clear h1 h2 h3 h4 h5 HA
  go_wp2
  go_ret
  exact ⟨v, ss, rfl, H.out⟩
set_option maxRecDepth 100000 in
set_option maxHeartbeats 1000000 in
/-- slices.Sorted of a map's keys -/
theorem sorted_any {W : World} {Bm b : Nat} {P : Bs → Prop} (hk : Ks W b P) (hBm : Bm < W.heap.size) (hm : W.cell? ⟨Bm, 0, none⟩ = some (.map (some b))) :
    Calls Try.prog 64 #[.func (.func fKeys) #[] #[.pointer (some ⟨Bm, 0, none⟩)]] W fun y w' => ∃ v ss, y = .returned v ∧ OwT w' W.heap.size tId v ss ∧ Up ss ∧ (∀ x, x ∈ ss ↔ P x) ∧ ss.length ≤ 1000 ∧ Below W.heap.size W w' := by
  have HC := hide (collect_any hk hBm hm)
  clear hk hBm hm
  go_enter Try.func64, Try.ntmps64
  go_wp2_with fail
  refine HC.out.mono ?_
  rintro y w1 ⟨v, ss, rfl, h1, h2, h3, h4, h5⟩
  have HS := hide (sort_any h1 (by omega))
  have H := hide (And.intro h1 (And.intro h2 (And.intro h3 (And.intro h4 h5))))
  clear h1 h2 h3 h4 h5 HC
  go_wp2_with fail
  refine HS.out.mono ?_
  rintro y w2 ⟨rfl, h1, h2⟩
  have H1 := hide h1
  have H2 := hide h2
  clear h1 h2 HS
  go_wp2
  go_ret
  obtain ⟨q1, q2, q3, q4, q5⟩ := H.out
  exact ⟨v, srt ss, rfl, H1.out, srt_up q2, fun x => by rw [srt_mem, q3 x], by rw [srt_len]; exact q4, q5.grown H2.out q5.size fun k e => (World.ownsRow.lt q1 k e).1⟩
set_option maxRecDepth 100000 in
set_option maxHeartbeats 1000000 in
/-- order.Below -/
theorem pBelow_any {w0 : World} {In : World → (Nat → Prop) → Nat → List Nd → Prop} (C : Cd w0 In) {w : World} {S : Nat → Prop} {g : Nat} {D : List Nd} (hlow : Below w0.heap.size w0 w) (h : In w S g D) (hK : Okd D)
    (l : List Bs) (A : Option Addr) (c : Nat) (Pb : Nat → Prop) (hs : Vs w Pb A c (texts l)) (hl : l.length ≤ 40) (hx : ∀ x ∈ l, x.length ≤ 50) :
    Calls Try.prog 39 #[pt g, .slice A l.length c] w fun y w' => ∃ v, y = .returned v ∧ OwT w' w.heap.size tId v (bel D l) ∧ Below w.heap.size w w' := by
  have HB := hide (pbelow_any C hlow h hK l A c Pb hs hl hx)
  have HI := hide hK.inv
  have HSh := hide (show ∀ x ∈ bel D l, x.length ≤ 1000000 from fun x hx => by
    obtain ⟨n, hn, rfl, _⟩ := (has_iff hK.inv.up).1 (bel_has hK.inv hx)
    have := (hK.ids n hn).1
    omega)
  have HLe := hide (show (bel D l).length ≤ 1000 from by have := bel_len D l; have := all_len D true; have := hK.few; omega)
  clear hlow h hK hs hl hx
  generalize l.length = nl at *
  go_enter Try.func39, Try.ntmps39
  go_wp2_with fail
  refine HB.out.mono ?_
  rintro y w1 ⟨q, rfl, h1, h2, h3⟩
  have HK1 := hide (Ks.of h1 HSh.out HLe.out)
  have HB1 := hide h3
  clear h1 h2 h3 HB
  go_wp2_with fail
  refine (keysU_any (some q) w1).mono ?_
  rintro y w2 ⟨rfl, hw2⟩
  have hb12 : Below w1.heap.size w1 w2 := by rw [hw2]; exact (Below.refl _ _).alloc (Nat.le_refl _) _
  have hlt : w1.heap.size < w2.heap.size := by rw [hw2]; simp
  have hcell : w2.cell? ⟨w1.heap.size, 0, none⟩ = some (.map (some q)) := by rw [hw2]; exact (Row.fresh w1 58 #[Value.map (some q)]).cell 0
  have HS := hide (sorted_any (HK1.out.move (hb12.block q HK1.out.lt)) hlt hcell)
  have HB2 := hide (HB1.out.trans (hb12.mono HB1.out.size))
  clear hw2 hb12 hlt hcell HK1
  go_wp2_with fail
  refine HS.out.mono ?_
  rintro y w3 ⟨v, ss, rfl, h1, h2, h3, _, h5⟩
  have H1 := hide (show OwT w3 w.heap.size tId v (bel D l) from by rw [← up_ext h2 (bel_up HI.out l) h3]; exact owt_base h1 HB2.out.size)
  have H2 := hide (HB2.out.trans (h5.mono HB2.out.size))
  clear h1 h2 h3 h5 HS
  go_wp2
  go_ret
  exact ⟨v, rfl, H1.out, H2.out⟩
end Go.Proofs.Ytplmcpdlommmaaa.Oq
namespace Go.Proofs.Ytplmcpdlommmaaa.Oq
open Go Go.RowKit Go.Maps Kt Kg Lw Tr Dq

theorem mp_look {w : World} {q : Nat} {L : List Bs} (h : Mp w q (fun k => if k ∈ L then some unV else none)) (x : Bs) : (Instr.lookup tMH (.map (some q)) (kS x) true).run Try.prog w = .ok (.tuple #[.agg #[], .bool (decide (x ∈ L))]) w := by
  by_cases e : x ∈ L
  · have := h.look_some (P := Try.prog) (T := tMH) Try.underlying58 Try.underlying23 (k := x) (v := unV) (by simp [e]) true
    rw [this, decide_eq_true e]; rfl
  · have := h.look_none (P := Try.prog) (T := tMH) Try.underlying58 Try.underlying23 (zeroU w) (k := x) (by simp [e]) true
    rw [this, decide_eq_false e]; rfl
abbrev fDel : Nat := 60
set_option maxRecDepth 100000 in
set_option maxHeartbeats 1000000 in
theorem del1_any {W : World} {bx q : Nat} {L : List Bs} (hc : W.cell? ⟨bx, 0, none⟩ = some (.map (some q))) (hm : Mp W q (fun k => if k ∈ L then some unV else none)) (x : Bs) :
    Calls Try.prog 60 #[kS x, .agg #[], .pointer (some ⟨bx, 0, none⟩)] W fun y w' => y = .returned (.bool (!decide (x ∈ L))) ∧ Below W.heap.size W w' := by
  have hbx := World.block_lt_of_cell? _ _ hc
  have hb1 : Below W.heap.size W (W.alloc (.cells #[] 70)) := (Below.refl _ W).alloc (Nat.le_refl _) _
  have hc1 := (World.cell?_of_block (hb1.block _ hbx)).trans hc
  have hlk := mp_look (hm.move (hb1.block q hm.lt)) x
  have HB := hide hb1
  generalize decide (x ∈ L) = r at *
  clear hm hb1 hbx
  go_enter Try.func60, Try.ntmps60
  go_wp2
  go_ret
  exact ⟨rfl, HB.out.alloc HB.out.size _⟩
/-- what is left to look at, and what stays -/
structure Dl (P Q : Bs → Prop) (D : DataW Value) (left : Lit → Bool) : Prop where
  has : ∀ x, Maps.has D (.string x) = true ↔ P x ∧ (left (.string x) = true ∨ Q x)
  size : Maps.size D ≤ 1000
  once : (strKeys D).Nodup
  val : ∀ x, Maps.has D (.string x) = true → ∀ zd, D.atKey (.string x) zd = .held unV
theorem size_del (D : DataW Value) (k : Lit) : Maps.size (D.del k) ≤ Maps.size D := by
  cases D with
  | map es => exact List.length_filter_le _ _
  | _ => exact Nat.le_refl _
theorem keys_del {D : DataW Value} (k : Lit) (h : (strKeys D).Nodup) : (strKeys (D.del k)).Nodup := by
  cases D with
  | map es => exact List.Pairwise.sublist ((List.filter_sublist (l := es)).map _) h
  | _ => exact h
theorem Dl.keep {P Q : Bs → Prop} {D : DataW Value} {left : Lit → Bool} (h : Dl P Q D left) {x : Bs} (hq : Q x) : Dl P Q D (fun z => left z && !z.sameKey (.string x)) :=
  ⟨fun y => by
    rw [h.has y]
    by_cases e : y = x
    · subst e; simp [hq]
    · simp [Lit.sameKey, e], h.size, h.once, h.val⟩
theorem Dl.drop {P Q : Bs → Prop} {D : DataW Value} {left : Lit → Bool} (h : Dl P Q D left) {x : Bs} (hq : ¬ Q x) : Dl P Q (D.del (.string x)) (fun z => left z && !z.sameKey (.string x)) := by
  have hne : ∀ y, y ≠ x → (Lit.string y) ≠ .string x := fun y hy e => by injection e with e; exact hy e
  have hk : ∀ y, Maps.has (D.del (.string x)) (.string y) = true ↔ Maps.has D (.string y) = true ∧ y ≠ x := fun y => by
    by_cases e : y = x
    · subst e; rw [has_del_same]; simp
    · rw [has_del_other (hne y e)]; simp [e]
  refine ⟨fun y => ?_, Nat.le_trans (size_del _ _) h.size, keys_del _ h.once, fun y hy zd => ?_⟩
  · rw [hk, h.has y]
    by_cases e : y = x
    · subst e; simp [Lit.sameKey, hq]
    · simp [Lit.sameKey, e]
  · obtain ⟨h1, h2⟩ := (hk y).1 hy
    rw [atKey_del_other (hne y h2)]; exact h.val y h1 zd
set_option maxRecDepth 100000 in
set_option maxHeartbeats 4000000 in
/-- maps.DeleteFunc: what the other map lacks goes -/
theorem delfunc_any {w : World} {b bx q : Nat} {P : Bs → Prop} {L : List Bs} (hk : Ks w b P) (hc : w.cell? ⟨bx, 0, none⟩ = some (.map (some q))) (hm : Mp w q (fun k => if k ∈ L then some unV else none)) (hqb : q ≠ b) :
    Calls Try.prog 59 #[.map (some b), .func (.func fDel) #[] #[.pointer (some ⟨bx, 0, none⟩)]] w fun y w' => y = .returned (.tuple #[]) ∧ Ks w' b (fun x => P x ∧ x ∈ L) ∧ w.grownBy w' (some b) := by
  obtain ⟨n, D0, hown, hhas, hsize, hnd, hval⟩ := hk
  have hbx := World.block_lt_of_cell? _ _ hc
  have hbxb : bx ≠ b := fun e => by
    obtain ⟨es, cl, hb, _⟩ := hown
    rw [e] at hc
    unfold World.cell? at hc
    simp only [hb] at hc
    cases hc
  have HC := hide (show ∀ W, w.grownBy W (some b) → ∀ x, Calls Try.prog 60 #[kS x, .agg #[], .pointer (some ⟨bx, 0, none⟩)] W fun y w' => y = .returned (.bool (!decide (x ∈ L))) ∧ Hid (W.grownBy w' none) from fun W hg x =>
    (del1_any ((World.cell?_of_block (hg.block bx hbx (fun e => by injection e with e; exact hbxb e))).trans hc) (hm.move (hg.block q hm.lt (fun e => by injection e with e; exact hqb e))) x).mono fun y w' ⟨q1, q2⟩ => ⟨q1, hide ⟨q2.os, q2.tape, q2.output, q2.size, fun k hk _ => q2.block k hk⟩⟩)
  have HD0 := hide (show Dl P (· ∈ L) D0 (Maps.has D0) from ⟨fun x => by
    rw [hhas x]
    constructor
    · exact fun h => ⟨h, .inl h⟩
    · exact fun h => h.1, hsize, hnd, hval⟩)
  clear hhas hsize hnd hval hm hc hbx hbxb
  go_enter Try.func59, Try.ntmps59
  go_wp2_with (at_range; refine wpList_range_own _ rfl _ tMH rfl tId 70 (string_keyed Try.underlying23) Try.underlying58 _ b n D0 rfl hown ?_; intro w0 hrg0 hg0 hs0)
  go_frame
  obtain ⟨r, hr⟩ : ∃ r, r = w.heap.size := ⟨_, rfl⟩
  rw [← hr] at hrg0 ⊢
  have HR0 := hide (And.intro hrg0 (hg0.but (some b)))
  have HLo := hide (show w.heap.size ≤ r from by rw [hr]; exact Nat.le_refl _)
  clear hrg0 hg0 hs0 hown hr
  go_loopw [8] (fun _ wr => ∃ (left : Lit → Bool) (cnt : Nat) (D : DataW Value), Hid (wr.ranges Try.prog tId RR b r n D left cnt ∧ w.grownBy wr (some b)) ∧ Hid (Dl P (· ∈ L) D left)) (fun _ wr => wr.rangeLeft b r)
  case atStart => exact ⟨_, _, _, by show Hid _; exact HR0, by show Hid _; exact HD0⟩
  case round =>
    clear HR0 HD0
    obtain ⟨left, cnt, D, HR, HD⟩ := hrel
    have hrg := HR.out.1
    go_wp2_with (at_next; refine wpList_next_ranges _ rfl _ rfl tId (string_keyed Try.underlying23) RR encStr (fun z : Value => z) (fun key kl hk => by obtain ⟨x, hx, _⟩ := Maps.keyOf_str Try.underlying23 hk; exact ⟨x, hx⟩) (fun v _ _ => ⟨v, rfl⟩) b r n _ _ _ rfl hrg ?_ ?_)
    · intro hc0 hl0
      have HF := hide (show Ks wr b (fun x => P x ∧ x ∈ L) from ⟨n, D, hrg.owns, fun x => by rw [HD.out.has x, hl0]; simp, HD.out.size, HD.out.once, HD.out.val⟩)
      clear hrg hl0 hc0
      go_wp2
      go_end0
      exact ⟨rfl, HF.out, HR.out.2⟩
    · intro x0 c kl yd yp w2 cnt2 hkey hlk hv hat hrg2 hlt hg2 hs2 hen
      obtain ⟨x, ex, rfl, hxl⟩ := Maps.keyOf_str Try.underlying23 hkey
      obtain rfl : x0 = x := encStr_inj ex
      have hhx : Maps.has D (.string x0) = true := Maps.has_true_of_atKey hat
      have hcv : c = unV := by
        have h1 := HD.out.val x0 hhx (.held (.bool true))
        rw [hat] at h1
        unfold RR at hv
        injection hv with hv
        injection hv with hv
        rw [← hv] at h1
        injection h1
      subst hcv
      have hen2 : (Instr.entry (.pointer (some ⟨r, 0, none⟩))).run Try.prog w2 = .ok (.tuple #[kS x0, .agg #[]]) w2 := hen
      rw [show unV = Value.agg #[] from rfl]
      have hgw2 : w.grownBy w2 (some b) := HR.out.2.andThen hg2 (fun j hj => by injection hj with hj; subst hj; exact Or.inl HLo.out)
      have hb3 : w2.grownBy (w2.alloc (.cells #[] 70)) none := World.grownBy_alloc w2 _ none
      have hrg3 := hrg2.kept hb3 (by simp) (by simp)
      have hgw3 := hgw2.andThen hb3 (fun j hj => by cases hj)
      have HCx := HC.out _ hgw3 x0
      have HLt := hide (show ∀ (wz : World) (D' : DataW Value) (c' : Nat), wz.ranges Try.prog tId RR b r n D' (fun z => left z && !z.sameKey (.string x0)) c' → c' ≤ cnt2 → wz.rangeLeft b r < wr.rangeLeft b r from fun wz D' c' h1 h2 => by rw [h1.left_eq, hrg.left_eq]; omega)
      by_cases hxl2 : x0 ∈ L
      · rw [decide_eq_true hxl2] at HCx
        have HCx := hide HCx
        have HD2 := hide (HD.out.keep (Q := (· ∈ L)) hxl2)
        have H3 := hide (And.intro hrg3 hgw3)
        clear hen hxl2 hrg3 hgw3 hgw2 hb3 hat hkey hlk hv hhx hrg2 hlt hg2 hs2
        go_wp2_with fail
        refine HCx.out.mono ?_
        rintro e w4 ⟨rfl, hg4⟩
        have H4 := hide (And.intro (H3.out.1.kept hg4.out (by simp) (by simp)) (H3.out.2.andThen hg4.out (fun j hj => by cases hj)))
        clear hg4 HCx H3
        go_wp2
        exact ⟨⟨_, cnt2, D, by show Hid _; exact H4, by show Hid _; exact HD2⟩, HLt.out _ _ _ H4.out.1 (Nat.le_refl _)⟩
      · rw [decide_eq_false hxl2] at HCx
        have HCx := hide HCx
        have HD2 := hide (HD.out.drop (Q := (· ∈ L)) hxl2)
        have H3 := hide (And.intro hrg3 hgw3)
        have HKey := hide hkey
        clear hen hxl2 hrg3 hgw3 hgw2 hb3 hat hkey hlk hv hhx hrg2 hlt hg2 hs2
        go_wp2_with fail
        refine HCx.out.mono ?_
        rintro e w4 ⟨rfl, hg4⟩
        have H4 := hide (And.intro (H3.out.1.kept hg4.out (by simp) (by simp)) (H3.out.2.andThen hg4.out (fun j hj => by cases hj)))
        clear hg4 HCx H3
        go_wp2_with (at_delete; refine wpList_delete_ranges _ rfl _ _ tMH tId rfl 70 (string_keyed Try.underlying23) Try.underlying58 RR b r n _ _ _ rfl H4.out.1 _ _ rfl HKey.out ?_; intro w5 cnt5 hrg5 hle5 hturn5; go_frame)
        rw [strike_twice] at hrg5
        exact ⟨⟨_, cnt5, _, by show Hid _; exact hide ⟨hrg5, H4.out.2.andThen hturn5.grown (fun j hj => by injection hj with hj; exact Or.inr (by rw [hj]))⟩, by show Hid _; exact HD2⟩, HLt.out _ _ _ hrg5 hle5⟩
end Go.Proofs.Ytplmcpdlommmaaa.Oq
