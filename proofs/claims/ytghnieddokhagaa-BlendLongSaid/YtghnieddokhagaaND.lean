/-
  The reference of two trees, together: their paths.
-/
import Derived.BigQuiet
import Derived.Test.YtghnieddokhagaaQTH
import Derived.Test.YtghnieddokhagaaQTA
import Derived.Test.YtghnieddokhagaaQEE
import Derived.Test.YtghnieddokhagaaQEG
namespace Go.Proofs.Ytghnieddokhagaa.Tr
open Go Go.RowKit Kt Lw Li Lx Df

theorem addP_take {t : List Fl} {k : Nat} {f : Fl} (h : t[k]? = some f) : addP [] (t.take (k + 1)) = insP f.path (addP [] (t.take k)) := by
  obtain ⟨hk, e⟩ := List.getElem?_eq_some_iff.1 h
  unfold addP
  rw [List.take_succ_eq_append_getElem hk, e, List.foldl_append]
  rfl
theorem addP_full (a b : List Fl) : addP [] ((a ++ b).take (a.length + b.length)) = both a b := by
  rw [← List.length_append, List.take_length]
  unfold addP both addP
  rw [List.foldl_append]
/-- what is done is so much of what is to do -/
def goes (p : Bs) (l : List Bs) (k : Nat) (dn : Bool) (acc : List Bs) : Prop := acc.length ≤ 2 * k ∧ insP p l = acc ++ insR p dn (l.drop k)
theorem goes.zero (p : Bs) (l : List Bs) : goes p l 0 false [] := ⟨Nat.le_refl _, by rw [List.drop_zero, insR_is]; rfl⟩
theorem goes.past {p q : Bs} {l acc : List Bs} {k : Nat} {dn : Bool} (h : goes p l k dn acc) (hd : l.drop k = q :: l.drop (k + 1)) (hq : (dn || q == p) = true) : goes p l (k + 1) true (acc ++ [q]) := by
  refine ⟨by have := h.1; simp only [List.length_append, List.length_cons, List.length_nil]; omega, ?_⟩
  rw [h.2, hd, insR, hq, List.append_assoc]; rfl
theorem goes.here {p q : Bs} {l acc : List Bs} {k : Nat} (h : goes p l k false acc) (hd : l.drop k = q :: l.drop (k + 1)) (hq : (q == p) = false) (hl : lt p q = true) : goes p l (k + 1) true ((acc ++ [p]) ++ [q]) := by
  refine ⟨by have := h.1; simp only [List.length_append, List.length_cons, List.length_nil]; omega, ?_⟩
  rw [h.2, hd, insR, hq, hl, List.append_assoc, List.append_assoc]; rfl
theorem goes.ahead {p q : Bs} {l acc : List Bs} {k : Nat} (h : goes p l k false acc) (hd : l.drop k = q :: l.drop (k + 1)) (hq : (q == p) = false) (hl : lt p q = false) : goes p l (k + 1) false (acc ++ [q]) := by
  refine ⟨by have := h.1; simp only [List.length_append, List.length_cons, List.length_nil]; omega, ?_⟩
  rw [h.2, hd, insR, hq, hl, List.append_assoc]; rfl
theorem goes.full {p : Bs} {l acc : List Bs} (h : goes p l l.length true acc) : acc = insP p l := by
  rw [h.2, List.drop_length]; simp [insR]
theorem goes.last {p : Bs} {l acc : List Bs} (h : goes p l l.length false acc) : acc ++ [p] = insP p l := by
  rw [h.2, List.drop_length]; rfl
theorem insP_mem_le {p : Bs} {l : List Bs} {n : Nat} (hp : p.length ≤ n) (hl : ∀ q ∈ l, q.length ≤ n) : ∀ q ∈ insP p l, q.length ≤ n := by
  intro q hq
  rcases mem_insP.1 hq with rfl | h
  · exact hp
  · exact hl q h
theorem drop_getD {l : List Bs} {j : Nat} (h : j < l.length) : l.drop j = l.getD j [] :: l.drop (j + 1) := by
  rw [List.getD_eq_getElem?_getD, List.getElem?_eq_getElem h]; exact List.drop_eq_getElem_cons h
theorem mem_getD {l : List Bs} {j : Nat} (h : j < l.length) : l.getD j [] ∈ l := by
  rw [List.getD_eq_getElem?_getD, List.getElem?_eq_getElem h]; exact List.getElem_mem h
theorem owt_low {w : World} {B B' : Nat} {v : Value} {l : Ls} (h : OwT w B tS v l) (hb : B' ≤ B) : OwT w B' tS v l :=
  ⟨h.1, h.2.imp id fun ⟨g, cap, cur, hv', h1, h2⟩ => ⟨g, cap, cur, hv', Nat.le_trans hb h1, h2⟩⟩
set_option maxRecDepth 100000 in
set_option maxHeartbeats 16000000 in
theorem rpaths_any (a b : List Fl) (Aa Ab : Option Addr) (ca cb : Nat) (w : World) (ha : Fls w Aa ca a) (hb : Fls w Ab cb b) (na : a.length ≤ 1000000) (nb : b.length ≤ 1000000)
    (la : ∀ f ∈ a, f.path.length ≤ 100000) (lb : ∀ f ∈ b, f.path.length ≤ 100000) :
    Calls Try.prog 18 #[.slice Aa a.length ca, .slice Ab b.length cb] w fun y w' => ∃ v, y = .returned v ∧ OwT w' w.heap.size tS v (both a b) ∧ Below w.heap.size w w' := by
  have Ha := hide ha
  have Hb := hide hb
  have La := hide la
  have Lb := hide lb
  obtain ⟨Na, hNa⟩ : ∃ N, N = a.length := ⟨_, rfl⟩
  obtain ⟨Nb, hNb⟩ : ∃ N, N = b.length := ⟨_, rfl⟩
  rw [← hNa] at na ⊢
  rw [← hNb] at nb ⊢
  have HNa := hide hNa
  have HNb := hide hNb
  clear ha hb la lb hNa hNb
  go_enter Try.func18, Try.ntmps18
  go_wp2
  go_loopw [5, 6] (fun s i wr => ∃ (k : Nat) (l : Ls) (v0 : Value), v0 = s ∧ k ≤ Na + Nb ∧ i = .int .i64 k ∧ l.length ≤ k ∧ Hid (l = addP [] ((a ++ b).take k)) ∧ Hid (∀ p ∈ l, p.length ≤ 100000) ∧ Hid (OwT wr w.heap.size tS v0 l) ∧ Hid (Below w.heap.size w wr)) (fun _ i _ => Na + Nb - (intOf i).toNat)
  case atStart => exact ⟨0, [], _, rfl, Nat.zero_le _, rfl, Nat.zero_le _, hide rfl, hide (fun p hp => by cases hp), hide (OwT.nil _ _ _), hide (Below.refl _ _)⟩
  case round =>
    obtain ⟨k, l, v0, rfl, hk, rfl, hlk, HL, HM, Hown, Hbe⟩ := hrel
    by_cases hlt : k < Na + Nb
    · obtain ⟨Al, cl, rfl, hvs⟩ := Hown.out.vs
      have Hvs := hide hvs
      clear hvs
      have dk : decide ((k : Int) < (Na : Int) + (Nb : Int)) = true := decide_eq_true (by omega)
      by_cases hka : k < Na
      · have da : decide ((k : Int) < (Na : Int)) = true := decide_eq_true (by omega)
        obtain ⟨b1, o1, f, rfl, hbl, hf, hd, d0, d1⟩ := Ha.out.at (w' := wr) Hbe.out (k := k) (by have := HNa.out; omega)
        have hpl := La.out f (List.mem_of_getElem? hf)
        have hab : (a ++ b)[k]? = some f := by rw [List.getElem?_append_left (by have := HNa.out; omega)]; exact hf
        have Hnext := hide (HL.out ▸ (addP_take hab).symm)
        obtain ⟨p, hp⟩ : ∃ p, p = f.path := ⟨_, rfl⟩
        rw [← hp] at d0 hpl Hnext
        clear hp hbl hf hd d1 hab HL
        have Hpl := hide hpl
        obtain ⟨Nl, hNl⟩ : ∃ N, N = l.length := ⟨_, rfl⟩
        rw [← hNl] at hlk ⊢
        have HNl := hide hNl
        have hNl2 : Nl ≤ 2000000 := by omega
        clear hNl hpl Ha Hb La Lb
        obtain ⟨w1, hw1⟩ : ∃ z, z = wr := ⟨_, rfl⟩
        subst hw1
        go_wp2
        go_loopw [8, 9, 10] (fun s d i wr => ∃ (j : Nat) (v8 : Value) (acc : Ls) (dn : Bool), v8 = s ∧ d = .bool dn ∧ j ≤ Nl ∧ i = .int .i64 j ∧ Hid (OwT wr w1.heap.size tS v8 acc) ∧ Hid (goes p l j dn acc) ∧ Hid (Below w1.heap.size w1 wr)) (fun _ _ i _ => Nl - (intOf i).toNat)
        case atStart => exact ⟨0, _, [], false, rfl, rfl, Nat.zero_le _, rfl, hide (OwT.nil _ _ _), hide (goes.zero _ _), hide (Below.refl _ _)⟩
        case round =>
          obtain ⟨j, v8, acc, dn, rfl, rfl, hj, rfl, Howz, HF, Hbz⟩ := hrel
          by_cases hjl : j < Nl
          · obtain ⟨b2, o2, rfl, c0⟩ := vs_at Hvs.out (k := j) (by have := HNl.out; omega)
            have Hd := hide (drop_getD (l := l) (j := j) (by have := HNl.out; omega))
            have hql := HM.out (l.getD j []) (mem_getD (by have := HNl.out; omega))
            obtain ⟨q, hq⟩ : ∃ q, q = l.getD j [] := ⟨_, rfl⟩
            rw [← hq] at c0 Hd hql
            have Hql := hide hql
            have C0 := hide c0
            have c1 := agr C0.out Hbz.out
            have C1 := hide c1
            clear hq c0 hql d0
            have hd1 : decide ((j : Int) < (Nl : Int)) = true := decide_eq_true (by omega)
            by_cases hqp : q = p
            · subst hqp
              have HF2 := hide (HF.out.past Hd.out (by rw [beq_self_eq_true, Bool.or_true]))
              have hqq : (q == q) = true := beq_self_eq_true q
              clear HF
              have hL1 : acc.length + 1 ≤ 1000000000 := by have := HF2.out.1; rw [List.length_append, List.length_singleton] at this; omega
              go_wp2_with (refine wpList_pushT rfl (.tmp 63) (.tmp 68) rfl w1.heap.size w1 v8 acc q _ rfl rfl rfl Howz.out hL1 Hbz.out Hbz.out.size ?_; intro v1 w5 hown1 hb1 _ _)
              exact ⟨⟨j + 1, _, acc ++ [q], true, rfl, rfl, by omega, by go_num, hide hown1, hide HF2.out, hide hb1⟩, by simp [intOf]; omega⟩
            · have hqn := eqn_no hqp
              cases dn with
              | true =>
                have HF2 := hide (HF.out.past Hd.out rfl)
                clear HF
                have hL1 : acc.length + 1 ≤ 1000000000 := by have := HF2.out.1; rw [List.length_append, List.length_singleton] at this; omega
                go_wp2_with (refine wpList_pushT rfl (.tmp 63) (.tmp 68) rfl w1.heap.size w1 v8 acc q _ rfl rfl rfl Howz.out hL1 Hbz.out Hbz.out.size ?_; intro v1 w5 hown1 hb1 _ _)
                exact ⟨⟨j + 1, _, acc ++ [q], true, rfl, rfl, by omega, by go_num, hide hown1, hide HF2.out, hide hb1⟩, by simp [intOf]; omega⟩
              | false =>
                have HLs := hide (fun w => rless_any p q w Hpl.out Hql.out)
                go_wp2_with fail
                refine (HLs.out _).mono ?_
                rintro y w3 ⟨rfl, hb3⟩
                cases hl : Op.bytesLess p q with
                | false =>
                  have HF2 := hide (HF.out.ahead Hd.out hqn hl)
                  have hL1 : acc.length + 1 ≤ 1000000000 := by have := HF2.out.1; rw [List.length_append, List.length_singleton] at this; omega
                  have How3 := hide (Howz.out.kept hb3)
                  have Hb3 := hide (Hbz.out.trans (hb3.mono Hbz.out.size))
                  have c3 := agr c1 hb3
                  clear Howz Hbz hb3 c1 HF C1 HLs
                  go_wp2_with (refine wpList_pushT rfl (.tmp 63) (.tmp 68) rfl w1.heap.size w1 v8 acc q _ rfl rfl rfl How3.out hL1 Hb3.out Hb3.out.size ?_; intro v1 w5 hown1 hb1 _ _)
                  exact ⟨⟨j + 1, _, acc ++ [q], false, rfl, rfl, by omega, by go_num, hide hown1, hide HF2.out, hide hb1⟩, by simp [intOf]; omega⟩
                | true =>
                  have HF2 := hide (HF.out.here Hd.out hqn hl)
                  have hL1 : acc.length + 2 ≤ 1000000000 := by have := HF2.out.1; simp only [List.length_append, List.length_singleton] at this; omega
                  have How3 := hide (Howz.out.kept hb3)
                  have Hb3 := hide (Hbz.out.trans (hb3.mono Hbz.out.size))
                  have C3 := hide (agr c1 hb3)
                  clear Howz Hbz hb3 c1 HF C1 HLs
                  go_wp2_with (first | (refine wpList_pushT rfl (.tmp 59) (.tmp 61) rfl w1.heap.size w1 v8 acc p _ rfl rfl rfl How3.out (by omega) Hb3.out Hb3.out.size ?_; intro v1 w5 hown1 hb5 _ _; have e2 := agr C0.out hb5; have Hown1 := hide hown1; have Hb5 := hide hb5; clear hown1 hb5 How3 Hb3 C3) | (refine wpList_pushT rfl (.tmp 63) (.tmp 68) rfl w1.heap.size w1 v1 (acc ++ [p]) q _ rfl rfl rfl Hown1.out (by rw [List.length_append, List.length_singleton]; omega) Hb5.out Hb5.out.size ?_; intro v3 w6 hown3 hb6 _ _))
                  exact ⟨⟨j + 1, _, (acc ++ [p]) ++ [q], true, rfl, rfl, by omega, by go_num, hide hown3, hide HF2.out, hide hb6⟩, by simp [intOf]; omega⟩
          · obtain rfl : j = Nl := by omega
            have hd1 : decide ((j : Int) < (j : Int)) = false := decide_eq_false (by omega)
            have hF := HF.out
            rw [HNl.out] at hF
            have hL1 : acc.length + 1 ≤ 1000000000 := by have := hF.1; rw [← HNl.out] at this; omega
            have HM2 := hide (insP_mem_le Hpl.out HM.out)
            have hin := insP_len p l
            rw [← HNl.out] at hin
            cases dn with
            | true =>
              have he := hF.full
              have Hno := hide (he.trans Hnext.out)
              rw [← he] at HM2 hin
              have Hin := hide hin
              clear hF HF d0 Hnext
              go_wp2
              exact ⟨⟨k + 1, acc, _, rfl, by omega, by go_num, by have := Hin.out; omega, hide Hno.out, hide HM2.out, hide (owt_low Howz.out Hbe.out.size), hide (Hbe.out.trans (Hbz.out.mono Hbe.out.size))⟩, by simp [intOf]; omega⟩
            | false =>
              have he := hF.last
              have Hno := hide (he.trans Hnext.out)
              rw [← he] at HM2 hin
              have Hin := hide hin
              clear hF HF d0 Hnext
              go_wp2_with (refine wpList_pushT rfl (.tmp 72) (.tmp 74) rfl w1.heap.size w1 v8 acc p _ rfl rfl rfl Howz.out hL1 Hbz.out Hbz.out.size ?_; intro v1 w5 hown1 hb1 _ _)
              exact ⟨⟨k + 1, acc ++ [p], _, rfl, by omega, by go_num, by have := Hin.out; omega, hide Hno.out, hide HM2.out, hide (owt_low hown1 Hbe.out.size), hide (Hbe.out.trans (hb1.mono Hbe.out.size))⟩, by simp [intOf]; omega⟩
      · have da : decide ((k : Int) < (Na : Int)) = false := decide_eq_false (by omega)
        obtain ⟨b1, o1, f, rfl, hbl, hf, hd, d0, d1⟩ := Hb.out.at (w' := wr) Hbe.out (k := k - Na) (by have := HNb.out; omega)
        have hpl := Lb.out f (List.mem_of_getElem? hf)
        have hab : (a ++ b)[k]? = some f := by rw [List.getElem?_append_right (by have := HNa.out; omega), ← HNa.out]; exact hf
        have Hnext := hide (HL.out ▸ (addP_take hab).symm)
        obtain ⟨p, hp⟩ : ∃ p, p = f.path := ⟨_, rfl⟩
        rw [← hp] at d0 hpl Hnext
        clear hp hbl hf hd d1 hab HL
        have Hpl := hide hpl
        obtain ⟨Nl, hNl⟩ : ∃ N, N = l.length := ⟨_, rfl⟩
        rw [← hNl] at hlk ⊢
        have HNl := hide hNl
        have hNl2 : Nl ≤ 2000000 := by omega
        clear hNl hpl Ha Hb La Lb
        obtain ⟨w1, hw1⟩ : ∃ z, z = wr := ⟨_, rfl⟩
        subst hw1
        go_wp2
        go_loopw [8, 9, 10] (fun s d i wr => ∃ (j : Nat) (v8 : Value) (acc : Ls) (dn : Bool), v8 = s ∧ d = .bool dn ∧ j ≤ Nl ∧ i = .int .i64 j ∧ Hid (OwT wr w1.heap.size tS v8 acc) ∧ Hid (goes p l j dn acc) ∧ Hid (Below w1.heap.size w1 wr)) (fun _ _ i _ => Nl - (intOf i).toNat)
        case atStart => exact ⟨0, _, [], false, rfl, rfl, Nat.zero_le _, rfl, hide (OwT.nil _ _ _), hide (goes.zero _ _), hide (Below.refl _ _)⟩
        case round =>
          obtain ⟨j, v8, acc, dn, rfl, rfl, hj, rfl, Howz, HF, Hbz⟩ := hrel
          by_cases hjl : j < Nl
          · obtain ⟨b2, o2, rfl, c0⟩ := vs_at Hvs.out (k := j) (by have := HNl.out; omega)
            have Hd := hide (drop_getD (l := l) (j := j) (by have := HNl.out; omega))
            have hql := HM.out (l.getD j []) (mem_getD (by have := HNl.out; omega))
            obtain ⟨q, hq⟩ : ∃ q, q = l.getD j [] := ⟨_, rfl⟩
            rw [← hq] at c0 Hd hql
            have Hql := hide hql
            have C0 := hide c0
            have c1 := agr C0.out Hbz.out
            have C1 := hide c1
            clear hq c0 hql d0
            have hd1 : decide ((j : Int) < (Nl : Int)) = true := decide_eq_true (by omega)
            by_cases hqp : q = p
            · subst hqp
              have HF2 := hide (HF.out.past Hd.out (by rw [beq_self_eq_true, Bool.or_true]))
              have hqq : (q == q) = true := beq_self_eq_true q
              clear HF
              have hL1 : acc.length + 1 ≤ 1000000000 := by have := HF2.out.1; rw [List.length_append, List.length_singleton] at this; omega
              go_wp2_with (refine wpList_pushT rfl (.tmp 63) (.tmp 68) rfl w1.heap.size w1 v8 acc q _ rfl rfl rfl Howz.out hL1 Hbz.out Hbz.out.size ?_; intro v1 w5 hown1 hb1 _ _)
              exact ⟨⟨j + 1, _, acc ++ [q], true, rfl, rfl, by omega, by go_num, hide hown1, hide HF2.out, hide hb1⟩, by simp [intOf]; omega⟩
            · have hqn := eqn_no hqp
              cases dn with
              | true =>
                have HF2 := hide (HF.out.past Hd.out rfl)
                clear HF
                have hL1 : acc.length + 1 ≤ 1000000000 := by have := HF2.out.1; rw [List.length_append, List.length_singleton] at this; omega
                go_wp2_with (refine wpList_pushT rfl (.tmp 63) (.tmp 68) rfl w1.heap.size w1 v8 acc q _ rfl rfl rfl Howz.out hL1 Hbz.out Hbz.out.size ?_; intro v1 w5 hown1 hb1 _ _)
                exact ⟨⟨j + 1, _, acc ++ [q], true, rfl, rfl, by omega, by go_num, hide hown1, hide HF2.out, hide hb1⟩, by simp [intOf]; omega⟩
              | false =>
                have HLs := hide (fun w => rless_any p q w Hpl.out Hql.out)
                go_wp2_with fail
                refine (HLs.out _).mono ?_
                rintro y w3 ⟨rfl, hb3⟩
                cases hl : Op.bytesLess p q with
                | false =>
                  have HF2 := hide (HF.out.ahead Hd.out hqn hl)
                  have hL1 : acc.length + 1 ≤ 1000000000 := by have := HF2.out.1; rw [List.length_append, List.length_singleton] at this; omega
                  have How3 := hide (Howz.out.kept hb3)
                  have Hb3 := hide (Hbz.out.trans (hb3.mono Hbz.out.size))
                  have c3 := agr c1 hb3
                  clear Howz Hbz hb3 c1 HF C1 HLs
                  go_wp2_with (refine wpList_pushT rfl (.tmp 63) (.tmp 68) rfl w1.heap.size w1 v8 acc q _ rfl rfl rfl How3.out hL1 Hb3.out Hb3.out.size ?_; intro v1 w5 hown1 hb1 _ _)
                  exact ⟨⟨j + 1, _, acc ++ [q], false, rfl, rfl, by omega, by go_num, hide hown1, hide HF2.out, hide hb1⟩, by simp [intOf]; omega⟩
                | true =>
                  have HF2 := hide (HF.out.here Hd.out hqn hl)
                  have hL1 : acc.length + 2 ≤ 1000000000 := by have := HF2.out.1; simp only [List.length_append, List.length_singleton] at this; omega
                  have How3 := hide (Howz.out.kept hb3)
                  have Hb3 := hide (Hbz.out.trans (hb3.mono Hbz.out.size))
                  have C3 := hide (agr c1 hb3)
                  clear Howz Hbz hb3 c1 HF C1 HLs
                  go_wp2_with (first | (refine wpList_pushT rfl (.tmp 59) (.tmp 61) rfl w1.heap.size w1 v8 acc p _ rfl rfl rfl How3.out (by omega) Hb3.out Hb3.out.size ?_; intro v1 w5 hown1 hb5 _ _; have e2 := agr C0.out hb5; have Hown1 := hide hown1; have Hb5 := hide hb5; clear hown1 hb5 How3 Hb3 C3) | (refine wpList_pushT rfl (.tmp 63) (.tmp 68) rfl w1.heap.size w1 v1 (acc ++ [p]) q _ rfl rfl rfl Hown1.out (by rw [List.length_append, List.length_singleton]; omega) Hb5.out Hb5.out.size ?_; intro v3 w6 hown3 hb6 _ _))
                  exact ⟨⟨j + 1, _, (acc ++ [p]) ++ [q], true, rfl, rfl, by omega, by go_num, hide hown3, hide HF2.out, hide hb6⟩, by simp [intOf]; omega⟩
          · obtain rfl : j = Nl := by omega
            have hd1 : decide ((j : Int) < (j : Int)) = false := decide_eq_false (by omega)
            have hF := HF.out
            rw [HNl.out] at hF
            have hL1 : acc.length + 1 ≤ 1000000000 := by have := hF.1; rw [← HNl.out] at this; omega
            have HM2 := hide (insP_mem_le Hpl.out HM.out)
            have hin := insP_len p l
            rw [← HNl.out] at hin
            cases dn with
            | true =>
              have he := hF.full
              have Hno := hide (he.trans Hnext.out)
              rw [← he] at HM2 hin
              have Hin := hide hin
              clear hF HF d0 Hnext
              go_wp2
              exact ⟨⟨k + 1, acc, _, rfl, by omega, by go_num, by have := Hin.out; omega, hide Hno.out, hide HM2.out, hide (owt_low Howz.out Hbe.out.size), hide (Hbe.out.trans (Hbz.out.mono Hbe.out.size))⟩, by simp [intOf]; omega⟩
            | false =>
              have he := hF.last
              have Hno := hide (he.trans Hnext.out)
              rw [← he] at HM2 hin
              have Hin := hide hin
              clear hF HF d0 Hnext
              go_wp2_with (refine wpList_pushT rfl (.tmp 72) (.tmp 74) rfl w1.heap.size w1 v8 acc p _ rfl rfl rfl Howz.out hL1 Hbz.out Hbz.out.size ?_; intro v1 w5 hown1 hb1 _ _)
              exact ⟨⟨k + 1, acc ++ [p], _, rfl, by omega, by go_num, by have := Hin.out; omega, hide Hno.out, hide HM2.out, hide (owt_low hown1 Hbe.out.size), hide (Hbe.out.trans (hb1.mono Hbe.out.size))⟩, by simp [intOf]; omega⟩
    · obtain rfl : k = Na + Nb := by omega
      have hown := Hown.out
      rw [HL.out, HNa.out, HNb.out, addP_full] at hown
      have Hown2 := hide hown
      clear hown Hown HM hlk HL
      go_wp2
      go_ret
      exact ⟨_, rfl, Hown2.out, Hbe.out⟩
end Go.Proofs.Ytghnieddokhagaa.Tr
