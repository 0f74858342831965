/-
  What the reference's Turn and filled come to.
-/
import Derived.Test.YtcmjdepjckhpdaaDoorQDgG
import Derived.Test.YtcmjdepjckhpdaaDoorQZB
namespace Go.Proofs.YtcmjdepjckhpdaaDoor.Dg
open Go Go.RowKit Kt Sha

def rsum (x n : Nat) : Nat := x / 2 ^ n + x % 2 ^ n * 2 ^ (32 - n)
theorem rsum_rotr (x n : Nat) (h : x < 4294967296) (hn : n ≤ 32) : rotr x n = rsum x n := by
  unfold rotr rsum
  have hp : 2 ^ n * 2 ^ (32 - n) = 4294967296 := by rw [← Nat.pow_add, show n + (32 - n) = 32 from by omega]
  have e : x * 2 ^ (32 - n) % 4294967296 = x % 2 ^ n * 2 ^ (32 - n) := by
    rw [← hp, Nat.mul_mod_mul_right]
  have hlt : x / 2 ^ n < 2 ^ (32 - n) := by
    rw [Nat.div_lt_iff_lt_mul (Nat.pos_of_ne_zero (by simp)), Nat.mul_comm, hp]; exact h
  rw [e, Nat.or_comm, nat_join (32 - n) _ _ (Nat.mul_mod_left _ _) hlt]
  omega
theorem rsum_zero (x : Nat) : rsum x 0 = x := by simp [rsum, Nat.mod_one]
theorem rsum_succ (x n : Nat) (hn : n < 32) : rsum x n / 2 + rsum x n % 2 * 2147483648 = rsum x (n + 1) := by
  unfold rsum
  have hq : 2 ^ (32 - n) = 2 * 2 ^ (31 - n) := by rw [show 32 - n = (31 - n) + 1 from by omega, Nat.pow_succ, Nat.mul_comm]
  have hq' : 2 ^ (32 - (n + 1)) = 2 ^ (31 - n) := by rw [show 32 - (n + 1) = 31 - n from by omega]
  have hp : 2 ^ (n + 1) = 2 ^ n * 2 := Nat.pow_succ _ _
  have hpq : 2 ^ n * 2 ^ (31 - n) = 2147483648 := by rw [← Nat.pow_add, show n + (31 - n) = 31 from by omega]
  have hd : x / 2 ^ (n + 1) = x / 2 ^ n / 2 := by rw [hp, Nat.div_div_eq_div_mul]
  have hm : x % 2 ^ (n + 1) = x % 2 ^ n + 2 ^ n * (x / 2 ^ n % 2) := by rw [hp, Nat.mod_mul]
  rw [hq, hq', hd, hm]
  generalize x / 2 ^ n = a
  generalize x % 2 ^ n = b
  generalize 2 ^ (31 - n) = q at *
  generalize 2 ^ n = p at *
  have e1 : b * (2 * q) = 2 * (b * q) := by rw [Nat.mul_left_comm]
  have e2 : (b + p * (a % 2)) * q = b * q + a % 2 * 2147483648 := by
    rw [Nat.add_mul, ← hpq, Nat.mul_right_comm, Nat.mul_comm (p * q)]
  rw [e1, e2]
  omega
theorem rsum_lt {x n : Nat} (h : x < 4294967296) (hn : n ≤ 32) : rsum x n < 4294967296 := by rw [← rsum_rotr x n h hn]; exact rotr_lt h

theorem rturn_any (x : Nat) (n : Int) (w : World) (h : x < 4294967296) (n0 : 0 ≤ n) (n1 : n ≤ 32) :
    Calls Tryd.prog 47 #[.int .u32 x, .int .i64 n] w fun e w' => e = .returned (.int .u32 (rotr x n.toNat : Nat)) ∧ w = w' := by
  obtain ⟨m, rfl⟩ := Int.eq_ofNat_of_zero_le n0
  have hm : m ≤ 32 := by omega
  rw [Int.toNat_natCast, rsum_rotr x m h hm]
  go_enter Tryd.func47, Tryd.ntmps47
  go_wp2
  go_loop [0, 5] (fun y i => ∃ k : Nat, k ≤ m ∧ i = .int .i64 k ∧ Hid (y = .int .u32 (rsum x k : Nat))) (fun _ i => m - (intOf i).toNat)
  case atStart => exact ⟨0, Nat.zero_le _, rfl, by show _ = _; rw [rsum_zero]⟩
  case round =>
    obtain ⟨k, hk, rfl, hy⟩ := hrel
    have hy := hy.out
    subst hy
    by_cases hlt : k < m
    · have hs := hide (rsum_succ x k (by omega))
      have hb := rsum_lt (n := k) h (by omega)
      generalize rsum x k = y at *
      go_wp2
      go_round
      case rel => exact ⟨k + 1, by omega, by go_num, by show _ = _; rw [← hs.out]; exact u32_eq (by omega)⟩
      case measure => simp [intOf]; omega
    · obtain rfl : k = m := by omega
      go_wp2
      go_ret
      exact ⟨rfl, rfl⟩

theorem fhead_len (bs : List UInt8) (k : Nat) : (bs ++ head k).length = bs.length + 1 + k := by rw [List.length_append, head_len]; omega
theorem fill_test (n k : Nat) (h : k < zeros n) : (n + 1 + k) % 64 ≠ 56 := by unfold zeros at h; omega
theorem fill_end (n : Nat) : (n + 1 + zeros n) % 64 = 56 := by unfold zeros; omega

set_option maxHeartbeats 1000000 in
set_option maxRecDepth 100000 in
theorem rfilled_any (bs : List UInt8) (A : Option Addr) (c : Nat) (Pb : Nat → Prop) (w : World) (hs : Sl w Pb A c bs) (hn : bs.length ≤ 200000) :
    Calls Tryd.prog 45 #[.slice A bs.length c] w fun e w' => ∃ v, e = .returned v ∧ Own w' w.heap.size 5 v (bs ++ pad bs.length) ∧ Below w.heap.size w w' := by
  have Hs1 := hide ((hs.bound).move (w' := w.alloc (.cells #[] 5)) (fun b hp hb => Below.heap_alloc w _ b hb))
  clear hs
  have Hmade := hide (Own.made w w.heap.size 5 #[] 0 (Nat.le_refl _) rfl (Nat.zero_le _))
  have Hb0 := hide ((Below.refl w.heap.size w).alloc (Nat.le_refl _) (.cells #[] 5))
  go_enter Tryd.func45, Tryd.ntmps45
  go_wp2_with (first
    | (refine wpList_cat rfl (.tmp 7) (.tmp 8) 38 rfl Tryd.underlying38 info8 w.heap.size w _ [] bs _ A c rfl rfl Hmade.out Hs1.out (by simp; omega) Hb0.out (by simp) ?_
       intro v1 w1 hown1 hb1 _
       rw [List.nil_append] at hown1
       have Hown1 := hide hown1
       have Hb1 := hide hb1
       clear hown1 hb1)
    | (refine wpList_push rfl (.tmp 10) (.tmp 11) 38 rfl Tryd.underlying38 info8 w.heap.size w v1 bs [128] 1 1 rfl rfl Hown1.out rfl rfl (by simp; omega) Hb1.out Hb1.out.size ?_
       intro v2 w2 hown2 hb2 _
       have Hown2 := hide hown2
       have Hb2 := hide hb2
       clear hown2 hb2))
  go_loopw [3] (fun v wr => ∃ k g c : Nat, k ≤ zeros bs.length ∧ v = .slice (some ⟨g, 0, none⟩) (bs.length + 1 + k) c ∧ Own wr w.heap.size 5 v (bs ++ head k) ∧ Below w.heap.size w wr) (fun v _ => bs.length + 65 - lenOf v)
  case atStart =>
    obtain ⟨g, cap, rfl, _, _⟩ := Hown2.out.form (by simp)
    exact ⟨0, g, cap, by omega, by simp, Hown2.out, Hb2.out⟩
  case round =>
    obtain ⟨k, g, c, hk, rfl, hown, hb⟩ := hrel
    have hz := zeros_le bs.length
    have Hown := hide hown
    have Hb := hide hb
    clear hown hb
    by_cases hlt : k < zeros bs.length
    · have ht := fill_test bs.length k hlt
      have htb : (((bs.length : Int) + 1 + (k : Int)) % 64 != 56) = true := by rw [bne_iff_ne]; omega
      have Hl := hide (fhead_len bs k)
      go_wp2_with (refine wpList_push rfl (.tmp 17) (.tmp 18) 38 rfl Tryd.underlying38 info8 w.heap.size w (.slice (some ⟨g, 0, none⟩) (bs.length + 1 + k) c) (bs ++ head k) [0] 1 1 rfl rfl Hown.out rfl rfl (by rw [Hl.out]; simp; omega) Hb.out Hb.out.size ?_; intro v1 w1 hown1 hb1 _)
      go_roundw
      case rel =>
        rw [List.append_assoc, ← head_succ] at hown1
        obtain ⟨g1, c1, rfl, _, _⟩ := hown1.form (by rw [fhead_len]; omega)
        exact ⟨k + 1, g1, c1, by omega, by rw [fhead_len], hown1, hb1⟩
      case measure =>
        rw [List.append_assoc, ← head_succ] at hown1
        obtain ⟨g1, c1, rfl, _, _⟩ := hown1.form (by rw [fhead_len]; omega)
        simp [lenOf, head_len]; omega
    · obtain rfl : k = zeros bs.length := by omega
      have ht := fill_end bs.length
      have htb : (((bs.length : Int) + 1 + (zeros bs.length : Int)) % 64 != 56) = false := by rw [bne_eq_false_iff_eq]; omega
      clear ht
      go_wp2
      go_loopw [3, 5, 6] (fun v p i wr => ∃ j g c pj : Nat, j ≤ 8 ∧ i = .int .i64 j ∧ Hid (pj = 72057594037927936 / 256 ^ j) ∧ p = .int .u64 pj ∧ v = .slice (some ⟨g, 0, none⟩) (bs.length + 1 + zeros bs.length + j) c ∧ Own wr w.heap.size 5 v (bs ++ head (zeros bs.length) ++ bits8 bs.length j) ∧ Below w.heap.size w wr) (fun _ _ i _ => 8 - (intOf i).toNat)
      case atStart => exact ⟨0, g, c, 72057594037927936, by omega, rfl, rfl, rfl, rfl, by simpa [bits8] using Hown.out, Hb.out⟩
      case round =>
        obtain ⟨j, g, c, pj, hj, rfl, Hp, rfl, rfl, hown, hb⟩ := hrel
        have Hown := hide hown
        have Hb := hide hb
        clear hown hb
        by_cases hlt : j < 8
        · have hpj : pj = 256 ^ (7 - j) := by
            rw [Hp.out]
            rcases j with _ | _ | _ | _ | _ | _ | _ | _ | j
            all_goals first
              | rfl
              | omega
          have hp0 : 0 < pj := by rw [hpj]; exact Nat.pos_of_ne_zero (by simp)
          have hp1 : pj ≤ 72057594037927936 := by rw [Hp.out]; exact Nat.div_le_self _ _
          have Hpn : Hid (pj / 256 = 72057594037927936 / 256 ^ (j + 1)) := by
            show _ = _
            rw [Hp.out, Nat.div_div_eq_div_mul, Nat.pow_succ]
          have Hl := hide (fhead_len bs (zeros bs.length))
          have hcs : Hid ((#[Value.int .u8 ((8 * (bs.length : Int) / (pj : Int)).tmod 256 % 256)] : Array Value) = (u8s [UInt8.ofNat (bs.length * 8 / 256 ^ (7 - j))]).toArray) := by
            simp only [Hid, u8s, List.map_cons, List.map_nil, UInt8.toNat_ofNat']
            have e1 : (8 * (bs.length : Int) / (pj : Int)) = ((bs.length * 8 / pj : Nat) : Int) := by rw [Nat.mul_comm]; simp
            rw [← hpj, e1]
            generalize bs.length * 8 / pj = q
            rw [Int.tmod_eq_emod_of_nonneg (by omega)]
            congr 3
            omega
          have Hpj := hide hpj
          clear hpj
          go_wp2_with (refine wpList_push rfl (.tmp 28) (.tmp 34) 38 rfl Tryd.underlying38 info8 w.heap.size w (.slice (some ⟨g, 0, none⟩) (bs.length + 1 + zeros bs.length + j) c) (bs ++ head (zeros bs.length) ++ bits8 bs.length j) [UInt8.ofNat (bs.length * 8 / 256 ^ (7 - j))] 1 1 rfl rfl Hown.out hcs.out rfl (by rw [List.length_append, Hl.out, bits8_len]; simp; omega) Hb.out Hb.out.size ?_; intro v1 w1 hown1 hb1 _)
          go_roundw
          case rel =>
            rw [List.append_assoc, ← bits8_succ] at hown1
            obtain ⟨g1, c1, rfl, _, _⟩ := hown1.form (by simp [head_len]; omega)
            exact ⟨j + 1, g1, c1, pj / 256, by omega, by go_num, Hpn, by simp, by simp [head_len, bits8_len]; omega, hown1, hb1⟩
          case measure => simp [intOf]; omega
        · obtain rfl : j = 8 := by omega
          go_wp2
          go_ret
          refine ⟨_, rfl, ?_, Hb.out⟩
          have := Hown.out
          rw [List.append_assoc] at this
          exact this
end Go.Proofs.YtcmjdepjckhpdaaDoor.Dg
namespace Go.Proofs.YtcmjdepjckhpdaaDoor.Rc
open Go Rg

section
variable {P : Program} {ops : Array Oper} {Q : Exit → Act → World → Prop} {S : World → Prop}

/-- what j waits for, over d steps -/
def front (ops : Array Oper) (j : Nat) : Nat → List Nat
  | 0 => [j]
  | d + 1 => (List.range ops.size).filter fun k => (front ops j d).contains k || (front ops j d).any fun i => waits ops i k
/-- does every other one wait for j, or j for it? -/
def sink (ops : Array Oper) (j : Nat) : Bool :=
  (fun l => (List.range ops.size).all fun k => k == j || waits ops k j || l.contains k) (front ops j 12)
theorem front_spec {j : Nat} {listed : Array Bool} (hc : Closed ops listed) (hj : j ∈ Region.ready .any ops listed) : ∀ (d k : Nat), k ∈ front ops j d → k ≠ j → listed.getD k false = true
  | 0, k, h, hne => absurd (List.mem_singleton.1 h) hne
  | d + 1, k, h, hne => by
    have h1 := (List.mem_filter.1 h).2
    simp only [Bool.or_eq_true] at h1
    rcases h1 with h1 | h1
    · exact front_spec hc hj d k (by simpa using h1) hne
    · obtain ⟨i, hi, hw⟩ := List.any_eq_true.1 h1
      by_cases e : i = j
      · subst e
        obtain ⟨_, oj, hoj, hall⟩ := mem_ready.1 hj
        obtain ⟨e, he, hb, rfl⟩ := waits_spec hoj hw
        exact hall e he hb
      · exact hc _ _ hw (front_spec hc hj d i hi e)
theorem sink_spec {j k : Nat} {listed : Array Bool} (hc : Closed ops listed) (hj : j ∈ Region.ready .any ops listed) (hr : k ∈ Region.ready .any ops listed) (h : sink ops j = true) (hk : k < ops.size) (hne : k ≠ j) : listed.getD k false = true := by
  have h1 := List.all_eq_true.1 h k (List.mem_range.2 hk)
  simp only [Bool.or_eq_true, beq_iff_eq] at h1
  rcases h1 with (h1 | h1) | h1
  · exact absurd h1 hne
  · exfalso
    obtain ⟨_, ok, hok, hall⟩ := mem_ready.1 hr
    obtain ⟨e, he, hb, rfl⟩ := waits_spec hok h1
    have h2 := hall e he hb
    have h0 := (mem_ready.1 hj).1
    rcases Nat.lt_or_ge e.on listed.size with h' | h'
    · simp [h'] at h0 h2; rw [h0] at h2; cases h2
    · simp [Array.getElem?_eq_none h'] at h2
  · exact front_spec hc hj 12 k (by simpa using h1) hne

def wpAnyS (P : Program) (ops : Array Oper) (Q : Exit → Act → World → Prop) (S : World → Prop) : Nat → Array Bool → Act → World → Prop
  | 0, listed, a, w => Region.ready .any ops listed = [] ∧ Q .normal a w
  | fuel + 1, listed, a, w =>
    (Region.ready .any ops listed = [] → Q .normal a w) ∧
    ∀ i ∈ Region.ready .any ops listed, wpOp P ops Q i (fun a' w' => (sink ops i = false → S w') ∧ wpAnyS P ops Q S fuel (listed.setIfInBounds i true) a' w') a w

theorem any_of_S : ∀ (fuel : Nat) (listed : Array Bool) (a : Act) (w : World), wpAnyS P ops Q S fuel listed a w → wpAny P .any ops Q fuel listed a w
  | 0, _, _, _, h => h
  | fuel + 1, _, _, _, h => ⟨h.1, fun i hi => wpOp_mono (fun a' w' h' => any_of_S fuel _ a' w' h'.2) (h.2 i hi)⟩

theorem S_first {i : Nat} {oi : Oper} {v : Value} (hi : ops[i]? = some oi) (hsel : ∀ (j : Nat) (o : Oper) cs b, ops[j]? = some o → o.op ≠ .select cs b)
    (hQ : ∀ c a w, Q (.panic c) (a.put oi.dst v) w → Q (.panic c) a w) :
    ∀ (fuel : Nat) (listed : Array Bool) (a : Act) (w : World),
      (∀ j oj, ops[j]? = some oj → j ≠ i → listed.getD j true = false → (∀ e ∈ oj.after, Region.binds .any e = true → e.on ≠ i) → oi.apart ops oj = true) →
      i ∈ Region.ready .any ops listed → Closed ops listed → YieldsIf P ops S oi v a → S w →
      wpAnyS P ops Q S fuel (listed.setIfInBounds i true) (a.put oi.dst v) w → wpAnyS P ops Q S (fuel + 1) listed a w := by
  intro fuel
  induction fuel with
  | zero =>
    intro listed a w _ hr _ hy hS H
    refine ⟨fun h => (by rw [h] at hr; cases hr), fun j hj => ?_⟩
    by_cases hji : j = i
    · subst hji; exact hy.wpOp hi hS ⟨fun _ => hS, H⟩
    · have := ready_mono hj hji
      rw [H.1] at this
      cases this
  | succ fuel ih =>
    intro listed a w hfree hr hcl hy hS H
    refine ⟨fun h => (by rw [h] at hr; cases hr), fun j hj => ?_⟩
    by_cases hji : j = i
    · subst hji; exact hy.wpOp hi hS ⟨fun _ => hS, H⟩
    · have h1 := H.2 j (ready_mono hj hji)
      obtain ⟨hjun, oj, hoj, hall⟩ := mem_ready.1 hj
      have hnot : ∀ e ∈ oj.after, Region.binds .any e = true → e.on ≠ i := fun e he hb heq => by
        have h1 := hall e he hb
        have h0 := (mem_ready.1 hr).1
        rw [heq] at h1
        rcases Nat.lt_or_ge i listed.size with h' | h'
        · simp [h'] at h0 h1; rw [h0] at h1; cases h1
        · simp [Array.getElem?_eq_none h'] at h1
      have hsink : sink ops j = false := by
        cases hs : sink ops j with
        | false => rfl
        | true =>
          have h0 := (mem_ready.1 hr).1
          have h1 := sink_spec hcl hj hr hs (Array.getElem?_eq_some_iff.1 hi).1 (Ne.symm hji)
          rcases Nat.lt_or_ge i listed.size with h' | h'
          · simp [h'] at h0 h1; rw [h0] at h1; cases h1
          · simp [Array.getElem?_eq_none h'] at h1
      have h2 := wpOp_putIf hoj (hfree j oj hoj hji hjun hnot) (fun cs b => hsel i oi cs b hi) (fun cs b => hsel j oj cs b hoj) hQ hy h1
      have hfree' : ∀ k ok, ops[k]? = some ok → k ≠ i → (listed.setIfInBounds j true).getD k true = false →
          (∀ e ∈ ok.after, Region.binds .any e = true → e.on ≠ i) → oi.apart ops ok = true := fun k ok hk hki hun hno => by
        refine hfree k ok hk hki ?_ hno
        by_cases hjk : j = k
        · subst hjk; exact hjun
        · rw [getD_set_ne true hjk] at hun; exact hun
      refine wpOp_mono (fun a' w' h3 => ⟨fun _ => h3.2.1 hsink, ih (listed.setIfInBounds j true) a' w' hfree' (ready_mono hr (Ne.symm hji)) (closed_set hcl hj) h3.1 (h3.2.1 hsink) ?_⟩) h2
      rw [Array.setIfInBounds_comm _ _ hji]
      exact h3.2.2

def wpOrd (P : Program) (ops : Array Oper) (Q : Exit → Act → World → Prop) (S : World → Prop) : List (Nat × Oper × Bool) → Act → World → Prop
  | [], a, w => Q .normal a w
  | (_, o, true) :: rest, a, w => ∃ v, YieldsIf P ops S o v a ∧ S w ∧ wpOrd P ops Q S rest (a.put o.dst v) w
  | (n, o, false) :: rest, a, w => (if Region.wanted o (yielded ops a.tmps) then o.wp P a w (fun a' w' => (sink ops n = false → S w') ∧ wpOrd P ops Q S rest a' w') Q else ((sink ops n = false → S w) ∧ wpOrd P ops Q S rest (a.put o.dst undef) w))

theorem ord_sound {l : List Oper} (he : ops = l.toArray) (hin : inside ops = true) (hsel : ∀ (j : Nat) (o : Oper) cs b, ops[j]? = some o → o.op ≠ .select cs b) (hQ : ∀ c a d v w, Q (.panic c) (Act.put a d v) w → Q (.panic c) a w) :
    ∀ (order : List (Nat × Bool)) (listed : Array Bool) (a : Act) (w : World), ordFrom ops listed order = true →
      wpOrd P ops Q S (pick l order) a w → wpAnyS P ops Q S order.length listed a w
  | [], listed, a, w, hp, h => by
    simp only [ordFrom, List.isEmpty_iff] at hp
    exact ⟨hp, h⟩
  | (n, q) :: rest, listed, a, w, hp, h => by
    simp only [ordFrom, Bool.and_eq_true, decide_eq_true_eq] at hp
    obtain ⟨⟨hlt, hp1⟩, hp3⟩ := hp
    have hi : ops[n]? = some (l.getD n default) := by
      subst he
      have : n < l.length := by simpa using hlt
      simp [List.getElem?_eq_getElem this]
    have e : pick l ((n, q) :: rest) = (n, l.getD n default, q) :: pick l rest := rfl
    rw [e] at h
    cases q with
    | true =>
      simp only [if_true, Bool.and_eq_true] at hp1
      obtain ⟨v, hy, hS, h⟩ := h
      have ih := ord_sound he hin hsel hQ rest _ _ w hp3 h
      exact S_first hi hsel (fun c a w => hQ c a _ _ w) _ _ _ _ (Region.free_spec hi hp1.1.2) (by simpa using hp1.1.1) (closed_spec hp1.2 (inside_spec hin)) hy hS ih
    | false =>
      simp only [Bool.false_eq_true, if_false, beq_iff_eq] at hp1
      refine ⟨fun h0 => (by rw [h0] at hp1; cases hp1), fun i hii => ?_⟩
      rw [hp1] at hii
      obtain rfl := List.mem_singleton.1 hii
      unfold wpOp
      simp only [hi]
      simp only [wpOrd] at h
      have step : ∀ a' w', ((sink ops i = false → S w') ∧ wpOrd P ops Q S (pick l rest) a' w') →
          (sink ops i = false → S w') ∧ wpAnyS P ops Q S rest.length (listed.setIfInBounds i true) a' w' := fun a' w' h' =>
        ⟨h'.1, ord_sound he hin hsel hQ rest _ a' w' hp3 h'.2⟩
      split
      · rename_i hw
        rw [if_pos hw] at h
        exact .inl (Oper.wp_mono step h)
      · rename_i hw
        rw [if_neg hw] at h
        exact step _ _ h

/-- THE REGION, WALKED IN THE ORDER THAT IS GIVEN. -/
theorem wp_region_ord {id : Nat} {l : List Oper} {a : Act} {w : World} (S : World → Prop) (order : List (Nat × Bool)) (hm : P.follows .mixedOrders = true) (hp : ordPlan l.toArray order = true)
    (h : wpOrd P l.toArray (NoPanic Q) S (pick l order) a w.drew) : (Code.region id l.toArray true).wp P Q a w := by
  refine wp_region_noPanic ?_
  simp only [ordPlan, Bool.and_eq_true, beq_iff_eq] at hp
  obtain ⟨⟨⟨h0, h1⟩, h2⟩, h3⟩ := hp
  refine wp_region_any hm (any_of_S (S := S) _ _ _ _ ?_)
  have := ord_sound (P := P) (S := S) rfl h0 (Region.noSelect_spec h1) (fun _ _ _ _ _ h => h) order _ a w.drew h3 h
  rw [h2] at this
  exact this

theorem ord_quiet {n : Nat} {o : Oper} {rest : List (Nat × Oper × Bool)} {a : Act} {w : World} {v : Value} (hg : o.guard = none) (hy : ∀ w', S w' → (execOp a.eval o).run P w' = .ok (.value v) w') (hS : S w)
    (h : wpOrd P ops Q S rest (a.put o.dst v) w) : wpOrd P ops Q S ((n, o, true) :: rest) a w :=
  ⟨v, .inl ⟨by simp [Region.wanted, hg], hy⟩, hS, h⟩
/-- one whose guard says no -/
theorem ord_passed {n : Nat} {o : Oper} {rest : List (Nat × Oper × Bool)} {a : Act} {w : World} (hg : Region.wanted o (yielded ops a.tmps) = false) (hS : S w)
    (h : wpOrd P ops Q S rest (a.put o.dst undef) w) : wpOrd P ops Q S ((n, o, true) :: rest) a w :=
  ⟨undef, .inr ⟨hg, rfl⟩, hS, h⟩
/-- one whose guard says yes -/
theorem ord_guarded {n : Nat} {o : Oper} {rest : List (Nat × Oper × Bool)} {a : Act} {w : World} {v : Value} (hg : Region.wanted o (yielded ops a.tmps) = true) (hy : ∀ w', S w' → (execOp a.eval o).run P w' = .ok (.value v) w') (hS : S w)
    (h : wpOrd P ops Q S rest (a.put o.dst v) w) : wpOrd P ops Q S ((n, o, true) :: rest) a w :=
  ⟨v, .inl ⟨hg, hy⟩, hS, h⟩
theorem ord_loud {n : Nat} {o : Oper} {rest : List (Nat × Oper × Bool)} {a : Act} {w : World} (hg : Region.wanted o (yielded ops a.tmps) = true)
    (h : ∀ K : Act → World → Prop, (∀ a' w', (sink ops n = false → S w') → wpOrd P ops Q S rest a' w' → K a' w') → o.wp P a w K Q) : wpOrd P ops Q S ((n, o, false) :: rest) a w := by
  simp only [wpOrd]
  rw [if_pos hg]
  exact h _ fun a' w' h1 h2 => ⟨h1, h2⟩
theorem ord_nil {a : Act} {w : World} (h : Q .normal a w) : wpOrd P ops (NoPanic Q) S [] a w := NoPanic.normal h
end
end Go.Proofs.YtcmjdepjckhpdaaDoor.Rc
