/-
  Hunks as a text, on lists alone: numbers, heads, and that a head is read.
-/
import Derived.Test.YtfmmececocilhaaDoorHA
import Derived.Test.YtfmmececocilhaaDoorLA
import Derived.Lib.ParseIntB
import Derived.Lib.IndexMore
import Derived.Lib.ItoaNum
namespace Go.Proofs.YtfmmececocilhaaDoor.Un
open Go Df Li Hu

/-- the number that digits tell, behind one told so far -/
def dval (acc : Nat) (l : List UInt8) : Nat := l.foldl (fun a c => a * 10 + (c.toNat - 48)) acc
theorem dval_nil (acc : Nat) : dval acc [] = acc := rfl
theorem dval_cons (acc : Nat) (c : UInt8) (r : List UInt8) : dval acc (c :: r) = dval (acc * 10 + (c.toNat - 48)) r := by rw [dval, List.foldl_cons]; exact Eq.refl (dval _ r)
def isDig (c : UInt8) : Prop := 48 ≤ c.toNat ∧ c.toNat ≤ 57
theorem dval_ge : ∀ (l : List UInt8) (acc : Nat), acc ≤ dval acc l
  | [], acc => Nat.le_refl _
  | c :: r, acc => by rw [dval_cons]; have := dval_ge r (acc * 10 + (c.toNat - 48)); omega
theorem dval_append (l r : List UInt8) (acc : Nat) : dval acc (l ++ r) = dval (dval acc l) r := List.foldl_append
theorem dig_of (d : Nat) (h : d < 10) : isDig (UInt8.ofNat (48 + d)) ∧ (UInt8.ofNat (48 + d)).toNat - 48 = d := by
  have h1 : (UInt8.ofNat (48 + d)).toNat = 48 + d := by rw [UInt8.toNat_ofNat']; omega
  exact ⟨⟨by omega, by omega⟩, by omega⟩
theorem dec_dig (u : Nat) : ∀ c ∈ Lib.decDigits u, isDig c := by
  induction u using Nat.strongRecOn with
  | ind u ih =>
    intro c hc
    rw [Lib.decDigits] at hc
    split at hc
    · rename_i h
      obtain rfl : c = UInt8.ofNat (48 + u) := by simpa using hc
      exact (dig_of u h).1
    · rename_i h
      rcases List.mem_append.1 hc with hc | hc
      · exact ih (u / 10) (by omega) c hc
      · obtain rfl : c = UInt8.ofNat (48 + u % 10) := by simpa using hc
        exact (dig_of (u % 10) (by omega)).1
theorem dec_val (u : Nat) : dval 0 (Lib.decDigits u) = u := by
  induction u using Nat.strongRecOn with
  | ind u ih =>
    rw [Lib.decDigits]
    split
    · rename_i h
      rw [dval_cons, dval_nil, (dig_of u h).2]; omega
    · rename_i h
      rw [dval_append, ih (u / 10) (by omega), dval_cons, dval_nil, (dig_of (u % 10) (by omega)).2]; omega
theorem dec_ne (u : Nat) : Lib.decDigits u ≠ [] := by
  rw [Lib.decDigits]
  split
  · simp
  · simp
theorem pm_ok (M : Nat) (hM : M < 1844674407370955162) : ∀ (l : List UInt8) (acc : Nat), (∀ c ∈ l, isDig c) → dval acc l ≤ M → Lib.parseUintM M acc l = .ok (dval acc l)
  | [], acc, _, _ => rfl
  | c :: r, acc, hd, hv => by
    have h1 := hd c List.mem_cons_self
    rw [dval_cons] at hv
    have h2 := dval_ge r (acc * 10 + (c.toNat - 48))
    rw [Lib.parseUintM, if_pos (show 48 ≤ c.toNat ∧ c.toNat ≤ 57 from h1), if_neg (by omega), if_neg (by omega), dval_cons]
    exact pm_ok M hM r _ (fun c hc => hd c (List.mem_cons_of_mem _ hc)) hv
theorem pm_le (M : Nat) : ∀ (l : List UInt8) (acc v : Nat), acc ≤ M → Lib.parseUintM M acc l = .ok v → v ≤ M
  | [], acc, v, h, hp => by rw [Lib.parseUintM] at hp; injection hp with hp; omega
  | c :: r, acc, v, h, hp => by
    rw [Lib.parseUintM] at hp
    split at hp
    · split at hp
      · cases hp
      · split at hp
        · cases hp
        · exact pm_le M r _ v (by omega) hp
    · cases hp
/-- what readNumber answers -/
def pn (s : List UInt8) : Nat := match Lib.parseUintB 31 s with
  | .ok v => v
  | .syntax => 0
  | .range => 2147483647
theorem pn_le (s : List UInt8) : pn s ≤ 2147483647 := by
  unfold pn
  split
  · rename_i v h
    unfold Lib.parseUintB at h
    split at h
    · cases h
    · exact pm_le _ _ _ _ (Nat.zero_le _) h
  · omega
  · omega
theorem pn_dec (u : Nat) (h : u < 2147483648) : pn (Lib.decDigits u) = u := by
  have h1 : Lib.parseUintB 31 (Lib.decDigits u) = .ok u := by
    unfold Lib.parseUintB
    rw [if_neg (dec_ne u), pm_ok _ (by decide) _ _ (dec_dig u) (by rw [dec_val]; omega), dec_val]
  rw [pn, h1]
theorem itoa_nat (n : Int) (h : 0 ≤ n) : Lib.itoa n = Lib.decDigits n.toNat := by
  rw [Lib.itoa, if_neg (by omega)]
theorem itoa_dig (n : Int) (h : 0 ≤ n) : ∀ c ∈ Lib.itoa n, isDig c := by rw [itoa_nat n h]; exact dec_dig _
theorem pn_itoa (n : Int) (h : 0 ≤ n) (h2 : n < 2147483648) : (pn (Lib.itoa n) : Int) = n := by
  rw [itoa_nat n h, pn_dec _ (by omega)]; omega

/-- the first one of a word, behind what hasn't its first byte -/
theorem index_at (t : List UInt8) (b : UInt8) (y : List UInt8) : ∀ x : List UInt8, b ∉ x → Lib.index (x ++ (b :: t ++ y)) (b :: t) = x.length
  | [], _ => by
    rw [List.nil_append, List.cons_append, Lib.index, if_pos]
    · rfl
    · rw [← List.cons_append]
      exact List.isPrefixOf_iff_prefix.2 (List.prefix_append _ _)
  | c :: x, h => by
    have hc : c ≠ b := fun e => h (by rw [e]; exact List.mem_cons_self)
    have ih := index_at t b y x (fun hb => h (List.mem_cons_of_mem _ hb))
    rw [List.cons_append, Lib.index, ih, if_neg, if_neg]
    · simp
    · simp
    · simp [List.isPrefixOf, hc.symm]
theorem cut_at (t : List UInt8) (b : UInt8) (x y : List UInt8) (h : b ∉ x) : Lib.cut (x ++ (b :: t ++ y)) (b :: t) = (x, y, true) := by
  rw [Lib.cut, index_at t b y x h, if_pos (by omega)]
  have h1 : ((x.length : Int)).toNat = x.length := by omega
  rw [h1, List.take_left, ← List.drop_drop, List.drop_left, List.drop_left]

/-- where a side is told to be -/
def plc (p many : Int) : Int := p + min many 1
def sideT (p many : Int) : List UInt8 := Lib.itoa (plc p many) ++ 44 :: Lib.itoa many
def opensB : List UInt8 := [64, 64, 32, 45]
def plusB : List UInt8 := [32, 43]
def closesB : List UInt8 := [32, 64, 64, 10]
def headT (a an b bn : Int) : List UInt8 := opensB ++ (sideT a an ++ (plusB ++ (sideT b bn ++ closesB)))
/-- a side's numbers can be told -/
def Sml (p many : Int) : Prop := 0 ≤ p ∧ 0 ≤ many ∧ many < 2147483648 ∧ plc p many < 2147483648
def rdSide (s : List UInt8) : Int × Int := ((pn (Lib.cut s [44]).1 : Int) - min (pn (Lib.cut s [44]).2.1 : Int) 1, (pn (Lib.cut s [44]).2.1 : Int))
def rdRest (s : List UInt8) : List UInt8 := Lib.trimSuffix (Lib.trimPrefix s opensB) closesB
def rdOld (s : List UInt8) : Int × Int := rdSide (Lib.cut (rdRest s) plusB).1
def rdNew (s : List UInt8) : Int × Int := rdSide (Lib.cut (rdRest s) plusB).2.1
theorem dig_not {n : Int} (h : 0 ≤ n) (b : UInt8) (hb : b.toNat < 48) : b ∉ Lib.itoa n := fun hm => by
  have := (itoa_dig n h b hm).1
  omega
theorem Sml.plc {p m : Int} (h : Sml p m) : 0 ≤ plc p m := by obtain ⟨h1, h2, _⟩ := h; unfold Un.plc; omega
theorem rdSide_side {p m : Int} (h : Sml p m) : rdSide (sideT p m) = (p, m) := by
  have h0 := h.plc
  obtain ⟨h1, h2, h3, h4⟩ := h
  have hc : Lib.cut (sideT p m) [44] = (Lib.itoa (plc p m), Lib.itoa m, true) := cut_at [] 44 _ _ (dig_not h0 44 (by decide))
  rw [rdSide, hc, pn_itoa _ h0 h4, pn_itoa _ h2 h3]
  refine Prod.ext ?_ rfl
  show plc p m - min m 1 = p
  unfold Un.plc; omega
theorem side_not {p m : Int} (h : Sml p m) (b : UInt8) (hb : b.toNat < 44) : b ∉ sideT p m := fun hm => by
  rcases List.mem_append.1 hm with hm | hm
  · exact dig_not h.plc b (by omega) hm
  · rcases List.mem_cons.1 hm with hm | hm
    · rw [hm] at hb; exact absurd hb (by decide)
    · exact dig_not h.2.1 b (by omega) hm
theorem rdRest_head {a an b bn : Int} : rdRest (headT a an b bn) = sideT a an ++ (plusB ++ sideT b bn) := by
  have h1 : Lib.trimPrefix (headT a an b bn) opensB = sideT a an ++ (plusB ++ (sideT b bn ++ closesB)) := by
    have h0 : Lib.hasPrefix (headT a an b bn) opensB = true := List.isPrefixOf_iff_prefix.2 (List.prefix_append _ _)
    rw [Lib.trimPrefix, if_pos h0, headT, List.drop_left]
  have h2 : sideT a an ++ (plusB ++ (sideT b bn ++ closesB)) = (sideT a an ++ (plusB ++ sideT b bn)) ++ closesB := by simp only [List.append_assoc]
  have h0 : Lib.hasSuffix ((sideT a an ++ (plusB ++ sideT b bn)) ++ closesB) closesB = true := List.isSuffixOf_iff_suffix.2 (List.suffix_append _ _)
  rw [rdRest, h1, h2, Lib.trimSuffix, if_pos h0]
  rw [List.length_append, Nat.add_sub_cancel, List.take_left]
theorem rd_head {a an b bn : Int} (h : Sml a an) (h' : Sml b bn) : rdOld (headT a an b bn) = (a, an) ∧ rdNew (headT a an b bn) = (b, bn) := by
  have hc : Lib.cut (rdRest (headT a an b bn)) plusB = (sideT a an, sideT b bn, true) := by
    rw [rdRest_head]
    exact cut_at [43] 32 _ _ (side_not h 32 (by decide))
  rw [rdOld, rdNew, hc]
  exact ⟨rdSide_side h, rdSide_side h'⟩
theorem rdSide_sml {s : List UInt8} (h : 0 ≤ (rdSide s).1) : Sml (rdSide s).1 (rdSide s).2 := by
  have h1 := pn_le (Lib.cut s [44]).1
  have h2 := pn_le (Lib.cut s [44]).2.1
  refine ⟨h, ?_, ?_, ?_⟩
  · simp only [rdSide]; omega
  · simp only [rdSide]; omega
  · simp only [rdSide, plc]; omega
/-- what readHead answers -/
def hd (s : List UInt8) : Option Hk :=
  if 0 ≤ (rdOld s).1 ∧ 0 ≤ (rdNew s).1 ∧ headT (rdOld s).1 (rdOld s).2 (rdNew s).1 (rdNew s).2 = s then some ⟨(rdOld s).1, (rdOld s).2, (rdNew s).1, (rdNew s).2, []⟩ else none
theorem hd_some {s : List UInt8} {h : Hk} (e : hd s = some h) : h.lines = [] ∧ Sml h.a h.an ∧ Sml h.b h.bn ∧ s = headT h.a h.an h.b h.bn := by
  unfold hd at e
  split at e
  · rename_i hc
    injection e with e
    subst e
    exact ⟨rfl, rdSide_sml hc.1, rdSide_sml hc.2.1, hc.2.2.symm⟩
  · cases e
theorem hd_head {a an b bn : Int} (h : Sml a an) (h' : Sml b bn) : hd (headT a an b bn) = some ⟨a, an, b, bn, []⟩ := by
  obtain ⟨h1, h2⟩ := rd_head h h'
  rw [hd, h1, h2, if_pos ⟨h.1, h'.1, rfl⟩]
end Go.Proofs.YtfmmececocilhaaDoor.Un
