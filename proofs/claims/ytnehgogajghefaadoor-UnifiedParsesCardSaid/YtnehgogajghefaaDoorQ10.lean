/-
  A text's lines, on lists of bytes alone: what splitting, joining, counting come to. No program is named here.
-/
import Derived.Lib.Bytealg
import Derived.Lib.Join
import Derived.Test.YtnehgogajghefaaDoorQ5
import Derived.Lib.ParseIntB
import Derived.Lib.IndexMore
import Derived.Lib.ItoaNum
namespace Go.Proofs.YtnehgogajghefaaDoor.Li
open Go

/-- how many bytes the first line has -/
def fst : List UInt8 → Nat
  | [] => 0
  | b :: r => if b = 10 then 1 else fst r + 1
/-- the lines -/
def lns : List UInt8 → List (List UInt8)
  | [] => []
  | b :: r => if b = 10 then [b] :: lns r else match lns r with
    | [] => [[b]]
    | h :: t => (b :: h) :: t
def closed (s : List UInt8) : Bool := s.getLast?.getD 10 == 10
/-- is line i of l one line, closed if it isn't the last one? -/
def okAt (l : List (List UInt8)) (i : Nat) : Bool := (lns (l.getD i [])).length == 1 && (!decide (i + 1 < l.length) || closed (l.getD i []))
def right (l : List (List UInt8)) : Bool := (List.range l.length).all (okAt l)

theorem fst_le : ∀ s : List UInt8, fst s ≤ s.length
  | [] => Nat.le_refl _
  | b :: r => by have := fst_le r; unfold fst; split <;> simp <;> omega
theorem fst_pos {s : List UInt8} (h : s ≠ []) : 0 < fst s := by
  cases s with
  | nil => exact absurd rfl h
  | cons b r => unfold fst; split <;> omega
theorem fst_index : ∀ s : List UInt8, (fst s : Int) = if 0 ≤ Lib.indexByte s 10 then Lib.indexByte s 10 + 1 else (s.length : Int)
  | [] => by simp [fst, Lib.indexByte]
  | b :: r => by
    have ih := fst_index r
    have hge := Lib.indexByte_ge r 10
    unfold fst Lib.indexByte
    by_cases hb : b = 10
    · simp [hb]
    · have hb' : (b == 10) = false := by simpa using hb
      simp only [hb, hb', if_false, Bool.false_eq_true]
      by_cases hm : Lib.indexByte r 10 = -1
      · simp [hm] at ih ⊢; omega
      · have hm' : (Lib.indexByte r 10 == -1) = false := by simpa using hm
        simp only [hm', Bool.false_eq_true, if_false]
        have h0 : 0 ≤ Lib.indexByte r 10 := by omega
        rw [if_pos h0] at ih
        rw [if_pos (by omega)]
        push_cast
        omega

theorem lns_cons (b : UInt8) (r : List UInt8) : lns (b :: r) = if b = 10 then [b] :: lns r else match lns r with
    | [] => [[b]]
    | h :: t => (b :: h) :: t := rfl
theorem fst_cons (b : UInt8) (r : List UInt8) : fst (b :: r) = if b = 10 then 1 else fst r + 1 := rfl
theorem lns_cut : ∀ {s : List UInt8}, s ≠ [] → lns s = s.take (fst s) :: lns (s.drop (fst s))
  | [], h => absurd rfl h
  | b :: r, _ => by
    rw [lns_cons, fst_cons]
    by_cases hb : b = 10
    · simp [hb]
    · simp only [hb, if_false, List.take_succ_cons, List.drop_succ_cons]
      by_cases hr : r = []
      · subst hr; rfl
      · rw [lns_cut hr]
theorem lns_nil : lns [] = [] := rfl
theorem lns_ne {s : List UInt8} (h : s ≠ []) : lns s ≠ [] := by rw [lns_cut h]; simp
theorem lns_flat : ∀ s : List UInt8, (lns s).flatten = s
  | [] => rfl
  | b :: r => by
    have ih := lns_flat r
    unfold lns
    by_cases hb : b = 10
    · simp [hb, ih]
    · simp only [hb, if_false]
      cases hl : lns r with
      | nil => rw [hl] at ih; simp at ih; simp [← ih]
      | cons h t => rw [hl] at ih; simp at ih ⊢; exact ih
theorem lns_len_le : ∀ s : List UInt8, (lns s).length ≤ s.length
  | [] => Nat.le_refl _
  | b :: r => by
    have ih := lns_len_le r
    unfold lns
    by_cases hb : b = 10
    · simp [hb]; exact ih
    · simp only [hb, if_false]
      cases hl : lns r with
      | nil => simp
      | cons h t => rw [hl] at ih; simp at ih ⊢; omega
/-- a line's length is bounded by the text's -/
theorem lns_mem_le {s x : List UInt8} (h : x ∈ lns s) : x.length ≤ s.length := by
  have := lns_flat s
  rw [← this]
  exact List.Sublist.length_le (List.sublist_flatten_of_mem h)

/-- the line that a byte comes to, from behind -/
theorem lns_snoc_open : ∀ (p : List UInt8) (b : UInt8), closed p = false → ∃ q x, lns p = q ++ [x] ∧ lns (p ++ [b]) = q ++ [x ++ [b]]
  | [], _, h => by simp [closed] at h
  | c :: r, b, h => by
    by_cases hr : r = []
    · subst hr
      have hc : c ≠ 10 := by simpa [closed] using h
      exact ⟨[], [c], by simp [lns, hc], by by_cases hb : b = 10 <;> simp [lns, hc, hb]⟩
    · have h' : closed r = false := by simpa [closed, List.getLast?_cons_of_ne_nil, List.getLast?_cons, hr, List.getLast?_eq_some_getLast hr] using h
      obtain ⟨q, x, e1, e2⟩ := lns_snoc_open r b h'
      by_cases hc : c = 10
      · exact ⟨[c] :: q, x, by simp [lns, hc, e1], by simp [lns, hc, e2]⟩
      · cases q with
        | nil => exact ⟨[], c :: x, by simp [lns, hc, e1], by simp [lns, hc, e2]⟩
        | cons y q => exact ⟨(c :: y) :: q, x, by simp [lns, hc, e1], by simp [lns, hc, e2]⟩
theorem closed_cons {c : UInt8} {r : List UInt8} (hr : r ≠ []) : closed (c :: r) = closed r := by
  simp [closed, List.getLast?_cons, List.getLast?_eq_some_getLast hr]
theorem closed_snoc (p : List UInt8) (b : UInt8) : closed (p ++ [b]) = (b == 10) := by simp [closed]
theorem lns_append : ∀ (p t : List UInt8), closed p = true → lns (p ++ t) = lns p ++ lns t
  | [], _, _ => rfl
  | c :: r, t, h => by
    by_cases hr : r = []
    · subst hr
      have hc : c = 10 := by simpa [closed] using h
      simp [lns, hc]
    · rw [closed_cons hr] at h
      have ih := lns_append r t h
      by_cases hc : c = 10
      · simp [lns, hc, ih]
      · have hl := lns_ne hr
        cases hq : lns r with
        | nil => exact absurd hq hl
        | cons y q => simp [lns, hc, ih, hq]
end Go.Proofs.YtnehgogajghefaaDoor.Li
namespace Go.Proofs.YtnehgogajghefaaDoor.Un
open Go Df Li Hu

/-- the number that digits tell, behind one told so far -/
def dval (acc : Nat) (l : List UInt8) : Nat := l.foldl (fun a c => a * 10 + (c.toNat - 48)) acc
theorem dval_nil (acc : Nat) : dval acc [] = acc := rfl
theorem dval_cons (acc : Nat) (c : UInt8) (r : List UInt8) : dval acc (c :: r) = dval (acc * 10 + (c.toNat - 48)) r := by rw [dval, List.foldl_cons]; exact Eq.refl (dval _ r)
def isDig (c : UInt8) : Prop := 48 ≤ c.toNat ∧ c.toNat ≤ 57
theorem dval_ge : ∀ (l : List UInt8) (acc : Nat), acc ≤ dval acc l
  | [], acc => Nat.le_refl _
  | c :: r, acc => by rw [dval_cons]; have := dval_ge r (acc * 10 + (c.toNat - 48)); omega
theorem dval_append (l r : List UInt8) (acc : Nat) : dval acc (l ++ r) = dval (dval acc l) r := List.foldl_append
theorem dig_of (d : Nat) (h : d < 10) : isDig (UInt8.ofNat (48 + d)) ∧ (UInt8.ofNat (48 + d)).toNat - 48 = d := by
  have h1 : (UInt8.ofNat (48 + d)).toNat = 48 + d := by rw [UInt8.toNat_ofNat']; omega
  exact ⟨⟨by omega, by omega⟩, by omega⟩
theorem dec_dig (u : Nat) : ∀ c ∈ Lib.decDigits u, isDig c := by
  induction u using Nat.strongRecOn with
  | ind u ih =>
    intro c hc
    rw [Lib.decDigits] at hc
    split at hc
    · rename_i h
      obtain rfl : c = UInt8.ofNat (48 + u) := by simpa using hc
      exact (dig_of u h).1
    · rename_i h
      rcases List.mem_append.1 hc with hc | hc
      · exact ih (u / 10) (by omega) c hc
      · obtain rfl : c = UInt8.ofNat (48 + u % 10) := by simpa using hc
        exact (dig_of (u % 10) (by omega)).1
theorem dec_val (u : Nat) : dval 0 (Lib.decDigits u) = u := by
  induction u using Nat.strongRecOn with
  | ind u ih =>
    rw [Lib.decDigits]
    split
    · rename_i h
      rw [dval_cons, dval_nil, (dig_of u h).2]; omega
    · rename_i h
      rw [dval_append, ih (u / 10) (by omega), dval_cons, dval_nil, (dig_of (u % 10) (by omega)).2]; omega
theorem dec_ne (u : Nat) : Lib.decDigits u ≠ [] := by
  rw [Lib.decDigits]
  split
  · simp
  · simp
theorem pm_ok (M : Nat) (hM : M < 1844674407370955162) : ∀ (l : List UInt8) (acc : Nat), (∀ c ∈ l, isDig c) → dval acc l ≤ M → Lib.parseUintM M acc l = .ok (dval acc l)
  | [], acc, _, _ => rfl
  | c :: r, acc, hd, hv => by
    have h1 := hd c List.mem_cons_self
    rw [dval_cons] at hv
    have h2 := dval_ge r (acc * 10 + (c.toNat - 48))
    rw [Lib.parseUintM, if_pos (show 48 ≤ c.toNat ∧ c.toNat ≤ 57 from h1), if_neg (by omega), if_neg (by omega), dval_cons]
    exact pm_ok M hM r _ (fun c hc => hd c (List.mem_cons_of_mem _ hc)) hv
theorem pm_le (M : Nat) : ∀ (l : List UInt8) (acc v : Nat), acc ≤ M → Lib.parseUintM M acc l = .ok v → v ≤ M
  | [], acc, v, h, hp => by rw [Lib.parseUintM] at hp; injection hp with hp; omega
  | c :: r, acc, v, h, hp => by
    rw [Lib.parseUintM] at hp
    split at hp
    · split at hp
      · cases hp
      · split at hp
        · cases hp
        · exact pm_le M r _ v (by omega) hp
    · cases hp
/-- what readNumber answers -/
def pn (s : List UInt8) : Nat := match Lib.parseUintB 31 s with
  | .ok v => v
  | .syntax => 0
  | .range => 2147483647
theorem pn_le (s : List UInt8) : pn s ≤ 2147483647 := by
  unfold pn
  split
  · rename_i v h
    unfold Lib.parseUintB at h
    split at h
    · cases h
    · exact pm_le _ _ _ _ (Nat.zero_le _) h
  · omega
  · omega
theorem pn_dec (u : Nat) (h : u < 2147483648) : pn (Lib.decDigits u) = u := by
  have h1 : Lib.parseUintB 31 (Lib.decDigits u) = .ok u := by
    unfold Lib.parseUintB
    rw [if_neg (dec_ne u), pm_ok _ (by decide) _ _ (dec_dig u) (by rw [dec_val]; omega), dec_val]
  rw [pn, h1]
theorem itoa_nat (n : Int) (h : 0 ≤ n) : Lib.itoa n = Lib.decDigits n.toNat := by
  rw [Lib.itoa, if_neg (by omega)]
theorem itoa_dig (n : Int) (h : 0 ≤ n) : ∀ c ∈ Lib.itoa n, isDig c := by rw [itoa_nat n h]; exact dec_dig _
theorem pn_itoa (n : Int) (h : 0 ≤ n) (h2 : n < 2147483648) : (pn (Lib.itoa n) : Int) = n := by
  rw [itoa_nat n h, pn_dec _ (by omega)]; omega

/-- the first one of a word, behind what hasn't its first byte -/
theorem index_at (t : List UInt8) (b : UInt8) (y : List UInt8) : ∀ x : List UInt8, b ∉ x → Lib.index (x ++ (b :: t ++ y)) (b :: t) = x.length
  | [], _ => by
    rw [List.nil_append, List.cons_append, Lib.index, if_pos]
    · rfl
    · rw [← List.cons_append]
      exact List.isPrefixOf_iff_prefix.2 (List.prefix_append _ _)
  | c :: x, h => by
    have hc : c ≠ b := fun e => h (by rw [e]; exact List.mem_cons_self)
    have ih := index_at t b y x (fun hb => h (List.mem_cons_of_mem _ hb))
    rw [List.cons_append, Lib.index, ih, if_neg, if_neg]
    · simp
    · simp
    · simp [List.isPrefixOf, hc.symm]
theorem cut_at (t : List UInt8) (b : UInt8) (x y : List UInt8) (h : b ∉ x) : Lib.cut (x ++ (b :: t ++ y)) (b :: t) = (x, y, true) := by
  rw [Lib.cut, index_at t b y x h, if_pos (by omega)]
  have h1 : ((x.length : Int)).toNat = x.length := by omega
  rw [h1, List.take_left, ← List.drop_drop, List.drop_left, List.drop_left]

/-- where a side is told to be -/
def plc (p many : Int) : Int := p + min many 1
def sideT (p many : Int) : List UInt8 := Lib.itoa (plc p many) ++ 44 :: Lib.itoa many
def opensB : List UInt8 := [64, 64, 32, 45]
def plusB : List UInt8 := [32, 43]
def closesB : List UInt8 := [32, 64, 64, 10]
def headT (a an b bn : Int) : List UInt8 := opensB ++ (sideT a an ++ (plusB ++ (sideT b bn ++ closesB)))
/-- a side's numbers can be told -/
def Sml (p many : Int) : Prop := 0 ≤ p ∧ 0 ≤ many ∧ many < 2147483648 ∧ plc p many < 2147483648
def rdSide (s : List UInt8) : Int × Int := ((pn (Lib.cut s [44]).1 : Int) - min (pn (Lib.cut s [44]).2.1 : Int) 1, (pn (Lib.cut s [44]).2.1 : Int))
def rdRest (s : List UInt8) : List UInt8 := Lib.trimSuffix (Lib.trimPrefix s opensB) closesB
def rdOld (s : List UInt8) : Int × Int := rdSide (Lib.cut (rdRest s) plusB).1
def rdNew (s : List UInt8) : Int × Int := rdSide (Lib.cut (rdRest s) plusB).2.1
theorem dig_not {n : Int} (h : 0 ≤ n) (b : UInt8) (hb : b.toNat < 48) : b ∉ Lib.itoa n := fun hm => by
  have := (itoa_dig n h b hm).1
  omega
theorem Sml.plc {p m : Int} (h : Sml p m) : 0 ≤ plc p m := by obtain ⟨h1, h2, _⟩ := h; unfold Un.plc; omega
theorem rdSide_side {p m : Int} (h : Sml p m) : rdSide (sideT p m) = (p, m) := by
  have h0 := h.plc
  obtain ⟨h1, h2, h3, h4⟩ := h
  have hc : Lib.cut (sideT p m) [44] = (Lib.itoa (plc p m), Lib.itoa m, true) := cut_at [] 44 _ _ (dig_not h0 44 (by decide))
  rw [rdSide, hc, pn_itoa _ h0 h4, pn_itoa _ h2 h3]
  refine Prod.ext ?_ rfl
  show plc p m - min m 1 = p
  unfold Un.plc; omega
theorem side_not {p m : Int} (h : Sml p m) (b : UInt8) (hb : b.toNat < 44) : b ∉ sideT p m := fun hm => by
  rcases List.mem_append.1 hm with hm | hm
  · exact dig_not h.plc b (by omega) hm
  · rcases List.mem_cons.1 hm with hm | hm
    · rw [hm] at hb; exact absurd hb (by decide)
    · exact dig_not h.2.1 b (by omega) hm
theorem rdRest_head {a an b bn : Int} : rdRest (headT a an b bn) = sideT a an ++ (plusB ++ sideT b bn) := by
  have h1 : Lib.trimPrefix (headT a an b bn) opensB = sideT a an ++ (plusB ++ (sideT b bn ++ closesB)) := by
    have h0 : Lib.hasPrefix (headT a an b bn) opensB = true := List.isPrefixOf_iff_prefix.2 (List.prefix_append _ _)
    rw [Lib.trimPrefix, if_pos h0, headT, List.drop_left]
  have h2 : sideT a an ++ (plusB ++ (sideT b bn ++ closesB)) = (sideT a an ++ (plusB ++ sideT b bn)) ++ closesB := by simp only [List.append_assoc]
  have h0 : Lib.hasSuffix ((sideT a an ++ (plusB ++ sideT b bn)) ++ closesB) closesB = true := List.isSuffixOf_iff_suffix.2 (List.suffix_append _ _)
  rw [rdRest, h1, h2, Lib.trimSuffix, if_pos h0]
  rw [List.length_append, Nat.add_sub_cancel, List.take_left]
theorem rd_head {a an b bn : Int} (h : Sml a an) (h' : Sml b bn) : rdOld (headT a an b bn) = (a, an) ∧ rdNew (headT a an b bn) = (b, bn) := by
  have hc : Lib.cut (rdRest (headT a an b bn)) plusB = (sideT a an, sideT b bn, true) := by
    rw [rdRest_head]
    exact cut_at [43] 32 _ _ (side_not h 32 (by decide))
  rw [rdOld, rdNew, hc]
  exact ⟨rdSide_side h, rdSide_side h'⟩
theorem rdSide_sml {s : List UInt8} (h : 0 ≤ (rdSide s).1) : Sml (rdSide s).1 (rdSide s).2 := by
  have h1 := pn_le (Lib.cut s [44]).1
  have h2 := pn_le (Lib.cut s [44]).2.1
  refine ⟨h, ?_, ?_, ?_⟩
  · simp only [rdSide]; omega
  · simp only [rdSide]; omega
  · simp only [rdSide, plc]; omega
/-- what readHead answers -/
def hd (s : List UInt8) : Option Hk :=
  if 0 ≤ (rdOld s).1 ∧ 0 ≤ (rdNew s).1 ∧ headT (rdOld s).1 (rdOld s).2 (rdNew s).1 (rdNew s).2 = s then some ⟨(rdOld s).1, (rdOld s).2, (rdNew s).1, (rdNew s).2, []⟩ else none
theorem hd_some {s : List UInt8} {h : Hk} (e : hd s = some h) : h.lines = [] ∧ Sml h.a h.an ∧ Sml h.b h.bn ∧ s = headT h.a h.an h.b h.bn := by
  unfold hd at e
  split at e
  · rename_i hc
    injection e with e
    subst e
    exact ⟨rfl, rdSide_sml hc.1, rdSide_sml hc.2.1, hc.2.2.symm⟩
  · cases e
theorem hd_head {a an b bn : Int} (h : Sml a an) (h' : Sml b bn) : hd (headT a an b bn) = some ⟨a, an, b, bn, []⟩ := by
  obtain ⟨h1, h2⟩ := rd_head h h'
  rw [hd, h1, h2, if_pos ⟨h.1, h'.1, rfl⟩]
end Go.Proofs.YtnehgogajghefaaDoor.Un
namespace Go.Proofs.YtnehgogajghefaaDoor.Un
open Go Df Li Hu

/-- the line behind one that has no end -/
def markB : List UInt8 := [92, 32, 78, 111, 32, 110, 101, 119, 108, 105, 110, 101, 32, 97, 116, 32, 101, 110, 100, 32, 111, 102, 32, 102, 105, 108, 101, 10]
def lineT (x : List UInt8) : List UInt8 := if closed x then x else x ++ 10 :: markB
def hkT (h : Hk) : List UInt8 := headT h.a h.an h.b h.bn ++ (h.lines.map lineT).flatten
def smlB (p many : Int) : Bool := decide (max (max p many) (plc p many) < 2147483648)
def tell (h : Hk) : Bool := (hright h && (smlB h.a h.an && smlB h.b h.bn)) && h.lines.all (fun x => (lns x).length == 1)
def prt (l : List Hk) : List UInt8 := if l.all tell then (l.map hkT).flatten else []

/-- a reader: its hunks, the last one ahead; how many lines the last one lacks -/
structure St where
  rv : List Hk
  old : Int
  fresh : Int
def ahd : List Hk → List UInt8
  | [] => []
  | e :: _ => e.lines.getLast?.getD []
def noEnd (s : St) (x : List UInt8) : Option St := match s.rv with
  | [] => none
  | e :: V => if x = markB ∧ Lib.hasSuffix (ahd (e :: V)) [10] = true then some ⟨⟨e.a, e.an, e.b, e.bn, e.lines.dropLast ++ [(ahd (e :: V)).dropLast]⟩ :: V, s.old, s.fresh⟩ else none
def sds (x : List UInt8) : Int × Int := if sg x = 32 then (1, 1) else if sg x = 45 then (1, 0) else if sg x = 43 then (0, 1) else (0, 0)
def stepH (s : St) (x : List UInt8) : Option St := match hd x with
  | some h => some ⟨h :: s.rv, h.an, h.bn⟩
  | none => noEnd s x
def stepL (s : St) (x : List UInt8) : Option St :=
  if (sds x).1 + (sds x).2 = 0 then noEnd s x else match s.rv with
  | [] => none
  | e :: V => if closed x = true ∧ ¬ (sg x = 45 ∧ sg (ahd (e :: V)) = 43) ∧ (sds x).1 ≤ s.old ∧ (sds x).2 ≤ s.fresh then some ⟨⟨e.a, e.an, e.b, e.bn, e.lines ++ [x]⟩ :: V, s.old - (sds x).1, s.fresh - (sds x).2⟩ else none
def step (s : St) (x : List UInt8) : Option St := if s.old = 0 ∧ s.fresh = 0 then stepH s x else stepL s x
def run : St → Ls → Nat → Nat × Option St
  | s, [], n => (n, some s)
  | s, x :: l, n => match step s x with
    | none => (n + 1, none)
    | some s' => run s' l (n + 1)
def fin (r : Nat × Option St) : List Hk × Nat × Nat := match r.2 with
  | none => ([], r.1, 3)
  | some s => if s.old = 0 ∧ s.fresh = 0 then (s.rv.reverse, 0, 0) else ([], r.1 + 1, 2)
def parse (t : List UInt8) : List Hk × Nat × Nat := fin (run ⟨[], 0, 0⟩ (lns t) 0)

/-- one line -/
theorem lns_one : ∀ (y : List UInt8) (b : UInt8), 10 ∉ y → lns (y ++ [b]) = [y ++ [b]]
  | [], b, _ => by by_cases hb : b = 10 <;> simp [lns, hb]
  | c :: y, b, h => by
    have hc : c ≠ 10 := fun e => h (by rw [e]; exact List.mem_cons_self)
    rw [List.cons_append, lns_cons, if_neg hc, lns_one y b (fun hm => h (List.mem_cons_of_mem _ hm))]
theorem one_parts : ∀ {x : List UInt8}, lns x = [x] → ∃ y b, x = y ++ [b] ∧ 10 ∉ y
  | [], h => by simp [lns] at h
  | c :: r, h => by
    by_cases hr : r = []
    · exact ⟨[], c, by rw [hr]; rfl, by simp⟩
    · rw [lns_cons] at h
      by_cases hc : c = 10
      · rw [if_pos hc] at h
        injection h with h1 h2
        exact absurd h2 (lns_ne hr)
      · rw [if_neg hc] at h
        cases hq : lns r with
        | nil => exact absurd hq (lns_ne hr)
        | cons u q =>
          rw [hq] at h
          injection h with h1 h2
          injection h1 with _ h1
          subst h1 h2
          obtain ⟨y, b, h3, h4⟩ := one_parts hq
          exact ⟨c :: y, b, by rw [h3]; rfl, by simp only [List.mem_cons, not_or]; exact ⟨fun e => hc e.symm, h4⟩⟩
theorem one_ne {x : List UInt8} (h : lns x = [x]) : x ≠ [] := by rintro rfl; simp [lns] at h
theorem one_len {x : List UInt8} : ((lns x).length == 1) = true ↔ lns x = [x] := by
  constructor
  · intro h
    have h1 := lns_flat x
    match hq : lns x, h with
    | [y], _ => rw [hq] at h1; simp at h1; rw [h1]
  · intro h; rw [h]; rfl
theorem closed_one {y : List UInt8} {b : UInt8} : closed (y ++ [b]) = (b == 10) := closed_snoc y b
def lineL (x : List UInt8) : Ls := if closed x then [x] else [x ++ [10], markB]
def hkL (h : Hk) : Ls := headT h.a h.an h.b h.bn :: (h.lines.map lineL).flatten
theorem mark_one : lns markB = [markB] := lns_one [92, 32, 78, 111, 32, 110, 101, 119, 108, 105, 110, 101, 32, 97, 116, 32, 101, 110, 100, 32, 111, 102, 32, 102, 105, 108, 101] 10 (by decide)
theorem mark_closed : closed markB = true := by decide
theorem lineL_flat (x : List UInt8) : (lineL x).flatten = lineT x := by
  unfold lineL lineT
  split
  · simp
  · simp
theorem lines_flat : ∀ l : Ls, ((l.map lineL).flatten).flatten = (l.map lineT).flatten
  | [] => rfl
  | x :: l => by simp only [List.map_cons, List.flatten_cons, List.flatten_append, lineL_flat, lines_flat l]
theorem hkL_flat (h : Hk) : (hkL h).flatten = hkT h := by rw [hkL, List.flatten_cons, lines_flat, hkT]
theorem hks_flat : ∀ l : List Hk, ((l.map hkL).flatten).flatten = (l.map hkT).flatten
  | [] => rfl
  | h :: l => by simp only [List.map_cons, List.flatten_cons, List.flatten_append, hkL_flat, hks_flat l]
theorem open_no {x : List UInt8} (h : lns x = [x]) (hc : closed x = false) : 10 ∉ x := by
  obtain ⟨y, b, rfl, hy⟩ := one_parts h
  rw [closed_one] at hc
  have hb : b ≠ 10 := by simpa using hc
  simp only [List.mem_append, List.mem_singleton, not_or]
  exact ⟨hy, fun e => hb e.symm⟩
theorem lineT_lns {x : List UInt8} (h : lns x = [x]) (r : List UInt8) : lns (lineT x ++ r) = lineL x ++ lns r := by
  unfold lineT lineL
  cases hc : closed x with
  | true => rw [if_pos rfl, if_pos rfl, lns_append x r hc, h]
  | false =>
    have e : x ++ 10 :: markB ++ r = (x ++ [10]) ++ (markB ++ r) := by simp
    rw [if_neg (by simp), if_neg (by simp), e, lns_append _ _ (by rw [closed_snoc]; rfl), lns_append _ _ mark_closed, mark_one, lns_one x 10 (open_no h hc)]
    rfl
theorem linesT_lns : ∀ (l : Ls) (r : List UInt8), (∀ x ∈ l, lns x = [x]) → lns ((l.map lineT).flatten ++ r) = (l.map lineL).flatten ++ lns r
  | [], r, _ => rfl
  | x :: l, r, h => by
    simp only [List.map_cons, List.flatten_cons, List.append_assoc]
    rw [lineT_lns (h x List.mem_cons_self), linesT_lns l r (fun y hy => h y (List.mem_cons_of_mem _ hy))]
theorem head_no {a an b bn : Int} (h : Sml a an) (h' : Sml b bn) : ∃ y, headT a an b bn = y ++ [10] ∧ 10 ∉ y := by
  refine ⟨opensB ++ (sideT a an ++ (plusB ++ (sideT b bn ++ [32, 64, 64]))), by simp [headT, closesB], ?_⟩
  simp only [List.mem_append, not_or]
  exact ⟨by decide, side_not h 10 (by decide), by decide, side_not h' 10 (by decide), by decide⟩
theorem head_lns {a an b bn : Int} (h : Sml a an) (h' : Sml b bn) (r : List UInt8) : lns (headT a an b bn ++ r) = headT a an b bn :: lns r := by
  obtain ⟨y, e, hy⟩ := head_no h h'
  rw [e, lns_append _ _ (by rw [closed_snoc]; rfl), lns_one y 10 hy]
  rfl
theorem smlB_iff {p m : Int} (h0 : 0 ≤ p) (h1 : 0 ≤ m) : smlB p m = true ↔ Sml p m := by
  unfold smlB Sml plc
  rw [decide_eq_true_iff]
  omega
theorem hright_parts {h : Hk} (e : hright h = true) : okF false h.lines = true ∧ 0 ≤ h.a ∧ 0 ≤ h.b ∧ h.an = many 45 h.lines ∧ h.bn = many 43 h.lines := by
  unfold hright at e
  simp only [Bool.and_eq_true, decide_eq_true_eq] at e
  exact ⟨e.1, e.2.1.1.1, e.2.1.1.2, e.2.1.2, e.2.2⟩
theorem tell_iff {h : Hk} : tell h = true ↔ okF false h.lines = true ∧ Sml h.a h.an ∧ Sml h.b h.bn ∧ h.an = many 45 h.lines ∧ h.bn = many 43 h.lines ∧ ∀ x ∈ h.lines, lns x = [x] := by
  constructor
  · intro e
    unfold tell at e
    rw [Bool.and_eq_true, Bool.and_eq_true, Bool.and_eq_true] at e
    obtain ⟨⟨e1, e2, e3⟩, e4⟩ := e
    obtain ⟨p1, p2, p3, p4, p5⟩ := hright_parts e1
    exact ⟨p1, (smlB_iff p2 (by omega)).1 e2, (smlB_iff p3 (by omega)).1 e3, p4, p5, fun x hx => one_len.1 (List.all_eq_true.1 e4 x hx)⟩
  · rintro ⟨p1, p2, p3, p4, p5, p6⟩
    have hr : hright h = true := by
      unfold hright
      simp only [Bool.and_eq_true, decide_eq_true_eq]
      exact ⟨p1, ⟨⟨p2.1, p3.1⟩, p4⟩, p5⟩
    rw [tell, hr, (smlB_iff p2.1 p2.2.1).2 p2, (smlB_iff p3.1 p3.2.1).2 p3, Bool.true_and, Bool.true_and, Bool.true_and]
    exact List.all_eq_true.2 fun x hx => one_len.2 (p6 x hx)
theorem hkT_lns {h : Hk} (e : tell h = true) (r : List UInt8) : lns (hkT h ++ r) = hkL h ++ lns r := by
  obtain ⟨_, p2, p3, _, _, p6⟩ := tell_iff.1 e
  rw [hkT, List.append_assoc, head_lns p2 p3, linesT_lns _ _ p6]
  rfl
theorem hksT_lns : ∀ (l : List Hk) (r : List UInt8), l.all tell = true → lns ((l.map hkT).flatten ++ r) = (l.map hkL).flatten ++ lns r
  | [], r, _ => rfl
  | h :: l, r, e => by
    rw [List.all_cons, Bool.and_eq_true] at e
    simp only [List.map_cons, List.flatten_cons, List.append_assoc]
    rw [hkT_lns e.1, hksT_lns l r e.2]
theorem prt_lns {l : List Hk} (e : l.all tell = true) : lns (prt l) = (l.map hkL).flatten := by
  have := hksT_lns l [] e
  rw [prt, if_pos e]
  simpa [lns] using this
end Go.Proofs.YtnehgogajghefaaDoor.Un
namespace Go.Proofs.YtnehgogajghefaaDoor.Un
open Go Df Li Hu

theorem okF_snoc : ∀ (l : Ls) (p : Bool) (x : List UInt8), okF p (l ++ [x]) = (okF p l && (decide (sg x = 32 ∨ sg x = 45 ∨ sg x = 43) && !(decide (sg x = 45) && (match l.getLast? with | none => p | some y => decide (sg y = 43)))))
  | [], p, x => by simp [okF]
  | [y], p, x => by simp [okF]
  | y :: z :: l, p, x => by
    have ih := okF_snoc (z :: l) (decide (sg y = 43)) x
    have e1 : okF p (y :: z :: l ++ [x]) = ((decide (sg y = 32 ∨ sg y = 45 ∨ sg y = 43) && !(decide (sg y = 45) && p)) && okF (decide (sg y = 43)) (z :: l ++ [x])) := rfl
    have e2 : okF p (y :: z :: l) = ((decide (sg y = 32 ∨ sg y = 45 ∨ sg y = 43) && !(decide (sg y = 45) && p)) && okF (decide (sg y = 43)) (z :: l)) := rfl
    rw [e1, e2, ih, Bool.and_assoc, List.getLast?_cons_cons]
    cases hq : (z :: l).getLast? with
    | none => simp at hq
    | some u => simp only [Bool.and_assoc]
theorem sg_snoc {y : List UInt8} (b : UInt8) (h : y ≠ []) : sg (y ++ [b]) = sg y := by
  cases y with
  | nil => exact absurd rfl h
  | cons c y => rfl
theorem head_sg (a an b bn : Int) : sg (headT a an b bn) = 64 := rfl
theorem hd_mark : hd markB = none := by
  cases h : hd markB with
  | none => rfl
  | some k =>
    obtain ⟨_, _, _, e⟩ := hd_some h
    have := congrArg sg e
    rw [head_sg] at this
    exact absurd this (by decide)
theorem suffix_end (y : List UInt8) (b : UInt8) : Lib.hasSuffix (y ++ [b]) [10] = (b == 10) := by
  unfold Lib.hasSuffix
  rw [Bool.eq_iff_iff]
  constructor
  · intro h
    obtain ⟨t, e⟩ := List.isSuffixOf_iff_suffix.1 h
    have h2 := congrArg List.getLast? e
    simp at h2
    simp [h2]
  · intro h
    obtain rfl : b = 10 := by simpa using h
    exact List.isSuffixOf_iff_suffix.2 (List.suffix_append _ _)
theorem suffix_nil : Lib.hasSuffix [] [10] = false := by decide
theorem prefix_sg (y : List UInt8) : Lib.hasPrefix y [43] = decide (sg y = 43) := by
  cases y with
  | nil => decide
  | cons c y =>
    have e : Lib.hasPrefix (c :: y) [43] = (43 == c) := by simp [Lib.hasPrefix, List.isPrefixOf]
    rw [e]
    show (43 == c) = decide (c = 43)
    rw [Bool.eq_iff_iff, beq_iff_eq, decide_eq_true_iff]
    exact eq_comm
/-- a line's sides are those that its sign tells -/
theorem sds_many (x : List UInt8) (h : sg x = 32 ∨ sg x = 45 ∨ sg x = 43) : (sds x).1 = (many 45 [x] : Int) ∧ (sds x).2 = (many 43 [x] : Int) ∧ (sds x).1 + (sds x).2 ≠ 0 ∧ 0 ≤ (sds x).1 ∧ 0 ≤ (sds x).2 := by
  unfold sds
  rcases h with h | h | h <;> simp [h, many]
theorem sds_no (x : List UInt8) (h : ¬ (sg x = 32 ∨ sg x = 45 ∨ sg x = 43)) : sds x = (0, 0) := by
  simp only [not_or] at h
  unfold sds
  rw [if_neg h.1, if_neg h.2.1, if_neg h.2.2]
theorem many_one (s : UInt8) (x y : List UInt8) (h : sg x = sg y) : many s [x] = many s [y] := by simp [many, h]

/-- what a reader holds behind the lines ls -/
structure Inv1 (s : St) (e : Hk) (V : List Hk) (ls : Ls) : Prop where
  rv : s.rv = e :: V
  told : ∀ h ∈ V, tell h = true
  a : Sml e.a e.an
  b : Sml e.b e.bn
  ok : okF false e.lines = true
  one : ∀ x ∈ e.lines, lns x = [x]
  old : (many 45 e.lines : Int) + s.old = e.an
  new : (many 43 e.lines : Int) + s.fresh = e.bn
  o0 : 0 ≤ s.old
  f0 : 0 ≤ s.fresh
  ls : ls = (V.reverse.map hkL).flatten ++ hkL e
def Inv (s : St) (ls : Ls) : Prop := (s.rv = [] ∧ ls = [] ∧ s.old = 0 ∧ s.fresh = 0) ∨ ∃ e V, Inv1 s e V ls
theorem Inv1.tell {s : St} {e : Hk} {V : List Hk} {ls : Ls} (h : Inv1 s e V ls) (h1 : s.old = 0) (h2 : s.fresh = 0) : tell e = true := by
  have h3 := h.old
  have h4 := h.new
  exact tell_iff.2 ⟨h.ok, h.a, h.b, by omega, by omega, h.one⟩
theorem hkL_snoc (a an b bn : Int) (l : Ls) (x : List UInt8) : hkL ⟨a, an, b, bn, l ++ [x]⟩ = hkL ⟨a, an, b, bn, l⟩ ++ lineL x := by
  simp [hkL]
theorem noEnd_inv {s s' : St} {e : Hk} {V : List Hk} {ls : Ls} {x : List UInt8} (h : Inv1 s e V ls) (hs : noEnd s x = some s') : ∃ e', Inv1 s' e' V (ls ++ [x]) ∧ s'.old = s.old ∧ s'.fresh = s.fresh := by
  unfold noEnd at hs
  rw [h.rv] at hs
  simp only at hs
  split at hs
  · rename_i hc
    obtain ⟨rfl, hsf⟩ := hc
    injection hs with hs
    subst hs
    have hne : e.lines ≠ [] := fun hn => by rw [ahd, hn] at hsf; exact absurd hsf (by decide)
    obtain ⟨L, y, hL⟩ : ∃ L y, e.lines = L ++ [y] := ⟨_, _, (List.dropLast_concat_getLast hne).symm⟩
    have hah : ahd (e :: V) = y := by simp [ahd, hL]
    rw [hah] at hsf ⊢
    have hy := h.one y (by rw [hL]; simp)
    obtain ⟨z, b, rfl, hz⟩ := one_parts hy
    rw [suffix_end] at hsf
    obtain rfl : b = 10 := by simpa using hsf
    have hok := h.ok
    rw [hL, okF_snoc, Bool.and_eq_true, Bool.and_eq_true, decide_eq_true_iff] at hok
    have hzn : z ≠ [] := by
      rintro rfl
      have := hok.2.1
      revert this
      decide
    have hsg := sg_snoc 10 hzn
    have hd : (z ++ [10]).dropLast = z := by simp
    rw [hd, hL, List.dropLast_concat]
    obtain ⟨z', c, rfl⟩ : ∃ z' c, z = z' ++ [c] := ⟨_, _, (List.dropLast_concat_getLast hzn).symm⟩
    have hz1 : lns (z' ++ [c]) = [z' ++ [c]] := lns_one z' c (fun hm => hz (List.mem_append_left _ hm))
    have hcl : closed (z' ++ [c]) = false := by
      rw [closed_snoc]
      have : c ≠ 10 := fun e => hz (by rw [e]; simp)
      simpa using this
    have hmn : ∀ s : UInt8, many s (L ++ [z' ++ [c]]) = many s e.lines := fun s => by
      rw [hL, many_append, many_append, many_one s (z' ++ [c] ++ [10]) (z' ++ [c]) hsg]
    refine ⟨⟨e.a, e.an, e.b, e.bn, L ++ [z' ++ [c]]⟩, ⟨rfl, h.told, h.a, h.b, ?_, fun x hx => ?_, ?_, ?_, h.o0, h.f0, ?_⟩, rfl, rfl⟩
    · rw [okF_snoc, Bool.and_eq_true, Bool.and_eq_true, decide_eq_true_iff, ← hsg]
      exact hok
    · rcases List.mem_append.1 hx with hx | hx
      · exact h.one x (by rw [hL]; exact List.mem_append_left _ hx)
      · rw [List.mem_singleton.1 hx]; exact hz1
    · show (many 45 (L ++ [z' ++ [c]]) : Int) + s.old = e.an
      rw [hmn]; exact h.old
    · show (many 43 (L ++ [z' ++ [c]]) : Int) + s.fresh = e.bn
      rw [hmn]; exact h.new
    · have he : hkL e = hkL ⟨e.a, e.an, e.b, e.bn, L⟩ ++ [z' ++ [c] ++ [10]] := by
        have h1 : e = ⟨e.a, e.an, e.b, e.bn, L ++ [z' ++ [c] ++ [10]]⟩ := by rw [← hL]
        have h2 : lineL (z' ++ [c] ++ [10]) = [z' ++ [c] ++ [10]] := by rw [lineL, if_pos (by rw [closed_snoc]; rfl)]
        rw [h1, hkL_snoc, h2]
      have h2 : lineL (z' ++ [c]) = [z' ++ [c] ++ [10], markB] := by rw [lineL, if_neg (by rw [hcl]; simp)]
      rw [h.ls, he, hkL_snoc, h2]
      simp
  · cases hs
theorem inv_step {s s' : St} {ls : Ls} {x : List UInt8} (h : Inv s ls) (hx : lns x = [x]) (hs : step s x = some s') : Inv s' (ls ++ [x]) := by
  unfold step at hs
  split at hs
  · rename_i hw
    unfold stepH at hs
    split at hs
    · rename_i k hk
      injection hs with hs
      subst hs
      obtain ⟨k1, k2, k3, k4⟩ := hd_some hk
      refine .inr ⟨k, s.rv, rfl, ?_, k2, k3, by rw [k1]; rfl, by rw [k1]; simp, by rw [k1]; simp [many], by rw [k1]; simp [many], k2.2.1, k3.2.1, ?_⟩
      · rcases h with ⟨h1, _⟩ | ⟨e, V, h1⟩
        · rw [h1]; simp
        · rw [h1.rv]
          intro g hg
          rcases List.mem_cons.1 hg with hg | hg
          · rw [hg]; exact h1.tell hw.1 hw.2
          · exact h1.told g hg
      · have e1 : hkL k = [x] := by rw [hkL, k1, ← k4]; rfl
        rw [e1]
        rcases h with ⟨h1, h2, _⟩ | ⟨e, V, h1⟩
        · rw [h1, h2]; rfl
        · rw [h1.rv, h1.ls]; simp
    · rcases h with ⟨h1, _⟩ | ⟨e, V, h1⟩
      · unfold noEnd at hs
        rw [h1] at hs
        cases hs
      · obtain ⟨e', h2, _⟩ := noEnd_inv h1 hs
        exact .inr ⟨e', V, h2⟩
  · rename_i hw
    unfold stepL at hs
    split at hs
    · rcases h with ⟨h1, _⟩ | ⟨e, V, h1⟩
      · unfold noEnd at hs
        rw [h1] at hs
        cases hs
      · obtain ⟨e', h2, _⟩ := noEnd_inv h1 hs
        exact .inr ⟨e', V, h2⟩
    · rename_i hsd
      rcases h with ⟨_, _, h3, h4⟩ | ⟨e, V, h1⟩
      · exact absurd ⟨h3, h4⟩ hw
      · rw [h1.rv] at hs
        simp only at hs
        split at hs
        · rename_i hc
          obtain ⟨c1, c2, c3, c4⟩ := hc
          injection hs with hs
          subst hs
          have hsg : sg x = 32 ∨ sg x = 45 ∨ sg x = 43 := by
            refine Classical.byContradiction fun hn => hsd ?_
            rw [sds_no x hn]; rfl
          obtain ⟨d1, d2, _, d4, d5⟩ := sds_many x hsg
          have h5 := h1.old
          have h6 := h1.new
          have m1 := many_append 45 e.lines [x]
          have m2 := many_append 43 e.lines [x]
          refine .inr ⟨⟨e.a, e.an, e.b, e.bn, e.lines ++ [x]⟩, V, rfl, h1.told, h1.a, h1.b, ?_, fun y hy => ?_, ?_, ?_, ?_, ?_, ?_⟩
          · rw [okF_snoc, Bool.and_eq_true, Bool.and_eq_true, decide_eq_true_iff]
            refine ⟨h1.ok, hsg, ?_⟩
            rw [ahd] at c2
            cases hq : e.lines.getLast? with
            | none => simp
            | some y =>
              rw [hq] at c2
              by_cases h1 : sg x = 45
              · by_cases h2 : sg y = 43
                · exact absurd ⟨h1, h2⟩ c2
                · simp [h2]
              · simp [h1]
          · rcases List.mem_append.1 hy with hy | hy
            · exact h1.one y hy
            · rw [List.mem_singleton.1 hy]; exact hx
          · show (many 45 (e.lines ++ [x]) : Int) + (s.old - (sds x).1) = e.an
            rw [m1]; omega
          · show (many 43 (e.lines ++ [x]) : Int) + (s.fresh - (sds x).2) = e.bn
            rw [m2]; omega
          · show 0 ≤ s.old - (sds x).1
            omega
          · show 0 ≤ s.fresh - (sds x).2
            omega
          · have h2 : lineL x = [x] := by rw [lineL, if_pos c1]
            rw [hkL_snoc, h2, h1.ls, List.append_assoc]
        · cases hs
theorem inv_run : ∀ (l : Ls) (s s' : St) (ls : Ls) (n m : Nat), Inv s ls → (∀ x ∈ l, lns x = [x]) → run s l n = (m, some s') → Inv s' (ls ++ l)
  | [], s, s', ls, n, m, h, _, hr => by
    rw [run] at hr
    injection hr with _ hr
    injection hr with hr
    rw [← hr, List.append_nil]; exact h
  | x :: l, s, s', ls, n, m, h, hl, hr => by
    rw [run] at hr
    cases hq : step s x with
    | none => rw [hq] at hr; simp at hr
    | some s2 =>
      rw [hq] at hr
      have := inv_run l s2 s' (ls ++ [x]) _ _ (inv_step h (hl x List.mem_cons_self) hq) (fun y hy => hl y (List.mem_cons_of_mem _ hy)) hr
      simpa using this
theorem lns_ones : ∀ t : List UInt8, ∀ x ∈ lns t, lns x = [x]
  | [], x, h => by cases h
  | b :: r, x, h => by
    have ih := lns_ones r
    rw [lns_cons] at h
    by_cases hb : b = 10
    · rw [if_pos hb] at h
      rcases List.mem_cons.1 h with h | h
      · rw [h, hb]; rfl
      · exact ih x h
    · rw [if_neg hb] at h
      cases hq : lns r with
      | nil =>
        rw [hq] at h
        obtain rfl : x = [b] := by simpa using h
        simp [lns, hb]
      | cons u q =>
        rw [hq] at h ih
        rcases List.mem_cons.1 h with h | h
        · have h1 := ih u List.mem_cons_self
          rw [h, lns_cons, if_neg hb, h1]
        · exact ih x (List.mem_cons_of_mem _ h)
/-- what is read, printed, is the text again -/
theorem parse_some {t : List UInt8} {l : List Hk} {n : Nat} (h : parse t = (l, n, 0)) : n = 0 ∧ l.all tell = true ∧ prt l = t := by
  unfold parse fin at h
  split at h
  · cases h
  · rename_i s hs
    split at h
    · rename_i hw
      injection h with h1 h2
      injection h2 with h2 _
      have hi := inv_run (lns t) ⟨[], 0, 0⟩ s [] 0 _ (.inl ⟨rfl, rfl, rfl, rfl⟩) (lns_ones t) (Prod.ext rfl hs)
      rw [List.nil_append] at hi
      have key : l.all tell = true ∧ lns t = (l.map hkL).flatten := by
        rcases hi with ⟨h3, h4, _⟩ | ⟨e, V, h3⟩
        · rw [← h1, h3, h4]; exact ⟨rfl, rfl⟩
        · rw [← h1, h3.rv]
          constructor
          · rw [List.all_eq_true]
            intro g hg
            rcases List.mem_cons.1 (List.mem_reverse.1 hg) with hg | hg
            · rw [hg]; exact h3.tell hw.1 hw.2
            · exact h3.told g hg
          · rw [h3.ls]; simp
      refine ⟨h2.symm, key.1, ?_⟩
      rw [prt, if_pos key.1, ← hks_flat, ← key.2, lns_flat]
    · cases h
set_option maxHeartbeats 400000 in
theorem step_mark (a an b bn : Int) (L1 : Ls) (x : List UInt8) (V : List Hk) (o f : Int) : step ⟨⟨a, an, b, bn, L1 ++ [x ++ [10]]⟩ :: V, o, f⟩ markB = some ⟨⟨a, an, b, bn, L1 ++ [x]⟩ :: V, o, f⟩ := by
  have hn : noEnd ⟨⟨a, an, b, bn, L1 ++ [x ++ [10]]⟩ :: V, o, f⟩ markB = some ⟨⟨a, an, b, bn, L1 ++ [x]⟩ :: V, o, f⟩ := by
    have ha : ahd (⟨a, an, b, bn, L1 ++ [x ++ [10]]⟩ :: V) = x ++ [10] := by simp [ahd]
    have hc : markB = markB ∧ Lib.hasSuffix (ahd (⟨a, an, b, bn, L1 ++ [x ++ [10]]⟩ :: V)) [10] = true := ⟨rfl, by rw [ha, suffix_end]; rfl⟩
    have h1 : noEnd ⟨⟨a, an, b, bn, L1 ++ [x ++ [10]]⟩ :: V, o, f⟩ markB = some ⟨⟨a, an, b, bn, (L1 ++ [x ++ [10]]).dropLast ++ [(ahd (⟨a, an, b, bn, L1 ++ [x ++ [10]]⟩ :: V)).dropLast]⟩ :: V, o, f⟩ := if_pos hc
    rw [h1, ha, List.dropLast_concat, List.dropLast_concat]
  by_cases hw : o = 0 ∧ f = 0
  · have h3 : stepH ⟨⟨a, an, b, bn, L1 ++ [x ++ [10]]⟩ :: V, o, f⟩ markB = noEnd ⟨⟨a, an, b, bn, L1 ++ [x ++ [10]]⟩ :: V, o, f⟩ markB := by
      unfold stepH
      rw [hd_mark]
    rw [step, if_pos hw, h3, hn]
  · have h0 : sds markB = (0, 0) := sds_no markB (by decide)
    have h2 : (sds markB).1 + (sds markB).2 = 0 := by rw [h0]; rfl
    rw [step, if_neg hw, stepL, if_pos h2]; exact hn
theorem run_some {s s' : St} {x : List UInt8} (h : step s x = some s') (l : Ls) (n : Nat) : run s (x :: l) n = run s' l (n + 1) := by rw [run, h]
/-- a hunk's lines are read -/
theorem run_lines (a an b bn : Int) (V : List Hk) (l : Ls) : ∀ (L2 L1 : Ls) (o f : Int) (n : Nat), okF false (L1 ++ L2) = true → (∀ x ∈ L2, lns x = [x]) → o = many 45 L2 → f = many 43 L2 →
    run ⟨⟨a, an, b, bn, L1⟩ :: V, o, f⟩ ((L2.map lineL).flatten ++ l) n = run ⟨⟨a, an, b, bn, L1 ++ L2⟩ :: V, 0, 0⟩ l (n + (L2.map lineL).flatten.length)
  | [], L1, o, f, n, _, _, ho, hf => by
    simp [many] at ho hf
    subst ho hf
    simp
  | x :: L2, L1, o, f, n, hok, hone, ho, hf => by
    have hok' : okF false ((L1 ++ [x]) ++ L2) = true := by simpa using hok
    have hx := hone x List.mem_cons_self
    have hok1 : okF false (L1 ++ [x]) = true := by
      have : ∀ (l r : Ls) (p : Bool), okF p (l ++ r) = true → okF p l = true := by
        intro l
        induction l with
        | nil => intro r p _; rfl
        | cons y l ih =>
          intro r p h
          rw [List.cons_append, okF, Bool.and_eq_true] at h
          rw [okF, Bool.and_eq_true]
          exact ⟨h.1, ih r _ h.2⟩
      exact this _ _ _ hok'
    rw [okF_snoc, Bool.and_eq_true, Bool.and_eq_true, decide_eq_true_iff] at hok1
    obtain ⟨_, hsg, hbeh⟩ := hok1
    have h45 : many 45 (x :: L2) = many 45 [x] + many 45 L2 := many_append 45 [x] L2
    have h43 : many 43 (x :: L2) = many 43 [x] + many 43 L2 := many_append 43 [x] L2
    have ih := run_lines a an b bn V l L2 (L1 ++ [x]) (many 45 L2) (many 43 L2)
    -- the line with its end is taken
    have key : ∀ (y : List UInt8) (n : Nat) (r : Ls), closed y = true → sg y = sg x → run ⟨⟨a, an, b, bn, L1⟩ :: V, o, f⟩ (y :: r) n = run ⟨⟨a, an, b, bn, L1 ++ [y]⟩ :: V, many 45 L2, many 43 L2⟩ r (n + 1) := by
      intro y n r hy hsy
      have hsgy : sg y = 32 ∨ sg y = 45 ∨ sg y = 43 := by rw [hsy]; exact hsg
      obtain ⟨d1, d2, d3, d4, d5⟩ := sds_many y hsgy
      rw [many_one 45 y x hsy] at d1
      rw [many_one 43 y x hsy] at d2
      have hw : ¬ (o = 0 ∧ f = 0) := by omega
      have hst : step ⟨⟨a, an, b, bn, L1⟩ :: V, o, f⟩ y = some ⟨⟨a, an, b, bn, L1 ++ [y]⟩ :: V, many 45 L2, many 43 L2⟩ := by
        rw [step, if_neg hw, stepL, if_neg d3]
        simp only
        rw [if_pos]
        · have e1 : o - (sds y).1 = many 45 L2 := by omega
          have e2 : f - (sds y).2 = many 43 L2 := by omega
          rw [e1, e2]
        · refine ⟨hy, ?_, by omega, by omega⟩
          rw [hsy, ahd]
          intro hc
          simp only at hc
          cases hq : L1.getLast? with
          | none => rw [hq] at hc; exact absurd hc.2 (by decide)
          | some z => rw [hq] at hc hbeh; simp [hc.1] at hbeh; exact hbeh (by simpa using hc.2)
      exact run_some hst r n
    simp only [List.map_cons, List.flatten_cons, List.append_assoc]
    cases hc : closed x with
    | true =>
      have h2 : lineL x = [x] := by rw [lineL, if_pos hc]
      rw [h2, List.singleton_append, key x n _ hc rfl, ih (n + 1) hok' (fun y hy => hone y (List.mem_cons_of_mem _ hy)) rfl rfl]
      simp [Nat.add_assoc, Nat.add_comm 1]
    | false =>
      have h2 : lineL x = [x ++ [10], markB] := by rw [lineL, if_neg (by rw [hc]; simp)]
      have hxn := one_ne hx
      rw [h2, List.cons_append, key (x ++ [10]) n _ (by rw [closed_snoc]; rfl) (sg_snoc 10 hxn), List.cons_append, List.nil_append]
      rw [run_some (step_mark a an b bn L1 x V (many 45 L2) (many 43 L2)), ih (n + 1 + 1) hok' (fun y hy => hone y (List.mem_cons_of_mem _ hy)) rfl rfl]
      have e1 : (L1 ++ [x]) ++ L2 = L1 ++ x :: L2 := by rw [List.append_assoc]; rfl
      have e2 : n + 1 + 1 + (L2.map lineL).flatten.length = n + ((x ++ [10]) :: markB :: (L2.map lineL).flatten).length := by rw [List.length_cons, List.length_cons]; omega
      rw [e1, e2, List.cons_append, List.cons_append, List.nil_append]
theorem step_head {s : St} {x : List UInt8} {h : Hk} (h0 : s.old = 0) (h1 : s.fresh = 0) (hh : hd x = some h) : step s x = some ⟨h :: s.rv, h.an, h.bn⟩ := by
  unfold step stepH
  rw [if_pos ⟨h0, h1⟩, hh]
theorem run_hk {e : Hk} (h : tell e = true) (V : List Hk) (l : Ls) (n : Nat) : run ⟨V, 0, 0⟩ (hkL e ++ l) n = run ⟨e :: V, 0, 0⟩ l (n + (hkL e).length) := by
  obtain ⟨p1, p2, p3, p4, p5, p6⟩ := tell_iff.1 h
  have hst : step ⟨V, 0, 0⟩ (headT e.a e.an e.b e.bn) = some ⟨⟨e.a, e.an, e.b, e.bn, []⟩ :: V, e.an, e.bn⟩ := by
    exact step_head (s := ⟨V, 0, 0⟩) rfl rfl (hd_head p2 p3)
  rw [hkL, List.cons_append, run_some hst, run_lines e.a e.an e.b e.bn V l e.lines [] e.an e.bn (n + 1) (by simpa using p1) p6 p4 p5]
  simp [Nat.add_assoc, Nat.add_comm 1]
theorem run_hks : ∀ (L : List Hk) (V : List Hk) (l : Ls) (n : Nat), L.all tell = true → run ⟨V, 0, 0⟩ ((L.map hkL).flatten ++ l) n = run ⟨L.reverse ++ V, 0, 0⟩ l (n + (L.map hkL).flatten.length)
  | [], V, l, n, _ => by simp
  | e :: L, V, l, n, h => by
    rw [List.all_cons, Bool.and_eq_true] at h
    simp only [List.map_cons, List.flatten_cons, List.append_assoc]
    rw [run_hk h.1, run_hks L (e :: V) l _ h.2]
    simp [Nat.add_assoc]
/-- what is printed is read -/
theorem parse_prt {l : List Hk} (h : l.all tell = true) : parse (prt l) = (l, 0, 0) := by
  have h1 := run_hks l [] [] 0 h
  rw [List.append_nil] at h1
  rw [parse, prt_lns h, h1, List.append_nil, run, fin]
  simp
end Go.Proofs.YtnehgogajghefaaDoor.Un
