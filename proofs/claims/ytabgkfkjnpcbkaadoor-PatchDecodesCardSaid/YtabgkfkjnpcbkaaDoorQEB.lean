/-
  What is between two lists: front, end, and the way between; what follows. On lists alone.
-/
import Derived.Test.YtabgkfkjnpcbkaaDoorQWS
namespace Go.Proofs.YtabgkfkjnpcbkaaDoor.Df

/-- how many in a row, from k on, p holds of, of so many at most -/
def run (p : Nat → Bool) : Nat → Nat → Nat
  | k, 0 => k
  | k, m + 1 => if p k = true then run p (k + 1) m else k
structure IsRun (p : Nat → Bool) (most n : Nat) : Prop where
  le : n ≤ most
  all : ∀ j, j < n → p j = true
  stop : n < most → p n = false
theorem IsRun.uniq {p : Nat → Bool} {most n m : Nat} (h : IsRun p most n) (k : IsRun p most m) : n = m := by
  rcases Nat.lt_trichotomy n m with hlt | he | hlt
  · have h1 := h.stop (by have := k.le; omega)
    have h2 := k.all n hlt
    rw [h1] at h2; cases h2
  · exact he
  · have h1 := k.stop (by have := h.le; omega)
    have h2 := h.all m hlt
    rw [h1] at h2; cases h2
theorem run_from (p : Nat → Bool) : ∀ (m k : Nat), (∀ j, j < k → p j = true) → IsRun p (k + m) (run p k m)
  | 0, k, h => ⟨Nat.le_refl _, h, fun h => absurd h (by simp [run])⟩
  | m + 1, k, h => by
    rw [run]
    by_cases hp : p k = true
    · rw [if_pos hp]
      have := run_from p m (k + 1) (fun j hj => by
        rcases Nat.lt_or_ge j k with hl | hl
        · exact h j hl
        · obtain rfl : j = k := by omega
          exact hp)
      rwa [show k + 1 + m = k + (m + 1) from by omega] at this
    · rw [if_neg hp]
      exact ⟨by omega, h, fun _ => by simpa using hp⟩
theorem run_is (p : Nat → Bool) (m : Nat) : IsRun p m (run p 0 m) := by
  have := run_from p m 0 (fun j h => absurd h (Nat.not_lt_zero _))
  rwa [Nat.zero_add] at this
theorem IsRun.congr {p q : Nat → Bool} {m n : Nat} (h : IsRun p m n) (he : ∀ j, j < m → p j = q j) : IsRun q m n :=
  ⟨h.le, fun j hj => by rw [← he j (by have := h.le; omega)]; exact h.all j hj, fun hn => by rw [← he n hn]; exact h.stop hn⟩

def frP (a b : Ls) (i : Nat) : Bool := decide (a.getD i [] = b.getD i [])
def bkP (a b : Ls) (i : Nat) : Bool := decide (a.getD (a.length - 1 - i) [] = b.getD (b.length - 1 - i) [])
def fr (a b : Ls) : Nat := run (frP a b) 0 (min a.length b.length)
def bk (a b : Ls) : Nat := run (bkP a b) 0 (min a.length b.length - fr a b)
/-- what is left of a list without so many in front, and behind -/
def mid (a : Ls) (f e : Nat) : Ls := (a.drop f).take (a.length - e - f)
/-- what is between two lists -/
def D (a b : Ls) : List Ed :=
  if (mid a (fr a b) (bk a b)).length * (mid b (fr a b) (bk a b)).length ≤ 65536 then go (mid a (fr a b) (bk a b)) (mid b (fr a b) (bk a b)) (fr a b) 0 []
  else emit (fr a b) (mid a (fr a b) (bk a b)).length (mid b (fr a b) (bk a b))
theorem fr_is (a b : Ls) : IsRun (frP a b) (min a.length b.length) (fr a b) := run_is _ _
theorem bk_is (a b : Ls) : IsRun (bkP a b) (min a.length b.length - fr a b) (bk a b) := run_is _ _
theorem mid_len (a : Ls) (f e : Nat) (h : f + e ≤ a.length) : (mid a f e).length = a.length - e - f := by
  unfold mid; rw [List.length_take, List.length_drop]; omega
theorem mid_parts (a : Ls) (f e : Nat) (h : f + e ≤ a.length) : a = a.take f ++ (mid a f e ++ a.drop (a.length - e)) := by
  unfold mid
  have := drop_split a f (a.length - e) (by omega)
  rw [← this, List.take_append_drop]
theorem ext_getD {x y : Ls} (hl : x.length = y.length) (h : ∀ j, j < x.length → x.getD j [] = y.getD j []) : x = y := by
  apply List.ext_getElem hl
  intro j h1 h2
  have := h j h1
  simpa [List.getD_eq_getElem?_getD, List.getElem?_eq_getElem h1, List.getElem?_eq_getElem h2] using this
/-- both lists by what they have in common in front and behind -/
theorem parts (a b : Ls) : ∃ p s x y : Ls, a = p ++ (x ++ s) ∧ b = p ++ (y ++ s) ∧ fr a b = p.length ∧ bk a b = s.length ∧ mid a (fr a b) (bk a b) = x ∧ mid b (fr a b) (bk a b) = y := by
  have hf := fr_is a b
  have he := bk_is a b
  have h1 := hf.le
  have h2 := he.le
  have hp : a.take (fr a b) = b.take (fr a b) := by
    apply ext_getD
    · rw [List.length_take, List.length_take]; omega
    · intro j hj
      rw [List.length_take] at hj
      have := hf.all j (by omega)
      simp only [frP, decide_eq_true_eq] at this
      simpa [List.getD_eq_getElem?_getD, List.getElem?_take, show j < fr a b from by omega] using this
  have hs : a.drop (a.length - bk a b) = b.drop (b.length - bk a b) := by
    apply ext_getD
    · rw [List.length_drop, List.length_drop]; omega
    · intro j hj
      rw [List.length_drop] at hj
      have := he.all (bk a b - 1 - j) (by omega)
      simp only [bkP, decide_eq_true_eq] at this
      rw [show a.length - 1 - (bk a b - 1 - j) = a.length - bk a b + j from by omega, show b.length - 1 - (bk a b - 1 - j) = b.length - bk a b + j from by omega] at this
      simpa [List.getD_eq_getElem?_getD, List.getElem?_drop] using this
  refine ⟨a.take (fr a b), a.drop (a.length - bk a b), _, _, mid_parts a _ _ (by omega), ?_, ?_, ?_, rfl, rfl⟩
  · rw [hp, hs]; exact mid_parts b _ _ (by omega)
  · rw [List.length_take]; omega
  · rw [List.length_drop]; omega
theorem mul_le {x y n m : Nat} (h1 : x ≤ n) (h2 : y ≤ m) : x * y ≤ n * m := Nat.mul_le_mul h1 h2
theorem D_size (a b : Ls) (h : a.length * b.length ≤ 65536) : size (D a b) + 2 * (lcs a b : Int) = a.length + b.length := by
  obtain ⟨p, s, x, y, ha, hb, hf, he, hx, hy⟩ := parts a b
  have hl : lcs a b = p.length + (lcs x y + s.length) := by rw [ha, hb, lcs_front, lcs_back]
  have la := congrArg List.length ha
  have lb := congrArg List.length hb
  rw [List.length_append, List.length_append] at la lb
  have hm : x.length * y.length ≤ 65536 := Nat.le_trans (mul_le (by omega) (by omega)) h
  unfold D
  rw [hx, hy, if_pos hm, hl, la, lb]
  have := size_go x y (fr a b) 0 []
  simp at this ⊢
  omega
theorem play_emit (a : Ls) (pos : Nat) (x y s : Ls) (at_ : Nat) (h : at_ ≤ pos) (h2 : a.drop pos = x ++ s) : play a at_ (emit pos x.length y) = (a.drop at_).take (pos - at_) ++ y ++ s := by
  unfold emit
  split
  · rename_i hd
    obtain rfl : x = [] := List.eq_nil_of_length_eq_zero hd.1
    rw [hd.2, play, List.append_nil, ← List.nil_append s, ← h2]
    exact drop_split a at_ pos h
  · simp only [play, Int.toNat_natCast]
    rw [← List.drop_drop, h2, List.drop_left]
theorem D_play (a b : Ls) : play a 0 (D a b) = b := by
  obtain ⟨p, s, x, y, ha, hb, hf, he, hx, hy⟩ := parts a b
  have hd : a.drop (fr a b) = x ++ s := by rw [hf]; conv => lhs; rw [ha]
                                           rw [List.drop_left]
  have ht : a.take (fr a b) = p := by rw [hf]; conv => lhs; rw [ha]
                                      rw [List.take_left]
  unfold D
  rw [hx, hy]
  split
  · rw [play_go a s x y (fr a b) 0 [] 0 (Nat.zero_le _) hd, List.drop_zero, Nat.sub_zero, ht, List.append_nil]
    conv => rhs; rw [hb]
    rw [List.append_assoc]
  · rw [play_emit a (fr a b) x y s 0 (Nat.zero_le _) hd, List.drop_zero, Nat.sub_zero, ht]
    conv => rhs; rw [hb]
    rw [List.append_assoc]
theorem D_right (a b : Ls) : right a.length (-1) (D a b) = true := by
  obtain ⟨p, s, x, y, ha, hb, hf, he, hx, hy⟩ := parts a b
  have la := congrArg List.length ha
  rw [List.length_append, List.length_append] at la
  unfold D
  rw [hx, hy]
  split
  · exact right_go _ _ _ _ _ _ _ (by omega) (by omega)
  · have := right_emit a.length (-1) (fr a b) x.length y [] (by omega) (by omega) (fun _ _ => rfl)
    rwa [List.append_nil] at this
theorem D_self (a : Ls) : D a a = [] := by
  have hf : fr a a = a.length := by
    refine (fr_is a a).uniq ⟨by omega, fun j _ => by simp [frP], fun h => by omega⟩
  have he : bk a a = 0 := by
    have := (bk_is a a).le
    omega
  unfold D
  rw [hf, he]
  simp [mid, go_nil, emit]
theorem D_nil {a b : Ls} (h : D a b = []) : a = b := by
  have := D_play a b
  rw [h, play] at this
  simpa using this
theorem D_nil_iff (a b : Ls) : ((D a b).length = 0) ↔ a = b :=
  ⟨fun h => D_nil (List.eq_nil_of_length_eq_zero h), fun h => by rw [h, D_self]; rfl⟩

/-- the same edits, further on -/
def shift (n : Nat) (l : List Ed) : List Ed := l.map fun e => ⟨e.pos + n, e.del, e.ins⟩
theorem shift_emit (n pos del : Nat) (ins : Ls) : emit (pos + n) del ins = shift n (emit pos del ins) := by
  unfold emit shift
  split
  · rfl
  · simp
theorem shift_go (n : Nat) (x y : Ls) (pos del : Nat) (ins : Ls) : go x y (pos + n) del ins = shift n (go x y pos del ins) := by
  have key : ∀ (m : Nat) (x y : Ls) (pos del : Nat) (ins : Ls), x.length + y.length ≤ m → go x y (pos + n) del ins = shift n (go x y pos del ins) := by
    intro m
    induction m with
    | zero =>
      intro x y pos del ins h
      obtain rfl : x = [] := List.eq_nil_of_length_eq_zero (by omega)
      obtain rfl : y = [] := List.eq_nil_of_length_eq_zero (by omega)
      rw [go_nil, go_nil, shift_emit]
    | succ m ih =>
      intro x y pos del ins h
      cases x with
      | nil =>
        cases y with
        | nil => rw [go_nil, go_nil, shift_emit]
        | cons b y => rw [go_come, go_come]; exact ih _ _ _ _ _ (by simp at h ⊢; omega)
      | cons a x =>
        cases y with
        | nil => rw [go_gone, go_gone]; exact ih _ _ _ _ _ (by simp at h ⊢; omega)
        | cons b y =>
          simp only [List.length_cons] at h
          rw [go_both, go_both]
          split
          · have e : pos + n + del + 1 = pos + del + 1 + n := by omega
            rw [e, ih x y _ _ _ (by omega), shift_emit]
            simp [shift]
          · split
            · exact ih _ _ _ _ _ (by simp; omega)
            · exact ih _ _ _ _ _ (by simp; omega)
  exact key _ x y pos del ins (Nat.le_refl _)
theorem getD_mid (F a G : Ls) (i : Nat) (h : i < a.length) : (F ++ (a ++ G)).getD (F.length + i) [] = a.getD i [] := by
  simp [List.getD_eq_getElem?_getD, List.getElem?_append_right, List.getElem?_append_left h]
theorem getD_front (F r : Ls) (i : Nat) (h : i < F.length) : (F ++ r).getD i [] = F.getD i [] := by
  simp [List.getD_eq_getElem?_getD, List.getElem?_append_left h]
theorem getD_back (F a G : Ls) (i : Nat) : (F ++ (a ++ G)).getD (F.length + (a.length + i)) [] = G.getD i [] := by
  simp [List.getD_eq_getElem?_getD, List.getElem?_append_right]
theorem getD_mem {l : Ls} {i : Nat} (h : i < l.length) : l.getD i [] ∈ l := by simp [List.getElem?_eq_getElem h]
theorem getD_rep (n i : Nat) (z : List UInt8) (h : i < n) : (List.replicate n z).getD i [] = z := by simp [h]
/-- what both have around changes nothing -/
theorem D_around (a b : Ls) (n m : Nat) (z : List UInt8) (ha : z ∉ a) (hb : z ∉ b) :
    D (List.replicate n z ++ (a ++ List.replicate m z)) (List.replicate n z ++ (b ++ List.replicate m z)) = shift n (D a b) := by
  by_cases hab : a = b
  · subst hab; rw [D_self, D_self]; rfl
  obtain ⟨F, hF⟩ : ∃ F, F = List.replicate n z := ⟨_, rfl⟩
  obtain ⟨G, hG⟩ : ∃ G, G = List.replicate m z := ⟨_, rfl⟩
  rw [← hF, ← hG]
  have lF : F.length = n := by rw [hF]; simp
  have lG : G.length = m := by rw [hG]; simp
  have hf := fr_is a b
  have he := bk_is a b
  obtain ⟨f, hfe⟩ : ∃ f, f = fr a b := ⟨_, rfl⟩
  obtain ⟨e, hee⟩ : ∃ e, e = bk a b := ⟨_, rfl⟩
  rw [← hfe] at hf he
  rw [← hee] at he
  have hf1 := hf.le
  have he1 := he.le
  have hnotboth : ¬ (f = a.length ∧ f = b.length) := by
    rintro ⟨h1, h2⟩
    refine hab (ext_getD (by omega) fun j hj => ?_)
    have := hf.all j (by omega)
    simpa [frP] using this
  have lA : (F ++ (a ++ G)).length = n + (a.length + m) := by simp [lF, lG]
  have lB : (F ++ (b ++ G)).length = n + (b.length + m) := by simp [lF, lG]
  have gA : ∀ i, i < a.length → (F ++ (a ++ G)).getD (n + i) [] = a.getD i [] := fun i h => by rw [← lF]; exact getD_mid F a G i h
  have gB : ∀ i, i < b.length → (F ++ (b ++ G)).getD (n + i) [] = b.getD i [] := fun i h => by rw [← lF]; exact getD_mid F b G i h
  have zA : ∀ i, i < m → (F ++ (a ++ G)).getD (n + (a.length + i)) [] = z := fun i h => by rw [← lF, getD_back, hG, getD_rep _ _ _ h]
  have zB : ∀ i, i < m → (F ++ (b ++ G)).getD (n + (b.length + i)) [] = z := fun i h => by rw [← lF, getD_back, hG, getD_rep _ _ _ h]
  have nA : ∀ i, i < a.length → a.getD i [] ≠ z := fun i h hz => ha (hz ▸ getD_mem h)
  have nB : ∀ i, i < b.length → b.getD i [] ≠ z := fun i h hz => hb (hz ▸ getD_mem h)
  have hfr : fr (F ++ (a ++ G)) (F ++ (b ++ G)) = n + f := by
    refine (fr_is _ _).uniq ⟨by rw [lA, lB]; omega, fun j hj => ?_, fun hlt => ?_⟩
    · simp only [frP, decide_eq_true_eq]
      rcases Nat.lt_or_ge j n with hjn | hjn
      · rw [getD_front _ _ _ (by omega), getD_front _ _ _ (by omega)]
      · obtain ⟨i, rfl⟩ : ∃ i, j = n + i := ⟨j - n, by omega⟩
        rw [gA i (by omega), gB i (by omega)]
        have := hf.all i (by omega)
        simpa [frP] using this
    · rw [lA, lB] at hlt
      simp only [frP, decide_eq_false_iff_not]
      rcases Nat.lt_or_ge f a.length with h1 | h1
      · rcases Nat.lt_or_ge f b.length with h2 | h2
        · rw [gA f h1, gB f h2]
          have := hf.stop (by omega)
          simpa [frP] using this
        · obtain rfl : f = b.length := by omega
          rw [gA _ h1, show n + b.length = n + (b.length + 0) from rfl, zB 0 (by omega)]
          exact nA _ h1
      · obtain rfl : f = a.length := by omega
        rw [gB _ (by omega), show n + a.length = n + (a.length + 0) from rfl, zA 0 (by omega)]
        exact fun h => nB _ (by omega) h.symm
  have hbk : bk (F ++ (a ++ G)) (F ++ (b ++ G)) = m + e := by
    refine (bk_is _ _).uniq ⟨by rw [lA, lB, hfr]; omega, fun j hj => ?_, fun hlt => ?_⟩
    · simp only [bkP, decide_eq_true_eq, lA, lB]
      rcases Nat.lt_or_ge j m with hjn | hjn
      · rw [show n + (a.length + m) - 1 - j = n + (a.length + (m - 1 - j)) from by omega, zA _ (by omega), show n + (b.length + m) - 1 - j = n + (b.length + (m - 1 - j)) from by omega, zB _ (by omega)]
      · rw [show n + (a.length + m) - 1 - j = n + (a.length - 1 - (j - m)) from by omega, gA _ (by omega), show n + (b.length + m) - 1 - j = n + (b.length - 1 - (j - m)) from by omega, gB _ (by omega)]
        have := he.all (j - m) (by omega)
        simpa [bkP] using this
    · rw [lA, lB, hfr] at hlt
      simp only [bkP, decide_eq_false_iff_not, lA, lB]
      rw [show n + (a.length + m) - 1 - (m + e) = n + (a.length - 1 - e) from by omega, gA _ (by omega), show n + (b.length + m) - 1 - (m + e) = n + (b.length - 1 - e) from by omega, gB _ (by omega)]
      have := he.stop (by omega)
      simpa [bkP] using this
  have hmid : ∀ c : Ls, f + e ≤ c.length → mid (F ++ (c ++ G)) (n + f) (m + e) = mid c f e := by
    intro c hc
    unfold mid
    have lC : (F ++ (c ++ G)).length = n + (c.length + m) := by simp [lF, lG]
    rw [lC, ← lF, ← List.drop_drop, List.drop_left, List.drop_append_of_le_length (by omega), lF, show n + (c.length + m) - (m + e) - (n + f) = c.length - e - f from by omega, List.take_append_of_le_length (by rw [List.length_drop]; omega)]
  unfold D
  rw [hfr, hbk, hmid a (by omega), hmid b (by omega), ← hfe, ← hee, Nat.add_comm n f, shift_go, shift_emit]
  split <;> rfl
/-- of two lists that are too long all of the middle goes, and comes -/
theorem D_long (n m k : Nat) (x y z : List UInt8) (hxy : x ≠ y) (hk : 65536 < k * k) :
    D (List.replicate n z ++ (List.replicate k x ++ List.replicate m z)) (List.replicate n z ++ (List.replicate k y ++ List.replicate m z)) = [⟨n, k, List.replicate k y⟩] := by
  have hk0 : 0 < k := by
    rcases Nat.eq_zero_or_pos k with h | h
    · subst h; simp at hk
    · exact h
  obtain ⟨F, hF⟩ : ∃ F, F = List.replicate n z := ⟨_, rfl⟩
  obtain ⟨G, hG⟩ : ∃ G, G = List.replicate m z := ⟨_, rfl⟩
  rw [← hF, ← hG]
  have lF : F.length = n := by rw [hF]; simp
  have lG : G.length = m := by rw [hG]; simp
  have lC : ∀ c : List UInt8, (F ++ (List.replicate k c ++ G)).length = n + (k + m) := fun c => by simp [lF, lG]
  have gC : ∀ (c : List UInt8) (i : Nat), i < k → (F ++ (List.replicate k c ++ G)).getD (n + i) [] = c := fun c i h => by
    rw [← lF, getD_mid F _ G i (by simpa using h), getD_rep _ _ _ h]
  have zC : ∀ (c : List UInt8) (i : Nat), i < m → (F ++ (List.replicate k c ++ G)).getD (n + (k + i)) [] = z := fun c i h => by
    have := getD_back F (List.replicate k c) G i
    rw [List.length_replicate, lF] at this
    rw [this, hG, getD_rep _ _ _ h]
  have hfr : fr (F ++ (List.replicate k x ++ G)) (F ++ (List.replicate k y ++ G)) = n := by
    refine (fr_is _ _).uniq ⟨by rw [lC, lC]; omega, fun j hj => ?_, fun _ => ?_⟩
    · simp only [frP, decide_eq_true_eq]
      rw [getD_front _ _ _ (by omega), getD_front _ _ _ (by omega)]
    · simp only [frP, decide_eq_false_iff_not]
      have h1 := gC x 0 hk0
      have h2 := gC y 0 hk0
      rw [Nat.add_zero] at h1 h2
      rw [h1, h2]
      exact hxy
  have hbk : bk (F ++ (List.replicate k x ++ G)) (F ++ (List.replicate k y ++ G)) = m := by
    refine (bk_is _ _).uniq ⟨by rw [lC, lC, hfr]; omega, fun j hj => ?_, fun _ => ?_⟩
    · simp only [bkP, decide_eq_true_eq, lC]
      rw [show n + (k + m) - 1 - j = n + (k + (m - 1 - j)) from by omega, zC _ _ (by omega), zC _ _ (by omega)]
    · simp only [bkP, decide_eq_false_iff_not, lC]
      rw [show n + (k + m) - 1 - m = n + (k - 1) from by omega, gC _ _ (by omega), gC _ _ (by omega)]
      exact hxy
  have hmid : ∀ c : List UInt8, mid (F ++ (List.replicate k c ++ G)) n m = List.replicate k c := by
    intro c
    unfold mid
    rw [lC, ← lF, List.drop_left, lF, show n + (k + m) - m - n = k from by omega, List.take_left' (by simp)]
  unfold D
  rw [hfr, hbk, hmid x, hmid y, List.length_replicate, List.length_replicate, if_neg (by omega)]
  unfold emit
  rw [if_neg (by omega)]
end Go.Proofs.YtabgkfkjnpcbkaaDoor.Df
namespace Go.Proofs.YtabgkfkjnpcbkaaDoor.Df
open Go Go.RowKit Kt Lw

theorem size_pos : ∀ L : List Ed, 0 ≤ size L
  | [] => Int.le_refl _
  | e :: l => by rw [size]; have := size_pos l; omega
theorem size_take (L : List Ed) (k : Nat) : size (L.take k) ≤ size L := by
  have h := size_append (L.take k) (L.drop k)
  rw [List.take_append_drop] at h
  have := size_pos (L.drop k)
  omega
theorem size_snoc (L : List Ed) (k : Nat) (e : Ed) (h : L[k]? = some e) : size (L.take (k + 1)) = size (L.take k) + (max 0 e.del + e.ins.length) := by
  rw [List.take_add_one, h, size_append]
  simp [size]
/-- the edit number k, in a world behind -/
theorem Es.at {w w' : World} {A : Option Addr} {c : Nat} {L : List Ed} (h : Es w A c L) (hb : Below w.heap.size w w') {k : Nat} (hk : k < L.length) :
    ∃ b o e A' c', A = some ⟨b, o, none⟩ ∧ L[k]? = some e ∧ (w'.cell? ⟨b, o + k * 3, none⟩ = some (.int .i64 e.pos) ∧ w'.cell? ⟨b, o + k * 3 + 1, none⟩ = some (.int .i64 e.del) ∧ w'.cell? ⟨b, o + k * 3 + 2, none⟩ = some (.slice A' e.ins.length c')) ∧ Vs w (fun b => b < w.heap.size) A' c' (texts e.ins) := by
  obtain ⟨b, o, rfl, hlt, he⟩ := h.2 (by omega)
  obtain ⟨A', c', h1, h2⟩ := he k _ (List.getElem?_eq_getElem hk)
  rw [Nat.mul_comm] at h1
  have h3 : ∀ i v, (edC L[k] (.slice A' (L[k]).ins.length c'))[i]? = some v → w'.cell? ⟨b, o + k * 3 + i, none⟩ = some v := fun i v hi => (World.cell?_of_block (a := ⟨b, o + k * 3 + i, none⟩) (hb.block b hlt)).trans (h1 i v hi)
  exact ⟨b, o, _, A', c', rfl, List.getElem?_eq_getElem hk, ⟨h3 0 _ rfl, h3 1 _ rfl, h3 2 _ rfl⟩, h2⟩
theorem box_kept {w w2 : World} {B : Nat} {v : Value} {l : Ls} {cs : Array Value} {t : TypeId} (hown : OwT w B tS v l) (hg : (w.alloc (.cells cs t)).grownBy w2 v.ownBlock) : Row w2 w.heap.size t cs.toList :=
  (Row.fresh w t cs).grown hg (fun h => by have := (World.ownsRow.lt hown _ h.symm).2; omega)

end Go.Proofs.YtabgkfkjnpcbkaaDoor.Df
namespace Go.Proofs.YtabgkfkjnpcbkaaDoor.Df
open Go Go.RowKit Kt Lw

theorem infoText : (Tryd.prog.info? 9).map (fun i => (i.zero, i.size, i.bytes)) = some (some (.string ⟨#[]⟩), 1, 16) := by kernel_rfl
theorem OwT.one {w : World} {B : Nat} {v : Value} {l : Ls} (h : OwT w B tS v l) : v.oneCell' = true := by
  rcases h.2 with ⟨rfl, _⟩ | ⟨g, cap, cur, rfl, _⟩ <;> rfl
theorem grown_then {a b c : World} {r : Option Nat} (h : a.grownBy b none) (k : b.grownBy c r) : a.grownBy c r :=
  ⟨k.os.trans h.os, k.tape.trans h.tape, k.output.trans h.output, Nat.le_trans h.size k.size, fun i hi hne => (k.block i (Nat.lt_of_lt_of_le hi h.size) hne).trans (h.block i hi (by simp))⟩
/-- an edit, if it has a line that goes, or comes -/
def emitI (pos del : Int) (ins : Ls) : List Ed := if del = 0 ∧ ins = [] then [] else [⟨pos, del, ins⟩]
theorem emitI_nat (pos del : Nat) (ins : Ls) : emitI pos del ins = emit pos del ins := by
  unfold emitI emit
  by_cases h : del = 0 ∧ ins = []
  · rw [if_pos h, if_pos ⟨by omega, h.2⟩]
  · rw [if_neg h, if_neg (fun k => h ⟨by omega, k.2⟩)]

end Go.Proofs.YtabgkfkjnpcbkaaDoor.Df
namespace Go.Proofs.YtabgkfkjnpcbkaaDoor.Df
open Go Go.RowKit Kt Lw

theorem vs_cut {w : World} {P : Nat → Prop} {A : Option Addr} {c : Nat} {l : Ls} (h : Vs w P A c (texts l)) {i j : Nat} (hij : i ≤ j) (hj : j ≤ l.length) :
    Vs w P (if c = i then A else A.map (·.add i)) (c - i) (texts ((l.drop i).take (j - i))) := by
  have h1 := h.1
  rw [texts_len] at h1
  refine ⟨by rw [texts_len, List.length_take, List.length_drop]; omega, fun hn => ?_⟩
  rw [texts_len, List.length_take, List.length_drop] at hn
  obtain ⟨b, o, rfl, hp, hc⟩ := h.2 (by rw [texts_len]; omega)
  rw [if_neg (by omega)]
  refine ⟨b, o + i, by simp [Addr.add_mid], hp, fun k v hk => ?_⟩
  have hkl := (List.getElem?_eq_some_iff.1 hk).1
  rw [texts_len, List.length_take, List.length_drop] at hkl
  rw [show o + i + k = o + (i + k) from by omega]
  refine hc (i + k) v ?_
  rw [← hk]
  unfold texts
  rw [List.getElem?_map, List.getElem?_map, List.getElem?_take, if_pos (by omega), List.getElem?_drop]

theorem run_cut2 (w : World) (A : Option Addr) (n c i j : Nat) (hij : i ≤ j) (hj : j ≤ c) :
    (Instr.slice 124 (.slice A n c) (some (.int .i64 (i : Int))) (some (.int .i64 (j : Int))) none).run Tryd.prog w = .ok (.slice (if c = i then A else A.map (·.add i)) (j - i) (c - i)) w := by
  have hu := run_underlying Tryd.underlying124
  cases A with
  | none => go_simp
  | some ad => go_simp
theorem run_cut1 (w : World) (A : Option Addr) (n c i : Nat) (hi : i ≤ n) :
    (Instr.slice 124 (.slice A n c) (some (.int .i64 (i : Int))) none none).run Tryd.prog w = .ok (.slice (if c = i then A else A.map (·.add i)) (n - i) (c - i)) w := by
  have hu := run_underlying Tryd.underlying124
  cases A with
  | none => go_simp
  | some ad => go_simp

end Go.Proofs.YtabgkfkjnpcbkaaDoor.Df
