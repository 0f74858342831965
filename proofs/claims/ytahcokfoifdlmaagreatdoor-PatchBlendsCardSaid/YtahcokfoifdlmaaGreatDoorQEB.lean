/-
  What is between two lists: front, end, and the way between; what follows. On lists alone.
-/
import Derived.Test.YtahcokfoifdlmaaGreatDoorQWS
import Derived.BigQuiet
import Derived.Test.YtahcokfoifdlmaaGreatDoorQPB
namespace Go.Proofs.YtahcokfoifdlmaaGreatDoor.Df

/-- how many in a row, from k on, p holds of, of so many at most -/
def run (p : Nat → Bool) : Nat → Nat → Nat
  | k, 0 => k
  | k, m + 1 => if p k = true then run p (k + 1) m else k
structure IsRun (p : Nat → Bool) (most n : Nat) : Prop where
  le : n ≤ most
  all : ∀ j, j < n → p j = true
  stop : n < most → p n = false
theorem run_from (p : Nat → Bool) : ∀ (m k : Nat), (∀ j, j < k → p j = true) → IsRun p (k + m) (run p k m)
  | 0, k, h => ⟨Nat.le_refl _, h, fun h => absurd h (by simp [run])⟩
  | m + 1, k, h => by
    rw [run]
    by_cases hp : p k = true
    · rw [if_pos hp]
      have := run_from p m (k + 1) (fun j hj => by
        rcases Nat.lt_or_ge j k with hl | hl
        · exact h j hl
        · obtain rfl : j = k := by omega
          exact hp)
      rwa [show k + 1 + m = k + (m + 1) from by omega] at this
    · rw [if_neg hp]
      exact ⟨by omega, h, fun _ => by simpa using hp⟩
theorem run_is (p : Nat → Bool) (m : Nat) : IsRun p m (run p 0 m) := by
  have := run_from p m 0 (fun j h => absurd h (Nat.not_lt_zero _))
  rwa [Nat.zero_add] at this
theorem IsRun.congr {p q : Nat → Bool} {m n : Nat} (h : IsRun p m n) (he : ∀ j, j < m → p j = q j) : IsRun q m n :=
  ⟨h.le, fun j hj => by rw [← he j (by have := h.le; omega)]; exact h.all j hj, fun hn => by rw [← he n hn]; exact h.stop hn⟩

def frP (a b : Ls) (i : Nat) : Bool := decide (a.getD i [] = b.getD i [])
def bkP (a b : Ls) (i : Nat) : Bool := decide (a.getD (a.length - 1 - i) [] = b.getD (b.length - 1 - i) [])
def fr (a b : Ls) : Nat := run (frP a b) 0 (min a.length b.length)
def bk (a b : Ls) : Nat := run (bkP a b) 0 (min a.length b.length - fr a b)
/-- what is left of a list without so many in front, and behind -/
def mid (a : Ls) (f e : Nat) : Ls := (a.drop f).take (a.length - e - f)
/-- what is between two lists -/
def D (a b : Ls) : List Ed :=
  if (mid a (fr a b) (bk a b)).length * (mid b (fr a b) (bk a b)).length ≤ 65536 then go (mid a (fr a b) (bk a b)) (mid b (fr a b) (bk a b)) (fr a b) 0 []
  else emit (fr a b) (mid a (fr a b) (bk a b)).length (mid b (fr a b) (bk a b))
theorem fr_is (a b : Ls) : IsRun (frP a b) (min a.length b.length) (fr a b) := run_is _ _
theorem bk_is (a b : Ls) : IsRun (bkP a b) (min a.length b.length - fr a b) (bk a b) := run_is _ _
theorem mid_parts (a : Ls) (f e : Nat) (h : f + e ≤ a.length) : a = a.take f ++ (mid a f e ++ a.drop (a.length - e)) := by
  unfold mid
  have := drop_split a f (a.length - e) (by omega)
  rw [← this, List.take_append_drop]
theorem ext_getD {x y : Ls} (hl : x.length = y.length) (h : ∀ j, j < x.length → x.getD j [] = y.getD j []) : x = y := by
  apply List.ext_getElem hl
  intro j h1 h2
  have := h j h1
  simpa [List.getD_eq_getElem?_getD, List.getElem?_eq_getElem h1, List.getElem?_eq_getElem h2] using this
/-- both lists by what they have in common in front and behind -/
theorem parts (a b : Ls) : ∃ p s x y : Ls, a = p ++ (x ++ s) ∧ b = p ++ (y ++ s) ∧ fr a b = p.length ∧ bk a b = s.length ∧ mid a (fr a b) (bk a b) = x ∧ mid b (fr a b) (bk a b) = y := by
  have hf := fr_is a b
  have he := bk_is a b
  have h1 := hf.le
  have h2 := he.le
  have hp : a.take (fr a b) = b.take (fr a b) := by
    apply ext_getD
    · rw [List.length_take, List.length_take]; omega
    · intro j hj
      rw [List.length_take] at hj
      have := hf.all j (by omega)
      simp only [frP, decide_eq_true_eq] at this
      simpa [List.getD_eq_getElem?_getD, List.getElem?_take, show j < fr a b from by omega] using this
  have hs : a.drop (a.length - bk a b) = b.drop (b.length - bk a b) := by
    apply ext_getD
    · rw [List.length_drop, List.length_drop]; omega
    · intro j hj
      rw [List.length_drop] at hj
      have := he.all (bk a b - 1 - j) (by omega)
      simp only [bkP, decide_eq_true_eq] at this
      rw [show a.length - 1 - (bk a b - 1 - j) = a.length - bk a b + j from by omega, show b.length - 1 - (bk a b - 1 - j) = b.length - bk a b + j from by omega] at this
      simpa [List.getD_eq_getElem?_getD, List.getElem?_drop] using this
  refine ⟨a.take (fr a b), a.drop (a.length - bk a b), _, _, mid_parts a _ _ (by omega), ?_, ?_, ?_, rfl, rfl⟩
  · rw [hp, hs]; exact mid_parts b _ _ (by omega)
  · rw [List.length_take]; omega
  · rw [List.length_drop]; omega
theorem play_emit (a : Ls) (pos : Nat) (x y s : Ls) (at_ : Nat) (h : at_ ≤ pos) (h2 : a.drop pos = x ++ s) : play a at_ (emit pos x.length y) = (a.drop at_).take (pos - at_) ++ y ++ s := by
  unfold emit
  split
  · rename_i hd
    obtain rfl : x = [] := List.eq_nil_of_length_eq_zero hd.1
    rw [hd.2, play, List.append_nil, ← List.nil_append s, ← h2]
    exact drop_split a at_ pos h
  · simp only [play, Int.toNat_natCast]
    rw [← List.drop_drop, h2, List.drop_left]
theorem D_play (a b : Ls) : play a 0 (D a b) = b := by
  obtain ⟨p, s, x, y, ha, hb, hf, he, hx, hy⟩ := parts a b
  have hd : a.drop (fr a b) = x ++ s := by rw [hf]; conv => lhs; rw [ha]
                                           rw [List.drop_left]
  have ht : a.take (fr a b) = p := by rw [hf]; conv => lhs; rw [ha]
                                      rw [List.take_left]
  unfold D
  rw [hx, hy]
  split
  · rw [play_go a s x y (fr a b) 0 [] 0 (Nat.zero_le _) hd, List.drop_zero, Nat.sub_zero, ht, List.append_nil]
    conv => rhs; rw [hb]
    rw [List.append_assoc]
  · rw [play_emit a (fr a b) x y s 0 (Nat.zero_le _) hd, List.drop_zero, Nat.sub_zero, ht]
    conv => rhs; rw [hb]
    rw [List.append_assoc]
theorem D_right (a b : Ls) : right a.length (-1) (D a b) = true := by
  obtain ⟨p, s, x, y, ha, hb, hf, he, hx, hy⟩ := parts a b
  have la := congrArg List.length ha
  rw [List.length_append, List.length_append] at la
  unfold D
  rw [hx, hy]
  split
  · exact right_go _ _ _ _ _ _ _ (by omega) (by omega)
  · have := right_emit a.length (-1) (fr a b) x.length y [] (by omega) (by omega) (fun _ _ => rfl)
    rwa [List.append_nil] at this
end Go.Proofs.YtahcokfoifdlmaaGreatDoor.Df
namespace Go.Proofs.YtahcokfoifdlmaaGreatDoor.Df
open Go Go.RowKit Kt Lw

/-- the edit number k, in a world behind -/
theorem Es.at {w w' : World} {A : Option Addr} {c : Nat} {L : List Ed} (h : Es w A c L) (hb : Below w.heap.size w w') {k : Nat} (hk : k < L.length) :
    ∃ b o e A' c', A = some ⟨b, o, none⟩ ∧ L[k]? = some e ∧ (w'.cell? ⟨b, o + k * 3, none⟩ = some (.int .i64 e.pos) ∧ w'.cell? ⟨b, o + k * 3 + 1, none⟩ = some (.int .i64 e.del) ∧ w'.cell? ⟨b, o + k * 3 + 2, none⟩ = some (.slice A' e.ins.length c')) ∧ Vs w (fun b => b < w.heap.size) A' c' (texts e.ins) := by
  obtain ⟨b, o, rfl, hlt, he⟩ := h.2 (by omega)
  obtain ⟨A', c', h1, h2⟩ := he k _ (List.getElem?_eq_getElem hk)
  rw [Nat.mul_comm] at h1
  have h3 : ∀ i v, (edC L[k] (.slice A' (L[k]).ins.length c'))[i]? = some v → w'.cell? ⟨b, o + k * 3 + i, none⟩ = some v := fun i v hi => (World.cell?_of_block (a := ⟨b, o + k * 3 + i, none⟩) (hb.block b hlt)).trans (h1 i v hi)
  exact ⟨b, o, _, A', c', rfl, List.getElem?_eq_getElem hk, ⟨h3 0 _ rfl, h3 1 _ rfl, h3 2 _ rfl⟩, h2⟩
end Go.Proofs.YtahcokfoifdlmaaGreatDoor.Df
namespace Go.Proofs.YtahcokfoifdlmaaGreatDoor.Df
open Go Go.RowKit Kt Lw

theorem infoText : (Tryz.prog.info? 9).map (fun i => (i.zero, i.size, i.bytes)) = some (some (.string ⟨#[]⟩), 1, 16) := by kernel_rfl
theorem OwT.one {w : World} {B : Nat} {v : Value} {l : Ls} (h : OwT w B tS v l) : v.oneCell' = true := by
  rcases h.2 with ⟨rfl, _⟩ | ⟨g, cap, cur, rfl, _⟩ <;> rfl
end Go.Proofs.YtahcokfoifdlmaaGreatDoor.Df
namespace Go.Proofs.YtahcokfoifdlmaaGreatDoor.Df
open Go Go.RowKit Kt Lw Li

/-- the cell of text i, here -/
theorem vs_at {w : World} {P : Nat → Prop} {A : Option Addr} {c : Nat} {l : Ls} (h : Vs w P A c (texts l)) {k : Nat} (hk : k < l.length) :
    ∃ b o, A = some ⟨b, o, none⟩ ∧ w.cell? ⟨b, o + k, none⟩ = some (.string ⟨(l.getD k []).toArray⟩) := by
  obtain ⟨b, o, rfl, hp, hc⟩ := h.2 (by rw [texts_len]; omega)
  exact ⟨b, o, rfl, hc k _ (texts_at l k hk)⟩
end Go.Proofs.YtahcokfoifdlmaaGreatDoor.Df
namespace Go.Proofs.YtahcokfoifdlmaaGreatDoor.Tr
open Go Go.RowKit Kt Lw Li Lx Df

def sumI (l : List Bs) : Nat := (l.map fun x => min x.length 1000).sum
def sumC (l : List Ch) : Nat := (l.map fun c => min c.path.length 1000 + min c.text.length 1000).sum
theorem sumI_snoc (l : List Bs) (x : Bs) : sumI (l ++ [x]) = sumI l + min x.length 1000 := by simp [sumI]
theorem sumC_snoc (l : List Ch) (c : Ch) : sumC (l ++ [c]) = sumC l + min c.path.length 1000 + min c.text.length 1000 := by simp [sumC, Nat.add_assoc]
theorem sumI_le : ∀ l : List Bs, sumI l ≤ l.length * 1000
  | [] => by simp [sumI]
  | x :: l => by
    have ih := sumI_le l
    unfold sumI at ih ⊢
    rw [List.map_cons, List.sum_cons, List.length_cons]; omega
theorem sumC_le : ∀ l : List Ch, sumC l ≤ l.length * 2000
  | [] => by simp [sumC]
  | x :: l => by
    have ih := sumC_le l
    unfold sumC at ih ⊢
    rw [List.map_cons, List.sum_cons, List.length_cons]; omega
theorem take_snocD {l : List Bs} {k : Nat} (h : k < l.length) : l.take (k + 1) = l.take k ++ [l.getD k []] := by
  rw [List.take_succ_eq_append_getElem h, List.getD_eq_getElem?_getD, List.getElem?_eq_getElem h]; rfl
theorem take_snocC {l : List Ch} {k : Nat} {c : Ch} (h : l[k]? = some c) : l.take (k + 1) = l.take k ++ [c] := by
  obtain ⟨hk, e⟩ := List.getElem?_eq_some_iff.1 h
  rw [List.take_succ_eq_append_getElem hk, e]
set_option maxRecDepth 100000 in
set_option maxHeartbeats 2000000 in
theorem pfew_any (p : Pch) (Ai Ac : Option Addr) (ci cc : Nat) (P : Nat → Prop) (w : World) (h1 : Vs w P Ai ci (texts p.ids)) (h2 : Chs w Ac cc p.chs) (ha : p.author.length ≤ 9223372036854775807) (hn : p.note.length ≤ 9223372036854775807) :
    Calls Tryz.prog 6 #[PchV p Ai Ac ci cc] w fun y w' => y = .returned (.bool (fewP p)) ∧ Below w.heap.size w w' := by
  obtain ⟨ids, a, o, chs⟩ := p
  simp only at h1 h2 ha hn
  obtain ⟨N, hN⟩ : ∃ n, n = ids.length := ⟨_, rfl⟩
  obtain ⟨M, hM⟩ : ∃ n, n = chs.length := ⟨_, rfl⟩
  obtain ⟨A0, hA0⟩ : ∃ n, n = min a.length 2000 + min o.length 2000 := ⟨_, rfl⟩
  have HF := hide (show fewP ⟨ids, a, o, chs⟩ = (decide (N ≤ 18) && decide (M ≤ 12) && decide (A0 + sumI (ids.take 20) + sumC (chs.take 20) ≤ 1500)) by
    rw [hN, hM, hA0]; rfl)
  have HI := hide (Lw.Vs.bound h1)
  have HC := hide h2
  have HN := hide hN
  have HM := hide hM
  unfold PchV
  simp only
  rw [← hN, ← hM]
  obtain ⟨ma, hma⟩ : ∃ n, n = min a.length 2000 := ⟨_, rfl⟩
  obtain ⟨mo, hmo⟩ : ∃ n, n = min o.length 2000 := ⟨_, rfl⟩
  have c1 : (if (2000 : Int) < (a.length : Int) then (2000 : Int) else (a.length : Int)) = (ma : Int) := by split <;> omega
  have c2 : (if (2000 : Int) < (o.length : Int) then (2000 : Int) else (o.length : Int)) = (mo : Int) := by split <;> omega
  have c3 : (if 2000 < a.length then (2000 : Int) else (a.length : Int)) = (ma : Int) := by split <;> omega
  have c4 : (if 2000 < o.length then (2000 : Int) else (o.length : Int)) = (mo : Int) := by split <;> omega
  have w0 : IntKind.i64.wrap ((ma : Int) + (mo : Int)) = (A0 : Int) := by rw [IntWalk.i64_in _ (by omega)]; omega
  have w9 : (ma : Int) + (mo : Int) = (A0 : Int) := by omega
  have hA : A0 ≤ 4000 := by omega
  obtain ⟨s, hs⟩ : ∃ s, s = w.heap.size := ⟨_, rfl⟩
  obtain ⟨w1, hw1⟩ : ∃ w1, w1 = w.alloc (.cells #[.slice Ai N ci, .string ⟨a.toArray⟩, .string ⟨o.toArray⟩, .slice Ac M cc] 30) := ⟨_, rfl⟩
  have r1 : Row w1 s 30 [.slice Ai N ci, .string ⟨a.toArray⟩, .string ⟨o.toArray⟩, .slice Ac M cc] := by rw [hw1, hs]; exact Row.fresh w _ _
  have b1 : Below w.heap.size w w1 := by rw [hw1]; exact (Below.refl _ w).alloc (Nat.le_refl _) _
  have k1 := r1.cell 1
  have k2 := r1.cell 2
  simp only [List.getElem?_cons_zero, List.getElem?_cons_succ] at k1 k2
  have HRw := hide (fun (wz : World) (h : Below w1.heap.size w1 wz) => show wz.cell? ⟨s, 0, none⟩ = some (.slice Ai N ci) ∧ wz.cell? ⟨s, 3, none⟩ = some (.slice Ac M cc) from ⟨(r1.below h r1.lt).cell 0, (r1.below h r1.lt).cell 3⟩)
  have B1 := hide b1
  have HW1 := hide hw1
  have HS := hide hs
  clear r1 b1 hw1 hs h1 h2 hN hM hA0 hma hmo
  go_enter Tryz.func6, Tryz.ntmps6
  go_wp2_with (first | rw [← HW1.out, ← HS.out] | fail)
  clear c1 c2 c3 c4 w0 w9 k1 k2 ha hn
  go_loopw [3, 4] (fun s i wr => ∃ k : Nat, k ≤ N ∧ k ≤ 20 ∧ i = .int .i64 k ∧ s = .int .i64 ((A0 + sumI (ids.take k) : Nat) : Int) ∧ Hid (Below w1.heap.size w1 wr)) (fun _ i _ => N - (intOf i).toNat)
  case atStart => exact ⟨0, Nat.zero_le _, by omega, rfl, rfl, hide (Below.refl _ _)⟩
  case round =>
    obtain ⟨k, hk, hk20, rfl, rfl, Hb⟩ := hrel
    obtain ⟨k0, k3⟩ := HRw.out wr Hb.out
    by_cases hlt : k < N ∧ k < 20
    · obtain ⟨hlt, hlt2⟩ := hlt
      obtain ⟨D, d, rfl, z0⟩ := vs_at HI.out (k := k) (by have := HN.out; omega)
      have hsz := sumI_snoc (ids.take k) (ids.getD k [])
      rw [← take_snocD (by have := HN.out; omega)] at hsz
      have hle := sumI_le (ids.take k)
      have hle2 := List.length_take_le k ids
      obtain ⟨x, hx⟩ : ∃ x, x = ids.getD k [] := ⟨_, rfl⟩
      rw [← hx] at z0 hsz
      obtain ⟨S, hS⟩ : ∃ S, S = A0 + sumI (ids.take k) := ⟨_, rfl⟩
      rw [← hS]
      have hS6 : S ≤ 40000 := by omega
      obtain ⟨m, hm⟩ : ∃ m, m = min x.length 1000 := ⟨_, rfl⟩
      obtain ⟨s1, hs1⟩ : ∃ s1, s1 = S + m := ⟨_, rfl⟩
      have Hsz := hide (show A0 + sumI (ids.take (k + 1)) = s1 by omega)
      have c1 : (if (1000 : Int) < (x.length : Int) then (1000 : Int) else (x.length : Int)) = (m : Int) := by split <;> omega
      have c3 : (if 1000 < x.length then (1000 : Int) else (x.length : Int)) = (m : Int) := by split <;> omega
      have w2 : IntKind.i64.wrap ((S : Int) + (m : Int)) = (s1 : Int) := by rw [IntWalk.i64_in _ (by omega)]; omega
      have w3 : (S : Int) + (m : Int) = (s1 : Int) := by omega
      have q1 : decide ((k : Int) < (N : Int)) = true := decide_eq_true (by omega)
      have q2 : decide ((k : Int) < 20) = true := decide_eq_true (by omega)
      have z1 := (World.cell?_of_block (a := ⟨D, d + k, none⟩) ((B1.out.trans (Hb.out.mono B1.out.size)).block D (by
        obtain ⟨_, _, e, hlt, _⟩ := HI.out.2 (by rw [texts_len]; have := HN.out; omega)
        injection e with e
        injection e with e
        subst e
        exact hlt))).trans z0
      have Hbn := Hb
      clear hx hS hs1 hsz hle hle2 hm z0 Hb
      go_wp2
      exact ⟨⟨k + 1, by omega, by omega, by go_num, by rw [Hsz.out], Hbn⟩, by simp [intOf]; omega⟩
    · have Hsz := hide (show sumI (ids.take k) = sumI (ids.take 20) by
        by_cases h20 : k = 20
        · rw [h20]
        · rw [List.take_of_length_le (by have := HN.out; omega), List.take_of_length_le (by have := HN.out; omega)])
      rw [Hsz.out]
      have hle := sumI_le (ids.take 20)
      have hle2 := List.length_take_le 20 ids
      obtain ⟨S0, hS0⟩ : ∃ S, S = A0 + sumI (ids.take 20) := ⟨_, rfl⟩
      rw [← hS0] at HF ⊢
      have hS9 : S0 ≤ 24000 := by omega
      clear hS0 Hsz hle hle2
      obtain ⟨w4, hw4⟩ : ∃ z, z = wr := ⟨_, rfl⟩
      subst hw4
      have HRz := hide (fun (wz : World) (h : Below w4.heap.size w4 wz) => HRw.out wz (Hb.out.trans (h.mono Hb.out.size)))
      have Bz := hide (B1.out.trans (Hb.out.mono B1.out.size))
      by_cases hkN : k < N
      · have q1 : decide ((k : Int) < (N : Int)) = true := decide_eq_true (by omega)
        have q2 : decide ((k : Int) < 20) = false := decide_eq_false (by omega)
        clear hlt
        go_wp2
        clear q1 q2 k0 k3 Hb
        go_loopw [3, 5] (fun s i wr => ∃ j : Nat, j ≤ M ∧ j ≤ 20 ∧ i = .int .i64 j ∧ s = .int .i64 ((S0 + sumC (chs.take j) : Nat) : Int) ∧ Hid (Below w4.heap.size w4 wr)) (fun _ i _ => M - (intOf i).toNat)
        case atStart => exact ⟨0, Nat.zero_le _, by omega, rfl, rfl, hide (Below.refl _ _)⟩
        case round =>
          obtain ⟨j, hj, hj20, rfl, rfl, Hb2⟩ := hrel
          obtain ⟨k0, k3⟩ := HRz.out wr Hb2.out
          by_cases hlt : j < M ∧ j < 20
          · obtain ⟨hlt, hlt2⟩ := hlt
            obtain ⟨b, oo, f, rfl, hbl, hf, hd, d0, _, d1⟩ := HC.out.at (w' := wr) (Bz.out.trans (Hb2.out.mono Bz.out.size)) (k := j) (by have := HM.out; omega)
            have hsz := sumC_snoc (chs.take j) f
            rw [← take_snocC hf] at hsz
            have hle := sumC_le (chs.take j)
            have hle2 := List.length_take_le j chs
            obtain ⟨x, hx⟩ : ∃ x, x = f.text := ⟨_, rfl⟩
            obtain ⟨q, hq⟩ : ∃ q, q = f.path := ⟨_, rfl⟩
            rw [← hx] at d1 hsz
            rw [← hq] at d0 hsz
            obtain ⟨S, hS⟩ : ∃ S, S = S0 + sumC (chs.take j) := ⟨_, rfl⟩
            rw [← hS]
            have hS6 : S ≤ 70000 := by omega
            obtain ⟨m, hm⟩ : ∃ m, m = min q.length 1000 := ⟨_, rfl⟩
            obtain ⟨n, hn⟩ : ∃ n, n = min x.length 1000 := ⟨_, rfl⟩
            obtain ⟨s1, hs1⟩ : ∃ s1, s1 = S + m := ⟨_, rfl⟩
            obtain ⟨s2, hs2⟩ : ∃ s2, s2 = s1 + n := ⟨_, rfl⟩
            have Hsz := hide (show S0 + sumC (chs.take (j + 1)) = s2 by omega)
            have c1 : (if (1000 : Int) < (q.length : Int) then (1000 : Int) else (q.length : Int)) = (m : Int) := by split <;> omega
            have c2 : (if (1000 : Int) < (x.length : Int) then (1000 : Int) else (x.length : Int)) = (n : Int) := by split <;> omega
            have c3 : (if 1000 < q.length then (1000 : Int) else (q.length : Int)) = (m : Int) := by split <;> omega
            have c4 : (if 1000 < x.length then (1000 : Int) else (x.length : Int)) = (n : Int) := by split <;> omega
            have w2 : IntKind.i64.wrap ((S : Int) + (m : Int)) = (s1 : Int) := by rw [IntWalk.i64_in _ (by omega)]; omega
            have w3 : IntKind.i64.wrap ((s1 : Int) + (n : Int)) = (s2 : Int) := by rw [IntWalk.i64_in _ (by omega)]; omega
            have q1 : decide ((j : Int) < (M : Int)) = true := decide_eq_true (by omega)
            have q2 : decide ((j : Int) < 20) = true := decide_eq_true (by omega)
            clear hx hq hm hn hs1 hs2 hS hf hd hbl hle hle2 hsz
            go_wp2
            have s0 : wr.drew.cell? ⟨b, oo + j * 3, none⟩ = some (.string ⟨q.toArray⟩) := d0
            have s1' : wr.drew.cell? ⟨b, oo + j * 3 + 2, none⟩ = some (.string ⟨x.toArray⟩) := d1
            have s2' : wr.drew.cell? ⟨s, 3, none⟩ = some (.slice (some ⟨b, oo, none⟩) M cc) := k3
            refine Rg.wp_region_ord (fun w' => w'.cell? ⟨b, oo + j * 3, none⟩ = some (.string ⟨q.toArray⟩) ∧ w'.cell? ⟨b, oo + j * 3 + 2, none⟩ = some (.string ⟨x.toArray⟩) ∧ w'.cell? ⟨s, 3, none⟩ = some (.slice (some ⟨b, oo, none⟩) M cc)) [(0, true), (1, true), (2, true), (3, true), (4, true), (5, true), (6, true), (7, true), (8, true), (9, true), (10, true), (11, true), (12, true), (13, true), (14, true), (15, true), (16, true), (17, true), (18, true), (19, true)] (by kernel_rfl) (by kernel_rfl) ?_
            simp only [Rg.pick, List.map_cons, List.map_nil, List.getD_cons_zero, List.getD_cons_succ]
            iterate 20 (refine Rg.ord_quiet (v := ?_) rfl (fun w' hS => ?_) ⟨s0, s1', s2'⟩ ?_; rotate_left; (obtain ⟨q0, q1, q2⟩ := hS; go_simp; with_reducible rfl); simp only [Act.put, List.setIfInBounds_toArray, List.set_cons_succ, List.set_cons_zero])
            refine Rg.ord_nil ?_
            have Hbd := hide Hb2.out.drew
            clear s0 s1' s2' d0 d1 c1 c2 c3 c4 w2 w3 k0 k3
            go_wp2
            exact ⟨⟨j + 1, by omega, by omega, by go_num, by rw [Hsz.out], Hbd⟩, by simp [intOf]; omega⟩
          · have Hsz := hide (show sumC (chs.take j) = sumC (chs.take 20) by
              by_cases h20 : j = 20
              · rw [h20]
              · rw [List.take_of_length_le (by have := HM.out; omega), List.take_of_length_le (by have := HM.out; omega)])
            rw [Hsz.out]
            obtain ⟨S, hS⟩ : ∃ S, S = S0 + sumC (chs.take 20) := ⟨_, rfl⟩
            rw [← hS] at HF ⊢
            clear hS Hsz
            have Bf := hide (Bz.out.trans (Hb2.out.mono Bz.out.size))
            have HF2 := hide (show fewP ⟨ids, a, o, chs⟩ = (decide ((N : Int) ≤ 18) && decide ((M : Int) ≤ 12) && decide ((S : Int) ≤ 1500)) by
              rw [HF.out, decide_eq_decide.2 (show N ≤ 18 ↔ (N : Int) ≤ 18 by omega), decide_eq_decide.2 (show M ≤ 12 ↔ (M : Int) ≤ 12 by omega), decide_eq_decide.2 (show S ≤ 1500 ↔ (S : Int) ≤ 1500 by omega)])
            have q5 : decide ((j : Int) < (M : Int)) = decide (j < M) := by rw [decide_eq_decide]; omega
            have q6 : decide ((j : Int) < 20) = decide (j < 20) := by rw [decide_eq_decide]; omega
            by_cases hjM : j < M
            · rw [decide_eq_true hjM] at q5
              rw [decide_eq_false (show ¬ j < 20 by omega)] at q6
              clear hlt HF
              cases h1 : decide ((N : Int) ≤ 18) with
              | false =>
                rw [h1, Bool.false_and, Bool.false_and] at HF2
                go_wp2
                go_ret
                exact ⟨by rw [HF2.out]; rfl, Bf.out⟩
              | true =>
                cases h2 : decide ((M : Int) ≤ 12) with
                | false =>
                  rw [h1, h2, Bool.true_and, Bool.false_and] at HF2
                  go_wp2
                  go_ret
                  exact ⟨by rw [HF2.out]; rfl, Bf.out⟩
                | true =>
                  cases h3 : decide ((S : Int) ≤ 1500) with
                  | false =>
                    rw [h1, h2, h3] at HF2
                    go_wp2
                    go_ret
                    exact ⟨by rw [HF2.out]; rfl, Bf.out⟩
                  | true =>
                    rw [h1, h2, h3] at HF2
                    go_wp2
                    go_ret
                    exact ⟨by rw [HF2.out]; rfl, Bf.out⟩
            · rw [decide_eq_false hjM] at q5
              clear hlt HF q6
              cases h1 : decide ((N : Int) ≤ 18) with
              | false =>
                rw [h1, Bool.false_and, Bool.false_and] at HF2
                go_wp2
                go_ret
                exact ⟨by rw [HF2.out]; rfl, Bf.out⟩
              | true =>
                cases h2 : decide ((M : Int) ≤ 12) with
                | false =>
                  rw [h1, h2, Bool.true_and, Bool.false_and] at HF2
                  go_wp2
                  go_ret
                  exact ⟨by rw [HF2.out]; rfl, Bf.out⟩
                | true =>
                  cases h3 : decide ((S : Int) ≤ 1500) with
                  | false =>
                    rw [h1, h2, h3] at HF2
                    go_wp2
                    go_ret
                    exact ⟨by rw [HF2.out]; rfl, Bf.out⟩
                  | true =>
                    rw [h1, h2, h3] at HF2
                    go_wp2
                    go_ret
                    exact ⟨by rw [HF2.out]; rfl, Bf.out⟩
      · have q1 : decide ((k : Int) < (N : Int)) = false := decide_eq_false (by omega)
        clear hlt
        go_wp2
        clear q1 k0 k3 Hb
        go_loopw [3, 5] (fun s i wr => ∃ j : Nat, j ≤ M ∧ j ≤ 20 ∧ i = .int .i64 j ∧ s = .int .i64 ((S0 + sumC (chs.take j) : Nat) : Int) ∧ Hid (Below w4.heap.size w4 wr)) (fun _ i _ => M - (intOf i).toNat)
        case atStart => exact ⟨0, Nat.zero_le _, by omega, rfl, rfl, hide (Below.refl _ _)⟩
        case round =>
          obtain ⟨j, hj, hj20, rfl, rfl, Hb2⟩ := hrel
          obtain ⟨k0, k3⟩ := HRz.out wr Hb2.out
          by_cases hlt : j < M ∧ j < 20
          · obtain ⟨hlt, hlt2⟩ := hlt
            obtain ⟨b, oo, f, rfl, hbl, hf, hd, d0, _, d1⟩ := HC.out.at (w' := wr) (Bz.out.trans (Hb2.out.mono Bz.out.size)) (k := j) (by have := HM.out; omega)
            have hsz := sumC_snoc (chs.take j) f
            rw [← take_snocC hf] at hsz
            have hle := sumC_le (chs.take j)
            have hle2 := List.length_take_le j chs
            obtain ⟨x, hx⟩ : ∃ x, x = f.text := ⟨_, rfl⟩
            obtain ⟨q, hq⟩ : ∃ q, q = f.path := ⟨_, rfl⟩
            rw [← hx] at d1 hsz
            rw [← hq] at d0 hsz
            obtain ⟨S, hS⟩ : ∃ S, S = S0 + sumC (chs.take j) := ⟨_, rfl⟩
            rw [← hS]
            have hS6 : S ≤ 70000 := by omega
            obtain ⟨m, hm⟩ : ∃ m, m = min q.length 1000 := ⟨_, rfl⟩
            obtain ⟨n, hn⟩ : ∃ n, n = min x.length 1000 := ⟨_, rfl⟩
            obtain ⟨s1, hs1⟩ : ∃ s1, s1 = S + m := ⟨_, rfl⟩
            obtain ⟨s2, hs2⟩ : ∃ s2, s2 = s1 + n := ⟨_, rfl⟩
            have Hsz := hide (show S0 + sumC (chs.take (j + 1)) = s2 by omega)
            have c1 : (if (1000 : Int) < (q.length : Int) then (1000 : Int) else (q.length : Int)) = (m : Int) := by split <;> omega
            have c2 : (if (1000 : Int) < (x.length : Int) then (1000 : Int) else (x.length : Int)) = (n : Int) := by split <;> omega
            have c3 : (if 1000 < q.length then (1000 : Int) else (q.length : Int)) = (m : Int) := by split <;> omega
            have c4 : (if 1000 < x.length then (1000 : Int) else (x.length : Int)) = (n : Int) := by split <;> omega
            have w2 : IntKind.i64.wrap ((S : Int) + (m : Int)) = (s1 : Int) := by rw [IntWalk.i64_in _ (by omega)]; omega
            have w3 : IntKind.i64.wrap ((s1 : Int) + (n : Int)) = (s2 : Int) := by rw [IntWalk.i64_in _ (by omega)]; omega
            have q1 : decide ((j : Int) < (M : Int)) = true := decide_eq_true (by omega)
            have q2 : decide ((j : Int) < 20) = true := decide_eq_true (by omega)
            clear hx hq hm hn hs1 hs2 hS hf hd hbl hle hle2 hsz
            go_wp2
            have s0 : wr.drew.cell? ⟨b, oo + j * 3, none⟩ = some (.string ⟨q.toArray⟩) := d0
            have s1' : wr.drew.cell? ⟨b, oo + j * 3 + 2, none⟩ = some (.string ⟨x.toArray⟩) := d1
            have s2' : wr.drew.cell? ⟨s, 3, none⟩ = some (.slice (some ⟨b, oo, none⟩) M cc) := k3
            refine Rg.wp_region_ord (fun w' => w'.cell? ⟨b, oo + j * 3, none⟩ = some (.string ⟨q.toArray⟩) ∧ w'.cell? ⟨b, oo + j * 3 + 2, none⟩ = some (.string ⟨x.toArray⟩) ∧ w'.cell? ⟨s, 3, none⟩ = some (.slice (some ⟨b, oo, none⟩) M cc)) [(0, true), (1, true), (2, true), (3, true), (4, true), (5, true), (6, true), (7, true), (8, true), (9, true), (10, true), (11, true), (12, true), (13, true), (14, true), (15, true), (16, true), (17, true), (18, true), (19, true)] (by kernel_rfl) (by kernel_rfl) ?_
            simp only [Rg.pick, List.map_cons, List.map_nil, List.getD_cons_zero, List.getD_cons_succ]
            iterate 20 (refine Rg.ord_quiet (v := ?_) rfl (fun w' hS => ?_) ⟨s0, s1', s2'⟩ ?_; rotate_left; (obtain ⟨q0, q1, q2⟩ := hS; go_simp; with_reducible rfl); simp only [Act.put, List.setIfInBounds_toArray, List.set_cons_succ, List.set_cons_zero])
            refine Rg.ord_nil ?_
            have Hbd := hide Hb2.out.drew
            clear s0 s1' s2' d0 d1 c1 c2 c3 c4 w2 w3 k0 k3
            go_wp2
            exact ⟨⟨j + 1, by omega, by omega, by go_num, by rw [Hsz.out], Hbd⟩, by simp [intOf]; omega⟩
          · have Hsz := hide (show sumC (chs.take j) = sumC (chs.take 20) by
              by_cases h20 : j = 20
              · rw [h20]
              · rw [List.take_of_length_le (by have := HM.out; omega), List.take_of_length_le (by have := HM.out; omega)])
            rw [Hsz.out]
            obtain ⟨S, hS⟩ : ∃ S, S = S0 + sumC (chs.take 20) := ⟨_, rfl⟩
            rw [← hS] at HF ⊢
            clear hS Hsz
            have Bf := hide (Bz.out.trans (Hb2.out.mono Bz.out.size))
            have HF2 := hide (show fewP ⟨ids, a, o, chs⟩ = (decide ((N : Int) ≤ 18) && decide ((M : Int) ≤ 12) && decide ((S : Int) ≤ 1500)) by
              rw [HF.out, decide_eq_decide.2 (show N ≤ 18 ↔ (N : Int) ≤ 18 by omega), decide_eq_decide.2 (show M ≤ 12 ↔ (M : Int) ≤ 12 by omega), decide_eq_decide.2 (show S ≤ 1500 ↔ (S : Int) ≤ 1500 by omega)])
            have q5 : decide ((j : Int) < (M : Int)) = decide (j < M) := by rw [decide_eq_decide]; omega
            have q6 : decide ((j : Int) < 20) = decide (j < 20) := by rw [decide_eq_decide]; omega
            by_cases hjM : j < M
            · rw [decide_eq_true hjM] at q5
              rw [decide_eq_false (show ¬ j < 20 by omega)] at q6
              clear hlt HF
              cases h1 : decide ((N : Int) ≤ 18) with
              | false =>
                rw [h1, Bool.false_and, Bool.false_and] at HF2
                go_wp2
                go_ret
                exact ⟨by rw [HF2.out]; rfl, Bf.out⟩
              | true =>
                cases h2 : decide ((M : Int) ≤ 12) with
                | false =>
                  rw [h1, h2, Bool.true_and, Bool.false_and] at HF2
                  go_wp2
                  go_ret
                  exact ⟨by rw [HF2.out]; rfl, Bf.out⟩
                | true =>
                  cases h3 : decide ((S : Int) ≤ 1500) with
                  | false =>
                    rw [h1, h2, h3] at HF2
                    go_wp2
                    go_ret
                    exact ⟨by rw [HF2.out]; rfl, Bf.out⟩
                  | true =>
                    rw [h1, h2, h3] at HF2
                    go_wp2
                    go_ret
                    exact ⟨by rw [HF2.out]; rfl, Bf.out⟩
            · rw [decide_eq_false hjM] at q5
              clear hlt HF q6
              cases h1 : decide ((N : Int) ≤ 18) with
              | false =>
                rw [h1, Bool.false_and, Bool.false_and] at HF2
                go_wp2
                go_ret
                exact ⟨by rw [HF2.out]; rfl, Bf.out⟩
              | true =>
                cases h2 : decide ((M : Int) ≤ 12) with
                | false =>
                  rw [h1, h2, Bool.true_and, Bool.false_and] at HF2
                  go_wp2
                  go_ret
                  exact ⟨by rw [HF2.out]; rfl, Bf.out⟩
                | true =>
                  cases h3 : decide ((S : Int) ≤ 1500) with
                  | false =>
                    rw [h1, h2, h3] at HF2
                    go_wp2
                    go_ret
                    exact ⟨by rw [HF2.out]; rfl, Bf.out⟩
                  | true =>
                    rw [h1, h2, h3] at HF2
                    go_wp2
                    go_ret
                    exact ⟨by rw [HF2.out]; rfl, Bf.out⟩
end Go.Proofs.YtahcokfoifdlmaaGreatDoor.Tr
