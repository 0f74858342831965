/-
  The program's graph as the laws ask for it.
-/
import Derived.Test.YtplmcpdlommmaaaQXP
import Derived.Test.YtplmcpdlommmaaaQDF
import Derived.Test.YtplmcpdlommmaaaQDC
namespace Go.Proofs.Ytplmcpdlommmaaa.Dq
open Go Go.RowKit Kt Kg Lw Tr

/-- the program's graph in memory, in these blocks -/
def PIn (w : World) (S : Nat → Prop) (g : Nat) (D : List Nd) : Prop :=
  ∃ (p : Pc) (sl : Bs → Option Addr × Nat) (su lev : Bs → Nat) (bh : Bs → List Bs) (bv : Bs → Option Value), p.g = g ∧ S = p.S ∧ Gm w p D sl su lev bh bv ∧ Kp D su bh [] [] ∧ Lv D lev
/-- the blocks of a new one -/
def Pc.at (n : Nat) : Pc := ⟨n + 4, n, n + 1, n + 2, n + 3, fun _ => False, fun _ _ => False⟩
theorem Pc.at_S {n k : Nat} (h : (Pc.at n).S k) : n ≤ k ∧ k < n + 5 := by
  rcases h with h | h | ⟨y, h⟩
  · unfold Pc.at Pc.five at h
    simp only at h
    omega
  · exact h.elim
  · exact h.elim
theorem gm_new {w : World} {n : Nat} (hrow : w.heap[n + 4]? = some (.cells #[.map (some n), .map (some (n + 1)), .map (some (n + 2)), .map (some (n + 3))] tDag (0, 0))) (h0 : Mp w n fun _ => none) (h1 : Mp w (n + 1) fun _ => none) (h2 : Mp w (n + 2) fun _ => none) (h3 : Mp w (n + 3) fun _ => none) :
    Gm w (Pc.at n) [] (fun _ => (none, 0)) (fun _ => 0) (fun _ => 0) (fun _ => []) fun _ => none := by
  have hlt : n + 4 < w.heap.size := (Array.getElem?_eq_some_iff.1 hrow).1
  refine ⟨⟨?_, ?_, ?_, ?_, ?_, ?_, ?_, ?_, ?_, ?_, fun k h => h.elim, fun x k h => h.elim, fun x y k h => h.elim⟩, hrow, h0.congr fun k => by simp [has, get], h1.congr fun k => by simp [heads], h2.congr fun k => by simp [waits, get], h3, fun k hk => by simp [get] at hk, fun k => .inl ⟨rfl, rfl⟩, fun k hk => by have := (Pc.at_S hk).2; omega⟩
  all_goals (unfold Pc.at; simp only; omega)
set_option maxRecDepth 100000 in
set_option maxHeartbeats 1000000 in
theorem pnew_any (w : World) : Calls Try.prog 11 #[] w fun y w' => ∃ g S, y = .returned (pt g) ∧ PIn w' S g [] ∧ (∀ k, S k → w.heap.size ≤ k) ∧ Below w.heap.size w w' := by
  obtain ⟨n, hn⟩ : ∃ n, n = w.heap.size := ⟨_, rfl⟩
  obtain ⟨w1, hw1⟩ : ∃ z, z = w.alloc (.map #[] 0) := ⟨_, rfl⟩
  obtain ⟨w2, hw2⟩ : ∃ z, z = w1.alloc (.map #[] 0) := ⟨_, rfl⟩
  obtain ⟨w3, hw3⟩ : ∃ z, z = w2.alloc (.map #[] 0) := ⟨_, rfl⟩
  obtain ⟨w4, hw4⟩ : ∃ z, z = w3.alloc (.map #[] 0) := ⟨_, rfl⟩
  have s1 : w1.heap.size = n + 1 := by rw [hw1, hn]; simp
  have s2 : w2.heap.size = n + 2 := by rw [hw2, World.size_alloc, s1]
  have s3 : w3.heap.size = n + 3 := by rw [hw3, World.size_alloc, s2]
  have s4 : w4.heap.size = n + 4 := by rw [hw4, World.size_alloc, s3]
  have m1 : (Instr.makeMap tMN none).run Try.prog w = .ok (.map (some n)) w1 := by rw [run_makeMap, hn, hw1]
  have m2 : (Instr.makeMap tMH none).run Try.prog w1 = .ok (.map (some (n + 1))) w2 := by rw [run_makeMap, s1, hw2]
  have m3 : (Instr.makeMap tMW none).run Try.prog w2 = .ok (.map (some (n + 2))) w3 := by rw [run_makeMap, s2, hw3]
  have m4 : (Instr.makeMap tMB none).run Try.prog w3 = .ok (.map (some (n + 3))) w4 := by rw [run_makeMap, s3, hw4]
  have HF := hide (show ∃ g S, Ending.returned (pt (n + 4)) = .returned (pt g) ∧ PIn (w4.alloc (.cells #[.map (some n), .map (some (n + 1)), .map (some (n + 2)), .map (some (n + 3))] tDag)) S g [] ∧ (∀ k, S k → n ≤ k) ∧ Below w.heap.size w (w4.alloc (.cells #[.map (some n), .map (some (n + 1)), .map (some (n + 2)), .map (some (n + 3))] tDag)) from by
    have b1 : Below (n + 1) w1 w2 := by rw [hw2, ← s1]; exact (Below.refl _ w1).alloc (Nat.le_refl _) _
    have b2 : Below (n + 2) w2 w3 := by rw [hw3, ← s2]; exact (Below.refl _ w2).alloc (Nat.le_refl _) _
    have b3 : Below (n + 3) w3 w4 := by rw [hw4, ← s3]; exact (Below.refl _ w3).alloc (Nat.le_refl _) _
    have b4 := (Below.refl (n + 4) w4).alloc (by omega) (.cells #[.map (some n), .map (some (n + 1)), .map (some (n + 2)), .map (some (n + 3))] tDag)
    have k1 : Mp w1 n fun _ => none := by rw [hw1, hn]; exact Mp.made w
    have k2 : Mp w2 (n + 1) fun _ => none := by rw [hw2, ← s1]; exact Mp.made w1
    have k3 : Mp w3 (n + 2) fun _ => none := by rw [hw3, ← s2]; exact Mp.made w2
    have k4 : Mp w4 (n + 3) fun _ => none := by rw [hw4, ← s3]; exact Mp.made w3
    have c1 := b1.trans (b2.mono (by omega))
    have c1 := c1.trans (b3.mono (by omega))
    have c2 := b2.trans (b3.mono (by omega))
    refine ⟨n + 4, (Pc.at n).S, rfl, ⟨Pc.at n, _, _, _, _, _, rfl, rfl, gm_new ?_ (k1.move ((b4.block n (by omega)).trans (c1.block n (by omega)))) (k2.move ((b4.block _ (by omega)).trans (c2.block _ (by omega)))) (k3.move ((b4.block _ (by omega)).trans (b3.block _ (by omega)))) (k4.move (b4.block _ (by omega))), Kp.nil _, Lv.nil _⟩, fun k hk => (Pc.at_S hk).1, ?_⟩
    · rw [← s4]; exact World.alloc_heap_new w4 _
    · have d0 : Below n w w1 := by rw [hw1, hn]; exact (Below.refl _ w).alloc (Nat.le_refl _) _
      rw [← hn]
      exact (d0.trans (c1.mono (by omega))).trans (b4.mono (by omega)))
  rw [← s4] at HF
  have HN := hide hn
  clear hw1 hw2 hw3 hw4 s1 s2 s3 s4
  rw [← hn]
  rw [← hn] at HF
  clear hn
  go_enter Try.func11, Try.ntmps11
  go_wp2
  go_ret
  exact HF.out
theorem pcd (w0 : World) : Cd w0 PIn where
  lt := by
    rintro w S g D ⟨p, sl, su, lev, bh, bv, rfl, rfl, h, _⟩ k hk
    exact h.lt k hk
  move := by
    rintro w w' S g D ⟨p, sl, su, lev, bh, bv, rfl, rfl, h, hK, hL⟩ hb hs
    exact ⟨p, sl, su, lev, bh, bv, rfl, rfl, h.move hb hs, hK, hL⟩
  new := fun _ => pnew_any _
  add := by
    rintro w S g D id ps A c Pb hlow ⟨p, sl, su, lev, bh, bv, rfl, rfl, h, hK, hL⟩ hOk hl hS hv hd hi hp hq
    refine (padd_any h hK hL hOk hl id ps A c Pb hv hp).mono ?_
    rintro y w' ⟨v, rfl, p', sl', su', lev', bh', bv', h1, h2, h3, h4, h5, h6, h7, h8⟩
    exact ⟨v, p'.S, rfl, h4, ⟨p', sl', su', lev', bh', bv', h5, rfl, h1, h2, h3⟩, h8, h6, h7⟩
  has := by
    rintro w S g D id hlow ⟨p, sl, su, lev, bh, bv, rfl, rfl, h, hK, hL⟩ hOk hi
    exact phas_any h id
  ids := by
    rintro w S g D hlow ⟨p, sl, su, lev, bh, bv, rfl, rfl, h, hK, hL⟩ hOk
    exact pidsD_any h hOk
  many := by
    rintro w S g D hlow ⟨p, sl, su, lev, bh, bv, rfl, rfl, h, hK, hL⟩ hOk
    exact pmanyD_any h hOk.inv
  waiting := by
    rintro w S g D hlow ⟨p, sl, su, lev, bh, bv, rfl, rfl, h, hK, hL⟩ hOk
    exact pwaiting_any h hOk
  lacks := by
    rintro w S g D hlow ⟨p, sl, su, lev, bh, bv, rfl, rfl, h, hK, hL⟩ hOk
    exact placks_any h hOk
  parents := by
    rintro w S g D id hlow ⟨p, sl, su, lev, bh, bv, rfl, rfl, h, hK, hL⟩ hOk hi
    exact pparents_any h hOk id
  level := by
    rintro w S g D id hlow ⟨p, sl, su, lev, bh, bv, rfl, rfl, h, hK, hL⟩ hOk hi
    exact plevel_any h hOk hL id
  heads := by
    rintro w S g D hlow ⟨p, sl, su, lev, bh, bv, rfl, rfl, h, hK, hL⟩ hOk
    exact pheads_any h hOk
  above := by
    rintro w S g D a b hlow ⟨p, sl, su, lev, bh, bv, rfl, rfl, h, hK, hL⟩ hOk ha hb
    exact pabove_any h hOk hL a b
end Go.Proofs.Ytplmcpdlommmaaa.Dq
namespace Go.Proofs.Ytplmcpdlommmaaa.Dq
open Go Go.RowKit Kt Kg Lw

theorem size_of (l : List UInt8) : (ByteArray.mk l.toArray).size = l.length := rfl
theorem get_at (l : List UInt8) (k : Nat) (h : k < (ByteArray.mk l.toArray).size) : (ByteArray.mk l.toArray)[k] = l.getD k 0 := by
  have h' : k < l.length := h
  have : (ByteArray.mk l.toArray)[k] = l[k]'h' := rfl
  rw [this]
  simp [List.getElem?_eq_getElem h']
theorem less_cons (x y : UInt8) (p q : List UInt8) : Op.bytesLess (x :: p) (y :: q) = (decide (x < y) || (x == y && Op.bytesLess p q)) := rfl
theorem less_end {p q : List UInt8} (h : p = [] ∨ q = []) : Op.bytesLess p q = decide (p.length < q.length) := by
  cases p with
  | nil => cases q <;> simp [Op.bytesLess]
  | cons x p =>
    have hq : q = [] := by simpa using h
    subst hq
    simp [Op.bytesLess]
theorem drop_getD (a : List UInt8) (k : Nat) (h : k < a.length) : a.drop k = a.getD k 0 :: a.drop (k + 1) := by
  rw [List.drop_eq_getElem_cons h]; simp [List.getElem?_eq_getElem h]
set_option maxRecDepth 100000 in
set_option maxHeartbeats 2000000 in
theorem less_any (a b : List UInt8) (w : World) (ha : a.length ≤ 100000) (_hb : b.length ≤ 100000) :
    Calls Try.prog 70 #[.string ⟨a.toArray⟩, .string ⟨b.toArray⟩] w fun e w' => e = .returned (.bool (Op.bytesLess a b)) ∧ Below w.heap.size w w' := by
  go_enter Try.func70, Try.ntmps70
  go_wp2
  go_loopw [5] (fun i wr => ∃ k : Nat, k ≤ a.length ∧ k ≤ b.length ∧ i = .int .i64 k ∧ Hid (Op.bytesLess a b = Op.bytesLess (a.drop k) (b.drop k)) ∧ Below w.heap.size w wr) (fun i _ => a.length - (intOf i).toNat)
  case atStart => exact ⟨0, Nat.zero_le _, Nat.zero_le _, rfl, by show Hid _; exact hide rfl, Below.refl _ _⟩
  case round =>
    obtain ⟨k, hka, hkb, rfl, HL, hbw⟩ := hrel
    have Hb := hide hbw
    clear hbw
    by_cases hlt : k < a.length ∧ k < b.length
    · obtain ⟨h1, h2⟩ := hlt
      have e1 := get_at a k (by rw [size_of]; exact h1)
      have e2 := get_at b k (by rw [size_of]; exact h2)
      have hL := HL.out
      rw [drop_getD a k h1, drop_getD b k h2, less_cons] at hL
      generalize a.getD k 0 = x at *
      generalize b.getD k 0 = y at *
      clear HL
      by_cases hxy : x = y
      · subst hxy
        have HL2 := hide (show Op.bytesLess a b = Op.bytesLess (a.drop (k + 1)) (b.drop (k + 1)) by rw [hL]; simp)
        clear hL
        go_wp2
        go_quiet (fail)
        go_wp2
        exact ⟨⟨k + 1, by omega, by omega, by go_num, HL2, below_drewN Hb.out _⟩, by simp [intOf]; omega⟩
      · have hne : ((x.toNat : Int) != (y.toNat : Int)) = true := by
          rw [bne_iff_ne]
          intro h
          exact hxy (UInt8.toNat_inj.1 (by omega))
        have HL2 := hide (show Op.bytesLess a b = decide (x.toNat < y.toNat) by
          rw [hL, show (x == y) = false by simpa using hxy]
          simp only [Bool.false_and, Bool.or_false]
          rw [decide_eq_decide, UInt8.lt_iff_toNat_lt])
        clear hL hxy
        go_wp2
        go_quiet (fail)
        go_wp2
        go_quiet (fail)
        go_wp2
        go_ret
        exact ⟨by rw [HL2.out]; rfl, below_drewN (below_drewN Hb.out _) _⟩
    · have hor : a.drop k = [] ∨ b.drop k = [] := by
        rw [List.drop_eq_nil_iff, List.drop_eq_nil_iff]; omega
      have HL2 := hide (show Op.bytesLess a b = decide (a.length < b.length) by
        rw [HL.out, less_end hor, decide_eq_decide, List.length_drop, List.length_drop]
        omega)
      clear HL hor
      by_cases h1 : k < a.length
      · have h2 : ¬ k < b.length := fun h => hlt ⟨h1, h⟩
        have d1 : decide ((k : Int) < (a.length : Int)) = true := decide_eq_true (by omega)
        have d2 : decide ((k : Int) < (b.length : Int)) = false := decide_eq_false (by omega)
        clear hlt
        go_wp2
        go_ret
        exact ⟨by rw [HL2.out]; rfl, Hb.out⟩
      · have d1 : decide ((k : Int) < (a.length : Int)) = false := decide_eq_false (by omega)
        clear hlt
        go_wp2
        go_ret
        exact ⟨by rw [HL2.out]; rfl, Hb.out⟩
set_option maxRecDepth 100000 in
theorem rless_any (a b : List UInt8) (w : World) (ha : a.length ≤ 100000) (hb : b.length ≤ 100000) :
    Calls Try.prog 47 #[.string ⟨a.toArray⟩, .string ⟨b.toArray⟩] w fun e w' => e = .returned (.bool (Tr.lt a b)) ∧ Below w.heap.size w w' := by
  have HL := hide (less_any a b w ha hb)
  go_enter Try.func47, Try.ntmps47
  go_wp2_with fail
  refine HL.out.mono ?_
  rintro y w1 ⟨rfl, hb1⟩
  go_wp2
  go_ret
  exact ⟨rfl, hb1⟩
end Go.Proofs.Ytplmcpdlommmaaa.Dq
