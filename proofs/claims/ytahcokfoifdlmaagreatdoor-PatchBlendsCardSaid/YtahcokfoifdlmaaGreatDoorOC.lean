/-
  Two trees' paths: the iterator's contract.
-/
import Derived.Test.YtahcokfoifdlmaaGreatDoorOB
import Derived.Sort.QuietIn
namespace Go.Proofs.YtahcokfoifdlmaaGreatDoor.Tr
open Go Go.RowKit Go.Shelf Kt Lw Li Lx Df
attribute [local go_sem] Oper.semAt_some

theorem go_cut : ∀ {q : Option Bs} {t : List Fl} (k : Nat), go q t = true → ∃ r, go r (t.drop k) = true
  | q, t, 0, h => ⟨q, h⟩
  | _, [], _ + 1, _ => ⟨none, rfl⟩
  | _, f :: t, k + 1, h => by
    simp only [go, Bool.and_eq_true] at h
    exact go_cut (t := t) k h.2
theorem Fls.thr {n0 n1 p q : Nat} {w0 A B : World} {a : Option Addr} {c : Nat} {L : List Fl} (h : Fls w0 a c L) (hn : n0 = w0.heap.size) (h1 : Below n0 w0 A) (h2 : Thr n0 n1 p q A B) : Fls B a c L := by
  subst hn
  exact h.keep (h1.trans h2.1)
/-- the two indices of the iterator's loop, and the paths that are left -/
def restOf (a b : List Fl) (v u : Value) : Nat := (both (a.drop (intOf v).toNat) (b.drop (intOf u).toNat)).length
set_option maxRecDepth 100000 in
set_option maxHeartbeats 1000000 in
theorem paths_stops (n : Nat) (hn : 1 ≤ n) (a b : List Fl) (Aa Ab : Option Addr) (ca cb : Nat) (n1 p q g1 g2 : Nat) (w0 w : World) (ha : Fls w0 Aa ca a) (hb : Fls w0 Ab cb b) (hga : go none a = true) (hgb : go none b = true)
    (na : a.length ≤ 1000000) (nb : b.length ≤ 1000000)
    (hw : Below w0.heap.size w0 w) (h01 : w0.heap.size ≤ n1) (hn1 : n1 ≤ w.heap.size) (hg1 : g1 < n1) (hg2 : g2 < n1) (e1 : g1 ≠ p) (e2 : g1 ≠ q) (e3 : g2 ≠ p) (e4 : g2 ≠ q)
    (hc1 : w.cell? ⟨g1, 0, none⟩ = some (.slice Aa a.length ca)) (hc2 : w.cell? ⟨g2, 0, none⟩ = some (.slice Ab b.length cb)) :
    SeqStopsK Fence.wide n Tryz.prog 40 #[.pointer (some ⟨g1, 0, none⟩), .pointer (some ⟨g2, 0, none⟩)] (fun x : Bs => #[Value.string ⟨x.toArray⟩]) (Thr w0.heap.size n1 p q) (fun ys => ys = both a b) (fun pre => pre <+: both a b) (both a b).length w := by
  intro l J Jx W hW hJ hJx hY h0
  have hT0 : Thr w0.heap.size n1 p q w W := Thr.of hW hw.size hn1
  have HC1 := hide (fun (wz : World) (h : Thr w0.heap.size n1 p q w wz) => (World.cell?_of_block (a := ⟨g1, 0, none⟩) (h.2 g1 hg1 e1 e2)).trans hc1)
  have HC2 := hide (fun (wz : World) (h : Thr w0.heap.size n1 p q w wz) => (World.cell?_of_block (a := ⟨g2, 0, none⟩) (h.2 g2 hg2 e3 e4)).trans hc2)
  have HA := hide (fun (wz : World) (h : Thr w0.heap.size n1 p q w wz) => ha.thr rfl hw h)
  have HB := hide (fun (wz : World) (h : Thr w0.heap.size n1 p q w wz) => hb.thr rfl hw h)
  have HGa := hide (fun k => go_cut k hga)
  have HGb := hide (fun k => go_cut k hgb)
  have HJ := hide hJ
  have HT0 := hide hT0
  have hca := ha.1
  have hcb := hb.1
  have Hsz := hide (show ∀ wz, Thr w0.heap.size n1 p q w wz → n1 ≤ wz.heap.size ∧ w0.heap.size ≤ n1 from fun wz h => ⟨by have := h.1.size; omega, h01⟩)
  obtain ⟨Na, hNa⟩ : ∃ N, N = a.length := ⟨_, rfl⟩
  obtain ⟨Nb, hNb⟩ : ∃ N, N = b.length := ⟨_, rfl⟩
  rw [← hNa] at HC1 na hca
  rw [← hNb] at HC2 nb hcb
  have HNa := hide hNa
  have HNb := hide hNb
  have H0 := hide h0
  clear hJ hJx hW hc1 hc2 ha hb hga hgb hw hn1 hg1 hg2 e1 e2 e3 e4 hNa hNb h01 hT0 h0
  refine callsIn_of_wp Tryz.func40 rfl trivial ?_ rfl
  simp only [Tryz.ntmps40, List.size_toArray, List.length_cons, List.length_nil, Nat.reduceAdd, Nat.reduceSub, Array.replicate_succ, Array.replicate_zero, List.push_toArray, List.append_toArray, List.nil_append, List.cons_append]
  gi_wp2
  gi_loopw [4, 5] (fun v u wr => ∃ (pre : List Bs) (i k : Nat), v = .int .i64 i ∧ u = .int .i64 k ∧ i ≤ Na ∧ k ≤ Nb ∧ Hid (both a b = pre ++ both (a.drop i) (b.drop k)) ∧ Hid (J pre wr) ∧ Hid (Thr w0.heap.size n1 p q w wr)) (fun v u _ => restOf a b v u)
  case atStart => exact ⟨[], 0, 0, rfl, rfl, Nat.zero_le _, Nat.zero_le _, hide rfl, H0, HT0⟩
  case round =>
    obtain ⟨pre, i, k, rfl, rfl, hi, hk, HE, HJs, HT⟩ := hrel
    have c1 := HC1.out wr HT.out
    have c2 := HC2.out wr HT.out
    by_cases hend : i = Na ∧ k = Nb
    · obtain ⟨rfl, rfl⟩ := hend
      have da : decide ((i : Int) < (i : Int)) = false := decide_eq_false (by omega)
      have db : decide ((k : Int) < (k : Int)) = false := decide_eq_false (by omega)
      gi_wp2
      go_end0
      have hD : ∀ l : List Fl, l.drop l.length = [] := fun l => List.drop_length
      rw [HNa.out, HNb.out, hD, hD, both_nil, List.append_nil] at HE
      exact ⟨⟨_, rfl⟩, .inl ⟨_, rfl, by rw [HE.out]; exact HJs.out⟩⟩
    · have hne : a.drop i ≠ [] ∨ b.drop k ≠ [] := by
        rcases Nat.lt_or_ge i Na with h | h
        · left; rw [Ne, List.drop_eq_nil_iff]; have := HNa.out; omega
        · right; rw [Ne, List.drop_eq_nil_iff]; have := HNb.out; omega
      obtain ⟨qa, hqa⟩ := HGa.out i
      obtain ⟨qb, hqb⟩ := HGb.out k
      have hnx := both_next hqa hqb hne
      have hl1 := beg_le (a.drop i) (fst2 (a.drop i) (b.drop k))
      have hl2 := beg_le (b.drop k) (fst2 (a.drop i) (b.drop k))
      rw [List.length_drop, ← HNa.out] at hl1
      rw [List.length_drop, ← HNb.out] at hl2
      have hr1 := fun w => run_cutF1 w Aa Na ca i hi hca
      have hr2 := fun w => run_cutF1 w Ab Nb cb k hk hcb
      obtain ⟨A1, hA1⟩ : ∃ A1, (if ca = i then Aa else Aa.map (·.add (i * 2))) = A1 := ⟨_, rfl⟩
      obtain ⟨A2, hA2⟩ : ∃ A2, (if cb = k then Ab else Ab.map (·.add (k * 2))) = A2 := ⟨_, rfl⟩
      rw [hA1] at hr1
      rw [hA2] at hr2
      have HSa := hide (show ∀ wz, Thr w0.heap.size n1 p q w wz → Fls wz A1 (ca - i) (a.drop i) from fun wz h => by
        obtain ⟨A, c, e, hf⟩ := fls_drop (HA.out wz h) i (by have := HNa.out; omega)
        rw [hA1] at e
        injection e with e1 e2 e3
        subst e1 e3
        exact hf)
      have HSb := hide (show ∀ wz, Thr w0.heap.size n1 p q w wz → Fls wz A2 (cb - k) (b.drop k) from fun wz h => by
        obtain ⟨A, c, e, hf⟩ := fls_drop (HB.out wz h) k (by have := HNb.out; omega)
        rw [hA2] at e
        injection e with e1 e2 e3
        subst e1 e3
        exact hf)
      have HF1 := hide (show ∀ m, CallsIn Fence.wide (n - 1) Tryz.prog 41 #[.slice A1 (Na - i) (ca - i), .slice A2 (Nb - k) (cb - k)] (wr.drewN m) fun e w' => e = .returned (.string ⟨(fst2 (a.drop i) (b.drop k)).toArray⟩) ∧ ∃ m, w' = wr.drewN m from fun m => by
        have h := bfirst_any (a.drop i) (b.drop k) A1 A2 (ca - i) (cb - k) (wr.drewN m) (HSa.out _ (HT.out.trans ⟨below_drewN (Below.refl _ _) _, fun _ _ _ _ => rfl⟩)) (HSb.out _ (HT.out.trans ⟨below_drewN (Below.refl _ _) _, fun _ _ _ _ => rfl⟩)) hne
        rw [List.length_drop, List.length_drop, ← HNa.out, ← HNb.out] at h
        refine (callsIn_wide.2 h).mono ?_
        rintro e w' ⟨rfl, k, rfl⟩
        exact ⟨rfl, m + k, by simp [World.drewN, Nat.add_assoc]⟩)
      have HBe1 := hide (show ∀ wz, Thr w0.heap.size n1 p q w wz → Calls Tryz.prog 42 #[.slice A1 (Na - i) (ca - i), .string ⟨(fst2 (a.drop i) (b.drop k)).toArray⟩] wz fun e w' => e = .returned (.int .i64 (beg (a.drop i) (fst2 (a.drop i) (b.drop k)) : Nat)) ∧ w' = wz from fun wz h => by
        have h := bbegins_any (a.drop i) (fst2 (a.drop i) (b.drop k)) A1 (ca - i) wz (HSa.out _ h)
        rw [List.length_drop, ← HNa.out] at h
        exact h)
      have HBe2 := hide (show ∀ wz, Thr w0.heap.size n1 p q w wz → Calls Tryz.prog 42 #[.slice A2 (Nb - k) (cb - k), .string ⟨(fst2 (a.drop i) (b.drop k)).toArray⟩] wz fun e w' => e = .returned (.int .i64 (beg (b.drop k) (fst2 (a.drop i) (b.drop k)) : Nat)) ∧ w' = wz from fun wz h => by
        have h := bbegins_any (b.drop k) (fst2 (a.drop i) (b.drop k)) A2 (cb - k) wz (HSb.out _ h)
        rw [List.length_drop, ← HNb.out] at h
        exact h)
      rw [List.drop_drop, List.drop_drop] at hnx
      obtain ⟨x, hx⟩ : ∃ x, x = fst2 (a.drop i) (b.drop k) := ⟨_, rfl⟩
      rw [← hx] at hnx hl1 hl2 HF1 HBe1 HBe2
      obtain ⟨ia, hia⟩ : ∃ ia, ia = beg (a.drop i) x := ⟨_, rfl⟩
      obtain ⟨kb, hkb⟩ : ∃ kb, kb = beg (b.drop k) x := ⟨_, rfl⟩
      rw [← hia] at hnx hl1 HBe1
      rw [← hkb] at hnx hl2 HBe2
      have HE2 := hide (show both a b = (pre ++ [x]) ++ both (a.drop (i + ia)) (b.drop (k + kb)) by rw [HE.out, hnx]; simp)
      have HLen := hide (show pre.length < (both a b).length by rw [HE2.out]; simp)
      have HMe := hide (show (both (a.drop (i + ia)) (b.drop (k + kb))).length < (both (a.drop i) (b.drop k)).length by rw [hnx]; simp)
      clear hqa hqb hnx hA1 hA2 HSa HSb hx hia hkb hne HA HB HE HGa HGb
      by_cases hiN : i < Na
      · have da : decide ((i : Int) < (Na : Int)) = true := decide_eq_true (by omega)
        gi_wp2
        refine wpIn_region_quiet_lit rfl (by kernel_rfl) (by kernel_rfl) ?_
        repeat (quiet_step_in (fail))
        refine wpQuietIn_step (fun _ _ _ _ => trivial) (fun K hK => ?_)
        go_simp
        refine ⟨_, fun _ => HF1.out _, hK _ ?_⟩
        clear hK K
        repeat (quiet_step_in (fail))
        refine wpQuietIn_nil ?_
        rintro _ ⟨nq, rfl⟩
        generalize hwd : World.drewN wr _ = wd
        have HTd : Hid (Thr w0.heap.size n1 p q w wd) := by rw [← hwd]; exact HT.out.trans ⟨below_drewN (Below.refl _ _) _, fun _ _ _ _ => rfl⟩
        have HJd : J pre wd := HJ.out pre wr wd none HJs.out (by rw [← hwd]; exact grown_none (below_drewN (Below.refl _ _) _)) (by simp)
        obtain ⟨fn, tmps, assign, body, hy, hR⟩ := hY pre x wd HJd HLen.out
        have d1 := HC1.out wd HTd.out
        have d2 := HC2.out wd HTd.out
        have HB1 := HBe1.out wd HTd.out
        have HB2 := HBe2.out wd HTd.out
        have HJz := hide HJd
        clear hwd HJd HF1 c1 c2
        gi_wp2_with fail
        refine ⟨trivial, ?_⟩
        gi_at_call 42
        refine (callsIn_wide.2 HB1).mono ?_
        rintro e w' ⟨rfl, rfl⟩
        gi_wp2_with fail
        refine ⟨trivial, ?_⟩
        gi_at_call 42
        refine (callsIn_wide.2 HB2).mono ?_
        rintro e w' ⟨rfl, rfl⟩
        gi_wp2_with fail
        refine hR.mono ?_
        rintro e W3 (⟨rfl, hJ3, hk3⟩ | ⟨rfl, hJx3⟩)
        · gi_wp2
          go_roundw
          case rel => exact ⟨pre ++ [x], i + ia, k + kb, by go_num, by go_num, by omega, by omega, HE2, hide hJ3, hide (HTd.out.trans hk3)⟩
          case measure =>
            have hz1 : ((i : Int) + (ia : Int)).toNat = i + ia := by omega
            have hz2 : ((k : Int) + (kb : Int)).toNat = k + kb := by omega
            simp only [restOf, intOf, hz1, hz2, Int.toNat_natCast]
            exact HMe.out
        · gi_wp2
          refine bodyPost_ret (results_none rfl _ _ _) rfl ?_
          exact ⟨⟨_, rfl⟩, .inr ⟨_, ⟨both (a.drop (i + ia)) (b.drop (k + kb)), HE2.out.symm⟩, hJx3⟩⟩
      · have da : decide ((i : Int) < (Na : Int)) = false := decide_eq_false (by omega)
        have db : decide ((k : Int) < (Nb : Int)) = true := decide_eq_true (by omega)
        gi_wp2
        refine wpIn_region_quiet_lit rfl (by kernel_rfl) (by kernel_rfl) ?_
        repeat (quiet_step_in (fail))
        refine wpQuietIn_step (fun _ _ _ _ => trivial) (fun K hK => ?_)
        go_simp
        refine ⟨_, fun _ => HF1.out _, hK _ ?_⟩
        clear hK K
        repeat (quiet_step_in (fail))
        refine wpQuietIn_nil ?_
        rintro _ ⟨nq, rfl⟩
        generalize hwd : World.drewN wr _ = wd
        have HTd : Hid (Thr w0.heap.size n1 p q w wd) := by rw [← hwd]; exact HT.out.trans ⟨below_drewN (Below.refl _ _) _, fun _ _ _ _ => rfl⟩
        have HJd : J pre wd := HJ.out pre wr wd none HJs.out (by rw [← hwd]; exact grown_none (below_drewN (Below.refl _ _) _)) (by simp)
        obtain ⟨fn, tmps, assign, body, hy, hR⟩ := hY pre x wd HJd HLen.out
        have d1 := HC1.out wd HTd.out
        have d2 := HC2.out wd HTd.out
        have HB1 := HBe1.out wd HTd.out
        have HB2 := HBe2.out wd HTd.out
        have HJz := hide HJd
        clear hwd HJd HF1 c1 c2
        gi_wp2_with fail
        refine ⟨trivial, ?_⟩
        gi_at_call 42
        refine (callsIn_wide.2 HB1).mono ?_
        rintro e w' ⟨rfl, rfl⟩
        gi_wp2_with fail
        refine ⟨trivial, ?_⟩
        gi_at_call 42
        refine (callsIn_wide.2 HB2).mono ?_
        rintro e w' ⟨rfl, rfl⟩
        gi_wp2_with fail
        refine hR.mono ?_
        rintro e W3 (⟨rfl, hJ3, hk3⟩ | ⟨rfl, hJx3⟩)
        · gi_wp2
          go_roundw
          case rel => exact ⟨pre ++ [x], i + ia, k + kb, by go_num, by go_num, by omega, by omega, HE2, hide hJ3, hide (HTd.out.trans hk3)⟩
          case measure =>
            have hz1 : ((i : Int) + (ia : Int)).toNat = i + ia := by omega
            have hz2 : ((k : Int) + (kb : Int)).toNat = k + kb := by omega
            simp only [restOf, intOf, hz1, hz2, Int.toNat_natCast]
            exact HMe.out
        · gi_wp2
          refine bodyPost_ret (results_none rfl _ _ _) rfl ?_
          exact ⟨⟨_, rfl⟩, .inr ⟨_, ⟨both (a.drop (i + ia)) (b.drop (k + kb)), HE2.out.symm⟩, hJx3⟩⟩
end Go.Proofs.YtahcokfoifdlmaaGreatDoor.Tr
