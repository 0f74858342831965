/-
  The statement ApplyExact, walked.
-/
import Derived.Test.YtfmmececocilhaaBJ
namespace Go.Proofs.Ytfmmececocilhaa.Ap
open Go Go.RowKit Kt Lw Li Df Hu

def inH (k : Nat) (h : Hk) : Bool := decide (h.a ≤ (k : Int)) && decide ((k : Int) < h.a + h.an)
theorem any_snoc {L : List Hk} {j : Nat} {h : Hk} (hj : L[j]? = some h) (f : Hk → Bool) : (L.take (j + 1)).any f = ((L.take j).any f || f h) := by
  rw [List.take_add_one, hj]; simp
/-- one line is another one -/
theorem appl_set {a x : Ls} {L : List Hk} (ho : okL 0 0 L = true) (hd : Does 0 a L x) {k : Nat} (hk : k < a.length) {s : List UInt8} (hne : a[k]? ≠ some s) :
    (L.any (inH k) = true → appl (a.set k s) L = ([], 6)) ∧ (L.any (inH k) = false → ∃ y, appl (a.set k s) L = (y, 0) ∧ y.length = x.length ∧ s ∈ y) := by
  obtain ⟨h1, h2⟩ := does_other s L 0 0 0 a x k ho rfl hd hk hne
  constructor
  · intro h
    obtain ⟨g, hg, hc⟩ := List.any_eq_true.1 h
    unfold inH at hc
    simp only [Bool.and_eq_true, decide_eq_true_eq] at hc
    exact appl_no ho (h1 ⟨g, hg, by omega, by omega⟩)
  · intro h
    obtain ⟨y, k1, k2, k3⟩ := h2 fun g hg hc => by
      have : inH k g = true := by
        unfold inH
        simp only [Bool.and_eq_true, decide_eq_true_eq]
        omega
      have := List.any_eq_true.2 ⟨g, hg, this⟩
      rw [h] at this; cases this
    exact ⟨y, appl_yes ho k1, k2, k3⟩
theorem owt_set {w : World} {B g n cap : Nat} {l : Ls} (h : OwT w B tS (.slice (some ⟨g, 0, none⟩) n cap) l) (k : Nat) (s : List UInt8) :
    OwT (w.setCell ⟨g, k, none⟩ (.string ⟨s.toArray⟩)) B tS (.slice (some ⟨g, 0, none⟩) n cap) (l.set k s) := by
  obtain ⟨A, c, e, _⟩ := h.vs
  injection e with e1 e2 e3
  subst e2 e3
  have h' : w.ownsRow B tS 1 (.slice (some ⟨g, 0, none⟩) l.length cap) l.length (texts l) := h
  obtain ⟨hst, _⟩ := World.ownsRow.stored h' k (.string ⟨s.toArray⟩)
  have ht : (texts l).set k (.string ⟨s.toArray⟩) = texts (l.set k s) := by
    unfold texts; rw [List.map_set]
  rw [ht] at hst
  unfold OwT
  rw [List.length_set]
  exact hst
theorem found_snoc (x : Ls) (j : Nat) (hj : j < x.length) (s : List UInt8) : decide (s ∈ x.take (j + 1)) = (decide (s ∈ x.take j) || decide (x.getD j [] = s)) := by
  rw [List.take_add_one, List.getElem?_eq_getElem hj, List.getD_eq_getElem?_getD, List.getElem?_eq_getElem hj]
  have e : (s ∈ x.take j ++ (some x[j]).toList) = (s ∈ x.take j ∨ x[j] = s) := by
    simp only [Option.toList_some, List.mem_append, List.mem_singleton, eq_comm]
  simp only [Option.getD_some, e]
  exact Bool.decide_or _ _
set_option maxRecDepth 100000 in
set_option maxHeartbeats 2000000 in
theorem exact_early (n k m t : Nat) (A A' : Option Addr) (c c' : Nat) (s : List UInt8) (w : World) (h : n = 0 ∨ 40 < n ∨ 40 < k) :
    Calls Try.prog 6 #[.slice A n c, .slice A' k c', .int .u8 (m : Int), .int .u8 (t : Int), .string ⟨s.toArray⟩] w fun y w' => y = .returned (.bool true) ∧ Below w.heap.size w w' := by
  have Haw := hide (awake_any w)
  by_cases h0 : n = 0
  · subst h0
    clear h
    go_enter Try.func6, Try.ntmps6
    go_wp2_with fail
    refine Haw.out.mono ?_
    rintro y w1 ⟨rfl, hb1⟩
    go_wp2
    go_ret
    exact ⟨rfl, hb1⟩
  have e0 : ((n : Int) == 0) = false := by rw [beq_eq_false_iff_ne]; omega
  by_cases h1 : 40 < n
  · have d1 : decide ((40 : Int) < (n : Int)) = true := decide_eq_true (by omega)
    clear h
    go_enter Try.func6, Try.ntmps6
    go_wp2_with fail
    refine Haw.out.mono ?_
    rintro y w1 ⟨rfl, hb1⟩
    go_wp2
    go_ret
    exact ⟨rfl, hb1⟩
  · have d1 : decide ((40 : Int) < (n : Int)) = false := decide_eq_false (by omega)
    have d2 : decide ((40 : Int) < (k : Int)) = true := decide_eq_true (by omega)
    clear h
    go_enter Try.func6, Try.ntmps6
    go_wp2_with fail
    refine Haw.out.mono ?_
    rintro y w1 ⟨rfl, hb1⟩
    go_wp2
    go_ret
    exact ⟨rfl, hb1⟩
set_option maxRecDepth 100000 in
set_option maxHeartbeats 4000000 in
theorem lawExact_any (a b : Ls) (m t : Nat) (s : List UInt8) (A A' : Option Addr) (c c' : Nat) (P P' : Nat → Prop) (w : World) (hs : Vs w P A c (texts a)) (hs' : Vs w P' A' c' (texts b)) (_hm : m < 256) (_ht : t < 256)
    (hxa : ∀ x ∈ a, x.length ≤ 140737488351232) (hxb : ∀ x ∈ b, x.length ≤ 140737488351232) :
    Calls Try.prog 6 #[.slice A a.length c, .slice A' b.length c', .int .u8 (m : Int), .int .u8 (t : Int), .string ⟨s.toArray⟩] w fun y w' => y = .returned (.bool true) ∧ Below w.heap.size w w' := by
  by_cases hlen : a.length = 0 ∨ 40 < a.length ∨ 40 < b.length
  · exact exact_early a.length b.length m t A A' c c' s w hlen
  have ha : a.length ≤ 40 := by omega
  have ha0 : 0 < a.length := by omega
  have hb : b.length ≤ 40 := by omega
  obtain ⟨r, hr⟩ : ∃ r, r = m % 51 := ⟨_, rfl⟩
  have hrm : (m : Int) % 51 = (r : Int) := by omega
  have hr5 : r ≤ 50 := by omega
  obtain ⟨k, hk⟩ : ∃ k, k = t % a.length := ⟨_, rfl⟩
  have hkl : k < a.length := by rw [hk]; exact Nat.mod_lt _ ha0
  have htm : (t : Int).tmod (a.length : Int) = (k : Int) := by rw [hk, Int.tmod_eq_emod_of_nonneg (by omega)]; rfl
  obtain ⟨g1, _, g3, _, _⟩ := between_appl a b r
  obtain ⟨_, gd⟩ := appl_ok g1
  obtain ⟨f1, f2, _⟩ := bt_facts a b r ha hb hxa hxb
  have Haw := hide (awake_any w)
  have Hs := hide hs.bound
  have HBt := hide (fun w1 (hb1 : Below w.heap.size w w1) => between_yes a b r A A' c c' _ _ w1 (Lw.Vs.below hs.bound hb1) (Lw.Vs.below hs'.bound hb1) ha hb (by omega) hxa hxb)
  obtain ⟨HL, hHL⟩ : ∃ HL, HL = mkHs a r 0 (D a b) := ⟨_, rfl⟩
  rw [← hHL] at g1 g3 gd f1 f2 HBt
  have Hset := hide (fun hne => appl_set (s := s) g3 gd hkl hne)
  have HAp := hide (fun (w1 : World) (Al Ac : Option Addr) (cl cc : Nat) (hv : Vs w1 (fun b => b < w1.heap.size) Ac cc (texts (a.set k s))) (hk : Hks w1 Al cl HL) => apply_any (a.set k s) HL Ac Al cc cl _ w1 hv hk (by omega) (fun h hh => (f2 h hh).1) (by rw [List.length_set]; omega))
  simp only [List.length_set] at HAp
  have Hf2 := hide (fun h hh => (f2 h hh).1)
  obtain ⟨n, hn⟩ : ∃ n, n = a.length := ⟨_, rfl⟩
  obtain ⟨p, hp⟩ : ∃ p, p = b.length := ⟨_, rfl⟩
  obtain ⟨q, hq⟩ : ∃ q, q = HL.length := ⟨_, rfl⟩
  rw [← hn] at HBt HAp ha ha0 hkl htm ⊢
  rw [← hp] at HBt hb Hset ⊢
  rw [← hq] at HAp f1
  have Hn := hide hn
  have Hq := hide hq
  have e0 : ((n : Int) == 0) = false := by rw [beq_eq_false_iff_ne]; omega
  have d1 : decide ((40 : Int) < (n : Int)) = false := decide_eq_false (by omega)
  have d2 : decide ((40 : Int) < (p : Int)) = false := decide_eq_false (by omega)
  obtain ⟨b0, o0, rfl, ck0⟩ := Hs.out.text (Below.refl _ w) (k := k) (by rw [← Hn.out]; exact hkl)
  have hgk : a[k]? = some (a.getD k []) := by
    rw [List.getD_eq_getElem?_getD, List.getElem?_eq_getElem (by rw [← Hn.out]; exact hkl)]; rfl
  obtain ⟨u, hu⟩ : ∃ u, u = a.getD k [] := ⟨_, rfl⟩
  rw [← hu] at ck0 hgk
  have Hck := hide (fun w1 (hb1 : Below w.heap.size w w1) => cell_keep hb1 ck0)
  clear hs hs' hxa hxb hlen hr g1 g3 gd f2 hHL hn hp hq ck0 hu hk
  by_cases hus : u = s
  · have hq2 := eq_txt u s
    rw [decide_eq_true hus] at hq2
    subst hus
    clear Hset hgk
    go_enter Try.func6, Try.ntmps6
    go_wp2_with fail
    refine Haw.out.mono ?_
    rintro y w1 ⟨rfl, hb1⟩
    have ck1 := Hck.out w1 hb1
    go_wp2
    go_ret
    exact ⟨rfl, hb1⟩
  have hset := Hset.out (by rw [hgk]; intro e; exact hus (Option.some.inj e))
  have Hset2 := hide hset
  have hq2 := eq_txt u s
  rw [decide_eq_false hus] at hq2
  have hq3 : (u == s) = false := by rw [beq_eq_false_iff_ne]; exact hus
  have Htk := hide (show (texts a)[k]? = some (.string ⟨u.toArray⟩) by unfold texts; rw [List.getElem?_map, hgk]; rfl)
  clear Hset hgk hset
  go_enter Try.func6, Try.ntmps6
  go_wp2_with fail
  refine Haw.out.mono ?_
  rintro y w1 ⟨rfl, hb1⟩
  have ck1 := Hck.out w1 hb1
  have Hb1 := hide hb1
  clear hb1 Haw
  go_wp2_with fail
  refine (HBt.out w1 Hb1.out).mono ?_
  rintro y w2 ⟨v2, rfl, hv2, hb2⟩
  obtain ⟨Al, cl, rfl, hk2⟩ := hv2.hks
  have Hb2 := hide (Hb1.out.trans (hb2.mono Hb1.out.size))
  have Hk2 := hide hk2
  simp only [← Hq.out]
  clear hv2 hb2 hk2 HBt Hb1 ck1
  go_wp2_with (refine wpList_catT rfl (.tmp 58) (.tmp 59) 22 rfl Try.underlying22 infoText w2.heap.size w2 _ [] a _ _ c rfl (by rw [← Hn.out]; rfl) (OwT.lit w2 w2.heap.size 9 [] _ rfl (Nat.le_refl _) (by simp [maxLen])) (Lw.Vs.below Hs.out (Hb2.out.alloc Hb2.out.size _)) (by rw [← Hn.out]; simp; omega) ((Below.refl _ _).alloc (Nat.le_refl _) _) (by simp) ?_
               intro v3 w3 hown3 hb3 _
               obtain ⟨g, cap, rfl, hgB, hgl⟩ := World.ownsRow.form (show w3.ownsRow w2.heap.size tS 1 v3 a.length (texts a) from hown3) (by rw [← Hn.out]; exact ha0)
               have hcap := World.ownsRow.cellAt (cap := cap) (show w3.ownsRow w2.heap.size tS 1 (.slice (some ⟨g, 0, none⟩) a.length cap) a.length (texts a) from hown3) k (by rw [← Hn.out]; omega)
               rw [Htk.out] at hcap
               have hfr := World.ownsRow.frozenAt (show w3.ownsRow w2.heap.size tS 1 (.slice (some ⟨g, 0, none⟩) a.length cap) a.length (texts a) from hown3) k
               have Hown3 := hide hown3
               have Hb3 := hide hb3
               have HgB := hide hgB
               rw [← Hn.out]
               clear hown3 hb3 hgB)
  obtain ⟨w5, hw5⟩ : ∃ w5, w5 = w3.setCell ⟨g, k, none⟩ (.string ⟨s.toArray⟩) := ⟨_, rfl⟩
  have own5 := owt_set Hown3.out k s
  have hb5 : Below w2.heap.size w2 (w3.setCell ⟨g, k, none⟩ (.string ⟨s.toArray⟩)) := Hb3.out.trans (below_put (Below.refl _ w3) HgB.out _)
  rw [← hw5] at own5 hb5 ⊢
  obtain ⟨A5, c5, e5, hv5⟩ := own5.vs
  injection e5 with e51 e52 e53
  subst e51 e53
  have HA5 := hide (HAp.out w5 Al _ cl _ hv5.bound (Hk2.out.keep hb5))
  have Hk5 := hide (Hk2.out.keep hb5)
  have Hb5 := hide (Hb2.out.trans (hb5.mono Hb2.out.size))
  clear hw5 own5 hb5 e52 hv5 hcap hfr Hown3 Hb3 HgB Hk2 Hb2 HAp hgl
  obtain ⟨R, hR⟩ : ∃ R, R = appl (a.set k s) HL := ⟨_, rfl⟩
  rw [← hR] at HA5 Hset2
  obtain ⟨yl, e⟩ := R
  simp only at HA5
  clear hR
  refine HA5.out.mono ?_
  rintro y w6 ⟨v6, rfl, hv6, hb6⟩
  obtain ⟨A6, c6, rfl, hx6⟩ := hv6.vs
  obtain ⟨nx, hnx⟩ : ∃ nx, nx = yl.length := ⟨_, rfl⟩
  obtain ⟨ei, hei⟩ : ∃ ei : Int, ei = (e : Int) := ⟨_, rfl⟩
  rw [← hnx, ← hei]
  have Hnx := hide hnx
  have Hei := hide hei
  have Hx6 := hide hx6.bound
  have Hk6 := hide (Hk5.out.keep hb6)
  have Hb6 := hide (Hb5.out.trans (hb6.mono Hb5.out.size))
  clear hv6 hx6 hb6 hnx hei HA5 Hk5 Hb5
  go_wp2
  go_loopw [18, 19] (fun v i wr => ∃ (j : Nat) (f : Bool), j ≤ q ∧ i = .int .i64 j ∧ v = .bool f ∧ Hid (f = (HL.take j).any (inH k)) ∧ Hid (Below w6.heap.size w6 wr)) (fun _ i _ => q - (intOf i).toNat)
  case atStart => exact ⟨0, false, Nat.zero_le _, rfl, rfl, hide rfl, hide (Below.refl _ _)⟩
  case round =>
    obtain ⟨j, f, hj, rfl, rfl, Hf, Hbr⟩ := hrel
    by_cases hlt : j < q
    · obtain ⟨b', o', h, A'', c'', hA, hke, ⟨g0, g1, g2, g3, g4⟩, _⟩ := Hk6.out.at Hbr.out (k := j) (by have := Hq.out; omega)
      subst hA
      have hsm := Hf2.out h (List.mem_of_getElem? hke)
      have Han := hide (any_snoc hke (inH k))
      unfold Sm at hsm
      have Hin := hide (show inH k h = (decide (h.a ≤ (k : Int)) && decide ((k : Int) < h.a + h.an)) from rfl)
      obtain ⟨za, hza⟩ : ∃ z, z = h.a := ⟨_, rfl⟩
      obtain ⟨zan, hzan⟩ : ∃ z, z = h.an := ⟨_, rfl⟩
      rw [← hza] at g0 hsm Hin
      rw [← hzan] at g1 hsm Hin
      obtain ⟨⟨t1, t2⟩, ⟨t3, t4⟩, -⟩ := hsm
      clear g2 g3 g4 hke hza hzan
      have hwz : IntKind.i64.wrap (za + zan) = za + zan := IntWalk.i64_in _ (by omega)
      cases f with
      | true =>
        have Hn1 := hide (show true = (HL.take (j + 1)).any (inH k) by rw [Han.out, ← Hf.out]; rfl)
        go_wp2_with fail
        go_quiet (fail)
        go_wp2
        exact ⟨⟨j + 1, true, by omega, by go_num, rfl, hide Hn1.out, hide (below_drewN Hbr.out _)⟩, by simp [intOf]; omega⟩
      | false =>
        by_cases k1 : za ≤ (k : Int)
        · have d3 : decide (za ≤ (k : Int)) = true := decide_eq_true k1
          by_cases k2 : (k : Int) < za + zan
          · have d4 : decide ((k : Int) < za + zan) = true := decide_eq_true k2
            have Hn1 := hide (show true = (HL.take (j + 1)).any (inH k) by rw [Han.out, ← Hf.out, Hin.out, d3, d4]; rfl)
            go_wp2_with fail
            go_quiet (fail)
            go_wp2
            exact ⟨⟨j + 1, true, by omega, by go_num, rfl, hide Hn1.out, hide (below_drewN Hbr.out _)⟩, by simp [intOf]; omega⟩
          · have d4 : decide ((k : Int) < za + zan) = false := decide_eq_false k2
            have Hn1 := hide (show false = (HL.take (j + 1)).any (inH k) by rw [Han.out, ← Hf.out, Hin.out, d3, d4]; rfl)
            go_wp2_with fail
            go_quiet (fail)
            go_wp2
            exact ⟨⟨j + 1, false, by omega, by go_num, rfl, hide Hn1.out, hide (below_drewN Hbr.out _)⟩, by simp [intOf]; omega⟩
        · have d3 : decide (za ≤ (k : Int)) = false := decide_eq_false k1
          have Hn1 := hide (show false = (HL.take (j + 1)).any (inH k) by rw [Han.out, ← Hf.out, Hin.out, d3]; rfl)
          go_wp2_with fail
          go_quiet (fail)
          go_wp2
          exact ⟨⟨j + 1, false, by omega, by go_num, rfl, hide Hn1.out, hide (below_drewN Hbr.out _)⟩, by simp [intOf]; omega⟩
    · obtain rfl : j = q := by omega
      have hf := Hf.out
      rw [Hq.out, List.take_length] at hf
      have Hbe := hide (Hb6.out.trans (Hbr.out.mono Hb6.out.size))
      cases f with
      | true =>
        have h1 := Hset2.out.1 hf.symm
        injection h1 with h1 h2
        subst h1 h2
        obtain rfl : nx = 0 := by rw [Hnx.out]; rfl
        obtain rfl : ei = 6 := Hei.out
        clear hf Hset2
        go_wp2
        go_ret
        exact ⟨rfl, Hbe.out⟩
      | false =>
        obtain ⟨y', h1, h2, h3⟩ := Hset2.out.2 hf.symm
        injection h1 with h1 h1'
        subst h1 h1'
        obtain rfl : ei = 0 := Hei.out
        have hnp : nx = p := by rw [Hnx.out, h2]
        subst hnp
        have Hin := hide h3
        have Hxr := hide (vs_keep Hx6.out Hbr.out)
        clear hf Hset2 h2 h3
        go_wp2
        go_loopw [20, 21] (fun v i wr' => ∃ (jj : Nat) (ff : Bool), jj ≤ nx ∧ i = .int .i64 jj ∧ v = .bool ff ∧ Hid (ff = decide (s ∈ yl.take jj)) ∧ wr' = wr) (fun _ i _ => nx - (intOf i).toNat)
        case atStart => exact ⟨0, false, Nat.zero_le _, rfl, rfl, hide (by simp), rfl⟩
        case round =>
          obtain ⟨jj, ff, hjj, rfl, rfl, Hff, rfl⟩ := hrel
          by_cases hl2 : jj < nx
          · have hl3 : jj < yl.length := by rw [← Hnx.out]; exact hl2
            obtain ⟨bx, ox, hA, cx⟩ := Hxr.out.text (Below.refl _ _) (k := jj) hl3
            subst hA
            have Hfs := hide (found_snoc yl jj hl3 s)
            obtain ⟨xx, hxx⟩ : ∃ xx, xx = yl.getD jj [] := ⟨_, rfl⟩
            rw [← hxx] at cx Hfs
            clear hxx hl3
            have hqe := eq_txt xx s
            cases ff with
            | true =>
              have Hn1 := hide (show true = decide (s ∈ yl.take (jj + 1)) by rw [Hfs.out, ← Hff.out]; rfl)
              go_wp2
              exact ⟨⟨jj + 1, true, by omega, by go_num, rfl, hide Hn1.out, trivial⟩, by simp [intOf]; omega⟩
            | false =>
              by_cases hxs : xx = s
              · subst hxs
                have Hn1 := hide (show true = decide (xx ∈ yl.take (jj + 1)) by rw [Hfs.out, ← Hff.out, decide_eq_true rfl]; rfl)
                clear hqe
                go_wp2
                exact ⟨⟨jj + 1, true, by omega, by go_num, rfl, hide Hn1.out, trivial⟩, by simp [intOf]; omega⟩
              · rw [decide_eq_false hxs] at hqe Hfs
                have hq4 : (xx == s) = false := by rw [beq_eq_false_iff_ne]; exact hxs
                have Hn1 := hide (show false = decide (s ∈ yl.take (jj + 1)) by rw [Hfs.out, ← Hff.out]; rfl)
                go_wp2
                exact ⟨⟨jj + 1, false, by omega, by go_num, rfl, hide Hn1.out, trivial⟩, by simp [intOf]; omega⟩
          · obtain rfl : jj = nx := by omega
            have hff := Hff.out
            rw [Hnx.out, List.take_length, decide_eq_true Hin.out] at hff
            subst hff
            go_wp2
            go_ret
            exact ⟨rfl, Hbe.out⟩
end Go.Proofs.Ytfmmececocilhaa.Ap
