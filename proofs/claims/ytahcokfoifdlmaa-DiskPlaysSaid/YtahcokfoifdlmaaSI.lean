/-
  What was written stays, and a front of what is being written: the law DiskTears.
-/
import Derived.Test.YtahcokfoifdlmaaSG
namespace Go.Proofs.Ytahcokfoifdlmaa.Dk
open Go Go.RowKit Kt Kg Wr Lw

theorem DkIn.drewN {w : World} {S : Nat → Prop} {g : Nat} {s : St} (h : DkIn w S g s) (n : Nat) : DkIn (w.drewN n) S g s := h
theorem ap {S S' T : Nat → Prop} {n : Nat} (hS' : ∀ k, S' k → S k ∨ n ≤ k) (hap : ∀ k, S k → ¬ T k) (hT : ∀ k, T k → k < n) : ∀ k, S' k → ¬ T k :=
  fun k hk ht => (hS' k hk).elim (fun h => hap k h ht) fun h => by have := hT k ht; omega
theorem lo {S S' : Nat → Prop} {m n : Nat} (hS' : ∀ k, S' k → S k ∨ n ≤ k) (hlow : ∀ k, S k → m ≤ k) (hb : m ≤ n) : ∀ k, S' k → m ≤ k :=
  fun k hk => (hS' k hk).elim (hlow k) fun h => Nat.le_trans hb h
theorem sl_front {w : World} {P : Nat → Prop} {A : Option Addr} {c : Nat} {l : List UInt8} (h : Sl w P A c l) (k : Nat) : Sl w P A c (l.take k) := ⟨by have := h.1; rw [List.length_take]; omega, fun h0 => by
  have hlt : (l.take k).length ≤ l.length := by rw [List.length_take]; omega
  obtain ⟨b, o, h1, h2, h3⟩ := h.2 (by omega)
  refine ⟨b, o, h1, h2, fun j hj => ?_⟩
  rw [h3 j (by omega)]
  have hjf : j < k := by rw [List.length_take] at hj; omega
  simp [List.getD_eq_getElem?_getD, hjf]⟩
theorem run_back (w : World) (A : Option Addr) (n c k : Nat) (hk : k ≤ n) (_hn : n ≤ c) :
    (Instr.slice 30 (.slice A n c) (some (.int .i64 (k : Int))) none none).run Try.prog w = .ok (.slice (if c = k then A else A.map (·.add k)) (n - k) (c - k)) w := by
  have hu := run_underlying Try.underlying30
  cases A with
  | none =>
    go_simp
  | some ad =>
    go_simp
theorem bytes_two (l r : List UInt8) (A A' : Option Addr) (n n' c c' : Nat) (Pb Pb' : Nat → Prop) (w : World) (hs : Sl w Pb A c l) (hs' : Sl w Pb' A' c' r) (hn : n = l.length) (hn' : n' = r.length) (hl : l.length ≤ 9223372036854775807) :
    Calls Try.prog 16 #[.slice A n c, .slice A' n' c'] w fun y w' => y = .returned (.bool (decide (l = r))) ∧ Below w.heap.size w w' := by
  subst hn hn'
  exact bytes_any l r A A' c c' Pb Pb' w hs hs' hl

/-- what becomes of a disk behind a start, with a fuse -/
theorem tears_is (s : St) (b : List UInt8) (f : Nat) (hs : s.k.length ≤ s.room) : ∃ q e s', put (fused (begun s) f) b = (s', e) ∧ s'.k = s.k ++ b.take q ∧ q ≤ b.length ∧ s'.room = s.room ∧
    ((e = 8 ∧ q = 0 ∧ s'.room - s'.k.length < b.length) ∨ (e = 9 ∧ s'.dead = true ∧ q = f ∧ q < b.length) ∨ (e = 0 ∧ q = b.length ∧ s'.dead = false ∧ b.length ≤ f)) := by
  rw [tears]
  split
  · exact ⟨0, 8, _, rfl, by simp, Nat.zero_le _, rfl, .inl ⟨rfl, rfl, by simp only []; omega⟩⟩
  · split
    · exact ⟨f, 9, _, rfl, rfl, by omega, rfl, .inr (.inl ⟨rfl, rfl, rfl, by omega⟩)⟩
    · exact ⟨b.length, 0, _, rfl, by simp, Nat.le_refl _, rfl, .inr (.inr ⟨rfl, rfl, rfl, by omega⟩)⟩
set_option maxHeartbeats 4000000 in
set_option maxRecDepth 100000 in
theorem lawTears_any (room : Nat) (L : List Op) (bs : List UInt8) (f : Nat) (A A' : Option Addr) (c c' : Nat) (P : Nat → Prop) (w : World) (hs : Ops w A c L) (hsb : Sl w P A' c' bs) (hsm : ∀ o ∈ L, o.small) (hl : L.length ≤ 9223372036854775807) (hbl : bs.length ≤ 9223372036854775807) (_hr : room ≤ 65535) (hf : f ≤ 255) :
    Calls Try.prog 4 #[.int .u16 (room : Int), .slice A L.length c, .slice A' bs.length c', .int .u8 (f : Int)] w fun y w' => y = .returned (.bool true) ∧ Below w.heap.size w w' := by
  have HWk := hide (wake_any w)
  have HFew := hide (fun (wz : World) (h : Below w.heap.size w wz) => few_any L A c wz (hs.keep h) hl)
  obtain ⟨n, hn⟩ : ∃ n, n = room % 1001 := ⟨_, rfl⟩
  have hn1 : n ≤ 1000 := by omega
  have hmod : ((room : Int)).tmod 1001 = (n : Int) := by rw [hn]; rfl
  have HNew := hide (fun wz => new_yes n (by omega) wz)
  have Hs := hide hs
  have Hsm := hide hsm
  have Hsb := hide (hsb.bound)
  obtain ⟨N, hN⟩ : ∃ N, N = L.length := ⟨_, rfl⟩
  obtain ⟨Nb, hNb⟩ : ∃ N, N = bs.length := ⟨_, rfl⟩
  rw [← hN] at hl HFew ⊢
  rw [← hNb] at hbl ⊢
  have HN := hide hN
  have HNb := hide hNb
  clear hs hsm hsb hN hn hNb
  go_enter Try.func4, Try.ntmps4
  go_wp2_with fail
  refine HWk.out.mono ?_
  rintro y w1 ⟨rfl, hb1⟩
  have HB1 := hide hb1
  clear hb1 HWk
  go_wp2_with fail
  refine (HFew.out w1 HB1.out).mono ?_
  rintro y w2 ⟨rfl, hb2⟩
  have HB2 := hide (HB1.out.trans (hb2.mono HB1.out.size))
  clear hb2 HFew HB1
  go_wp2_with fail
  refine (HNew.out w2).mono ?_
  rintro y w3 ⟨g, rfl, hD, hg, hb3⟩
  have HB3 := hide (HB2.out.trans (hb3.mono HB2.out.size))
  have HD := hide hD
  have HG := hide (show w.heap.size ≤ g by have := HB2.out.size; omega)
  clear hD hg hb3 HB2 HNew
  generalize hfew : few L = fw
  cases fw with
  | false =>
    clear hfew
    go_wp2
    go_ret
    exact ⟨rfl, HB3.out⟩
  | true =>
    have hN40 : N ≤ 40 := by have := (few_is hfew).1; have := HN.out; omega
    clear hfew
    by_cases hb40 : Nb ≤ 40
    · have hd40 : decide (40 < (Nb : Int)) = false := decide_eq_false (by omega)
      have hd40' : ¬ 40 < Nb := by omega
      go_wp2
      go_loopw [13] (fun i wr => ∃ k : Nat, k ≤ N ∧ i = .int .i64 k ∧ (∃ S, DkIn wr S g (run (new n) (L.take k)) ∧ ∀ b, S b → w.heap.size ≤ b) ∧ Below w.heap.size w wr) (fun i _ => N - (intOf i).toNat)
      case atStart => exact ⟨0, Nat.zero_le _, rfl, ⟨_, HD.out, fun b e => by have := HG.out; omega⟩, HB3.out⟩
      case round =>
        obtain ⟨k, hk, rfl, ⟨S, hD, hS⟩, hb⟩ := hrel
        have Hb := hide hb
        have HS := hide hS
        have HX := hide (run_fit (new_fit (show n ≤ 16777216 by omega)) (L.take k) fun o ho => Hsm.out o (List.mem_of_mem_take ho))
        have HR := hide (run_room (new n) (L.take k))
        have HNx := hide (fun (h : k < L.length) => take_step L k h (new n))
        generalize run (new n) (L.take k) = s at *
        have HD := hide hD
        clear hD hS hb
        by_cases hlt : k < N
        · obtain ⟨b, o, e, Ae, ce, rfl, hke, ⟨c0, c1, c2⟩, hv⟩ := Hs.out.at Hb.out (k := k) (by have := HN.out; omega)
          have hkl : k < L.length := by have := HN.out; omega
          have hge : L.getD k ⟨0, [], 0⟩ = e := by simp [List.getD_eq_getElem?_getD, hke]
          have HNx2 := hide (HNx.out hkl)
          rw [hge] at HNx2
          have HP := hide (do_any HD.out HX.out e Ae ce _ hv)
          obtain ⟨M, hM⟩ : ∃ M, M = e.b.length := ⟨_, rfl⟩
          rw [← hM] at HP c1
          clear hke hv hge HNx HX HR hM
          go_wp2_with fail
          refine HP.out.mono ?_
          rintro y w4 ⟨rfl, S4, hD4, hO4, hS4⟩
          have HEnd := hide (show (∃ S, DkIn w4 S g (run (new n) (L.take (k + 1))) ∧ ∀ b, S b → w.heap.size ≤ b) ∧ Below w.heap.size w w4 from ⟨⟨S4, by rw [HNx2.out]; exact hD4, lo hS4 HS.out Hb.out.size⟩, oth_low hO4 Hb.out HS.out⟩)
          clear HP hD4 hO4 hS4 HNx2
          go_wp2
          exact ⟨⟨k + 1, by omega, by go_num, HEnd.out⟩, by simp [intOf]; omega⟩
        · obtain rfl : k = N := by omega
          have hroom : s.room = n := HR.out
          obtain ⟨q, er, s', hput, hk', hqb, hroom', hcase⟩ := tears_is s bs f HX.out.1
          have hfit' : s'.fit := by have := put_fit (b := bs) (fused_fit (n := (f : Int)) (begun_fit HX.out) (by omega)); rw [hput] at this; exact this
          have HSt := hide (start_any HD.out)
          clear HNx HR
          go_wp2_with fail
          refine HSt.out.mono ?_
          rintro y w4 ⟨rfl, hD4, hO4⟩
          have HB4 := hide (oth_low hO4 Hb.out HS.out)
          have HD4 := hide hD4
          have HBy := hide (bytes_call hD4 (begun_fit HX.out))
          clear hD4 hO4 HSt HD
          go_wp2_with fail
          refine HBy.out.mono ?_
          rintro y w5 ⟨v, rfl, hown, hb5⟩
          obtain ⟨Aw, cw, rfl, hsw⟩ := hown.sl
          have hlt4 := HD4.out.lt
          have hsw2 := hsw.imp (Q := fun b => w4.heap.size ≤ b ∧ b < w5.heap.size) fun b hb h => ⟨h.1, hb⟩
          have HD5 := hide (HD4.out.below hb5)
          have HB5 := hide (HB4.out.trans (hb5.mono HB4.out.size))
          obtain ⟨K, hK⟩ : ∃ K, K = (begun s).k.length := ⟨_, rfl⟩
          rw [← hK]
          have HK := hide hK
          have HSw := hide hsw2
          have HFu := hide (fuse_any HD5.out (f : Int))
          have HL4 := hide hlt4
          clear hown hb5 HBy HD4 hsw hK hsw2 HB4 hlt4
          go_wp2_with fail
          refine HFu.out.mono ?_
          rintro y w6 ⟨rfl, hD6, hO6⟩
          have HB6 := hide (oth_low hO6 HB5.out HS.out)
          have HSw6 := hide (HSw.out.move fun b hb _ => hO6.block b hb.2 fun hSb => by have := HL4.out b hSb; omega)
          have hP := put_any hD6 (fused_fit (begun_fit HX.out) (show (f : Int) ≤ _ by omega)) bs A' c' _ (Hsb.out.move fun b hb _ => HB6.out.block b hb.2)
          rw [hput, ← HNb.out] at hP
          have HP := hide hP
          have HZ6 := hide hO6.size
          clear hD6 hO6 HFu HSw HD5 HB5 hP
          go_wp2_with fail
          refine HP.out.mono ?_
          rintro y w7 ⟨rfl, S7, hD7, hO7, hS7⟩
          have HB7 := hide (oth_low hO7 HB6.out HS.out)
          have HSw7 := hide (HSw6.out.move fun b hb _ => hO7.block b (by have := HZ6.out; omega) fun hSb => by have := HL4.out b hSb; omega)
          have HBy := hide (bytes_call hD7 hfit')
          have HD7 := hide hD7
          clear hD7 hO7 hS7 HP HSw6 HB6 HZ6
          go_wp2_with fail
          refine HBy.out.mono ?_
          rintro y w8 ⟨v, rfl, hown, hb8⟩
          have HD8 := hide (HD7.out.below hb8)
          have HB8 := hide (HB7.out.trans (hb8.mono HB7.out.size))
          have HSw8 := hide ((HSw7.out.bound).move fun b hb _ => hb8.block b hb.2)
          have HSb8 := hide (Hsb.out.move (w' := w8) fun b hb _ => HB8.out.block b hb.2)
          have hown2 := hown
          rw [hk'] at hown2
          obtain ⟨An, cn, rfl, hsn⟩ := hown2.sl
          have hlen : (s.k ++ bs.take q).length = K + q := by have : K = s.k.length := HK.out; rw [List.length_append, List.length_take, this, Nat.min_eq_left hqb]
          rw [hlen]
          have HSn := hide hsn
          have hcn : K + q ≤ cn := by rw [← hlen]; exact hsn.1
          clear hown hown2 hb8 hsn HBy HD7 HB7 HSw7
          obtain ⟨T, hT⟩ : ∃ T, T = K + q := ⟨_, rfl⟩
          rw [← hT] at hcn hlen ⊢
          have hwT : IntKind.i64.wrap ((T : Int) - (K : Int)) = (q : Int) := by rw [IntWalk.i64_in _ (by omega)]; omega
          have hq0 : decide ((q : Int) < 0) = false := decide_eq_false (by omega)
          have hqn' : ¬ Nb < q := by have := HNb.out; omega
          have hqn : decide (Nb < q) = false := decide_eq_false hqn'
          have hcb : Nb ≤ c' := by rw [HNb.out]; exact Hsb.out.1
          have Hfr := hide (fun wz => run_front wz An T cn K (by omega) hcn)
          have Hbk := hide (fun wz => run_back wz An T cn K (by omega) hcn)
          have Hfb := hide (fun wz => run_front wz A' Nb c' q (by omega) hcb)
          rw [show T - K = q by omega] at Hbk
          have HSk := hide (HSn.out.cut (k := K) (by rw [hlen]; omega))
          have HSf := hide (sl_front HSn.out K)
          have HSq := hide (sl_front HSb8.out q)
          have hkK : K = s.k.length := HK.out
          rw [show (s.k ++ bs.take q).take K = s.k by rw [hkK, List.take_left]] at HSf
          rw [show (s.k ++ bs.take q).drop K = bs.take q by rw [hkK, List.drop_left]] at HSk
          have HlK := hide hkK
          have HlQ := hide (show q = (bs.take q).length by rw [List.length_take, Nat.min_eq_left hqb])
          have HlS := hide (show s.k.length ≤ 9223372036854775807 by have := HX.out.1; have := HX.out.2.1; omega)
          have HlB := hide (show (bs.take q).length ≤ 9223372036854775807 by have := HlQ.out; have := HNb.out; omega)
          have HT := hide hT
          obtain ⟨Ax, hAx⟩ : ∃ Ax, Ax = (if cn = K then An else An.map (·.add K)) := ⟨_, rfl⟩
          obtain ⟨cx, hcx⟩ : ∃ cx, cx = cn - K := ⟨_, rfl⟩
          rw [← hAx, ← hcx] at Hbk HSk
          clear hAx hcx hT hkK hcn hcb hlen HSn HSb8 hk'
          go_wp2
          refine Rg.wp_region_ord (fun _ => True) [(0, true), (1, true), (2, true), (3, true), (4, true), (5, true), (6, true), (7, true), (8, true), (9, true), (10, true), (11, true), (12, true), (13, true), (14, false), (15, true), (16, true), (17, true), (18, true), (19, true), (20, true), (21, true), (22, true), (23, true), (24, true), (25, false), (26, true), (27, true)] (by kernel_rfl) (by kernel_rfl) ?_
          simp only [Rg.pick, List.map_cons, List.map_nil, List.getD_cons_zero, List.getD_cons_succ]
          iterate 3 (refine Rg.ord_quiet (v := ?_) rfl (fun w' hS => ?_) trivial ?_; rotate_left; (clear hS; go_simp; with_reducible rfl); simp only [Act.put, List.setIfInBounds_toArray, List.set_cons_succ, List.set_cons_zero])
          iterate 4 (refine Rg.ord_guarded (v := ?_) (by rfl) (fun w' hS => ?_) trivial ?_; rotate_left; (clear hS; go_simp; with_reducible rfl); simp only [Act.put, List.setIfInBounds_toArray, List.set_cons_succ, List.set_cons_zero])
          iterate 2 (refine Rg.ord_quiet (v := ?_) rfl (fun w' hS => ?_) trivial ?_; rotate_left; (clear hS; go_simp; with_reducible rfl); simp only [Act.put, List.setIfInBounds_toArray, List.set_cons_succ, List.set_cons_zero])
          iterate 3 (refine Rg.ord_guarded (v := ?_) (by rfl) (fun w' hS => ?_) trivial ?_; rotate_left; (clear hS; go_simp; with_reducible rfl); simp only [Act.put, List.setIfInBounds_toArray, List.set_cons_succ, List.set_cons_zero])
          refine Rg.ord_guarded (v := .slice An K cn) (by rfl) (fun w' hS => ?_) trivial ?_
          · have hq := Hfr.out w'
            clear hS
            go_simp
          simp only [Act.put, List.setIfInBounds_toArray, List.set_cons_succ, List.set_cons_zero]
          iterate 1 (refine Rg.ord_guarded (v := ?_) (by rfl) (fun w' hS => ?_) trivial ?_; rotate_left; (clear hS; go_simp; with_reducible rfl); simp only [Act.put, List.setIfInBounds_toArray, List.set_cons_succ, List.set_cons_zero])
          refine Rg.ord_loud (by rfl) (fun K hK => ?_)
          go_simp
          refine (bytes_two s.k (begun s).k An Aw _ _ cn cw _ _ w8.drew HSf.out HSw8.out HlK.out HK.out HlS.out).mono ?_
          rintro y w9 ⟨rfl, hb9⟩
          rw [show (begun s).k = s.k from rfl, decide_eq_true rfl]
          refine hK _ _ (fun _ => trivial) ?_
          clear hK K
          have HB9 := hide (HB8.out.trans ((Below.trans (Below.refl w8.heap.size w8).drew hb9).mono HB8.out.size))
          have HD9 := hide ((show DkIn w8.drew S7 g s' from HD8.out).below hb9)
          have HSk9 := hide ((show Sl w8.drew _ Ax cx (bs.take q) from HSk.out.bound).move (w' := w9) fun b hb _ => hb9.block b hb.2)
          have HSq9 := hide ((show Sl w8.drew _ A' c' (bs.take q) from HSq.out.bound).move (w' := w9) fun b hb _ => hb9.block b hb.2)
          clear hb9 HB8 HD8 HSk HSq HSf HSw8
          iterate 1 (refine Rg.ord_guarded (v := ?_) (by rfl) (fun w' hS => ?_) trivial ?_; rotate_left; (clear hS; go_simp; with_reducible rfl); simp only [Act.put, List.setIfInBounds_toArray, List.set_cons_succ, List.set_cons_zero])
          iterate 2 (refine Rg.ord_quiet (v := ?_) rfl (fun w' hS => ?_) trivial ?_; rotate_left; (clear hS; go_simp; with_reducible rfl); simp only [Act.put, List.setIfInBounds_toArray, List.set_cons_succ, List.set_cons_zero])
          iterate 3 (refine Rg.ord_guarded (v := ?_) (by rfl) (fun w' hS => ?_) trivial ?_; rotate_left; (clear hS; go_simp; with_reducible rfl); simp only [Act.put, List.setIfInBounds_toArray, List.set_cons_succ, List.set_cons_zero])
          refine Rg.ord_guarded (v := .slice Ax q cx) (by rfl) (fun w' hS => ?_) trivial ?_
          · have hq := Hbk.out w'
            clear hS
            go_simp
          simp only [Act.put, List.setIfInBounds_toArray, List.set_cons_succ, List.set_cons_zero]
          iterate 2 (refine Rg.ord_guarded (v := ?_) (by rfl) (fun w' hS => ?_) trivial ?_; rotate_left; (clear hS; go_simp; with_reducible rfl); simp only [Act.put, List.setIfInBounds_toArray, List.set_cons_succ, List.set_cons_zero])
          refine Rg.ord_guarded (v := .slice A' q c') (by rfl) (fun w' hS => ?_) trivial ?_
          · have hq := Hfb.out w'
            clear hS
            go_simp
          simp only [Act.put, List.setIfInBounds_toArray, List.set_cons_succ, List.set_cons_zero]
          refine Rg.ord_loud (by rfl) (fun K hK => ?_)
          go_simp
          refine (bytes_two (bs.take q) (bs.take q) Ax A' _ _ cx c' _ _ w9 HSk9.out HSq9.out HlQ.out HlQ.out HlB.out).mono ?_
          rintro y w10 ⟨rfl, hb10⟩
          rw [decide_eq_true rfl]
          refine hK _ _ (fun _ => trivial) ?_
          clear hK K
          have HB10 := hide (HB9.out.trans (hb10.mono HB9.out.size))
          have HD10 := hide (HD9.out.below hb10)
          clear hb10 HB9 HD9 HSk9 HSq9
          iterate 1 (refine Rg.ord_guarded (v := ?_) (by rfl) (fun w' hS => ?_) trivial ?_; rotate_left; (clear hS; go_simp; with_reducible rfl); simp only [Act.put, List.setIfInBounds_toArray, List.set_cons_succ, List.set_cons_zero])
          iterate 1 (refine Rg.ord_quiet (v := ?_) rfl (fun w' hS => ?_) trivial ?_; rotate_left; (clear hS; go_simp; with_reducible rfl); simp only [Act.put, List.setIfInBounds_toArray, List.set_cons_succ, List.set_cons_zero])
          refine Rg.ord_nil ?_
          have hNb2 := HNb.out
          rcases hcase with ⟨e8, e0, hlft⟩ | ⟨e9, hdd, eqf, eqn⟩ | ⟨e0, eqn, hdd, efn⟩
          · subst e8
            have hz : ((q : Int) == 0) = true := by rw [beq_iff_eq]; omega
            have HLe := hide (left_any HD10.out hfit')
            obtain ⟨R, hR⟩ : ∃ R, R = s'.room - s'.k.length := ⟨_, rfl⟩
            rw [← hR] at HLe hlft
            have hlt' : R < Nb := by omega
            have hd : decide (R < Nb) = true := decide_eq_true hlt'
            clear e0 hR hNb2 hput hfit' hroom' hroom hlft
            go_wp2_with fail
            refine HLe.out.mono ?_
            rintro y w11 ⟨rfl, m, rfl⟩
            go_wp2
            go_ret
            exact ⟨rfl, below_drewN HB10.out m⟩
          · subst e9
            have HDe := hide (dead_any HD10.out)
            rw [hdd] at HDe
            have hz : ((q : Int) == (f : Int)) = true := by rw [beq_iff_eq]; omega
            have hlt' : q < Nb := by omega
            have hd : decide (q < Nb) = true := decide_eq_true hlt'
            clear hNb2 hput hfit' hroom' hroom hdd eqf eqn
            go_wp2_with fail
            refine HDe.out.mono ?_
            rintro y w11 ⟨rfl, rfl⟩
            go_wp2
            go_ret
            exact ⟨rfl, HB10.out⟩
          · subst e0
            have HDe := hide (dead_any HD10.out)
            rw [hdd] at HDe
            have hz : ((q : Int) == (Nb : Int)) = true := by rw [beq_iff_eq]; omega
            have hlt' : Nb ≤ f := by omega
            have hd : decide (Nb ≤ f) = true := decide_eq_true hlt'
            clear hNb2 hput hfit' hroom' hroom hdd eqn efn
            go_wp2_with fail
            refine HDe.out.mono ?_
            rintro y w11 ⟨rfl, rfl⟩
            go_wp2
            go_ret
            exact ⟨rfl, HB10.out⟩
    · have hd40 : decide (40 < (Nb : Int)) = true := decide_eq_true (by omega)
      have hd40' : 40 < Nb := by omega
      go_wp2
      go_ret
      exact ⟨rfl, HB3.out⟩
end Go.Proofs.Ytahcokfoifdlmaa.Dk
