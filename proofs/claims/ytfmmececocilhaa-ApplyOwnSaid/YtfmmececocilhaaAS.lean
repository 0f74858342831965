/-
  The statement ApplyOwn, walked.
-/
import Derived.Test.YtfmmececocilhaaAR
namespace Go.Proofs.Ytfmmececocilhaa.Ap
open Go Go.RowKit Kt Lw Li Df Hu

/-- a row of texts that is written over -/
structure OwnT (w : World) (B : Nat) (v : Value) (n : Nat) : Prop where
  ex : ∃ l : Ls, l.length = n ∧ OwT w B tS v l
theorem put_grown (w : World) (g i : Nat) (u : Value) : w.grownBy (w.setCell ⟨g, i, none⟩ u) (some g) :=
  ⟨rfl, rfl, rfl, Nat.le_of_eq (World.size_setCell w _ _).symm, fun k _ hne => Below.heap_setCell w ⟨g, i, none⟩ u k (fun e => hne (by rw [e]))⟩
theorem OwnT.put {w : World} {B : Nat} {v : Value} {n : Nat} (h : OwnT w B v n) (g k : Nat) (s : List UInt8) : OwnT (w.setCell ⟨g, k, none⟩ (.string ⟨s.toArray⟩)) B v n := by
  obtain ⟨l, hl, ho⟩ := h.ex
  by_cases hg : v.ownBlock = some g
  · rcases ho.2 with ⟨rfl, _⟩ | ⟨g', cap', cur', rfl, _⟩
    · cases hg
    · simp only [Value.ownBlock, Option.some.injEq] at hg
      subst hg
      exact ⟨l.set k s, by rw [List.length_set]; exact hl, owt_set ho k s⟩
  · exact ⟨l, hl, World.ownsRow.kept ho (put_grown w g k _) (.inr hg)⟩
theorem OwnT.at {w : World} {B n : Nat} {v : Value} (h : OwnT w B v n) {k : Nat} (hk : k < n) : ∃ g cap x, v = .slice (some ⟨g, 0, none⟩) n cap ∧ B ≤ g ∧ w.cell? ⟨g, k, none⟩ = some (.string x) ∧ w.frozen? ⟨g, k, none⟩ = false ∧ n ≤ cap := by
  obtain ⟨l, rfl, ho⟩ := h.ex
  obtain ⟨g, cap, rfl, hgB, hgl⟩ := World.ownsRow.form (show w.ownsRow B tS 1 v l.length (texts l) from ho) (by omega)
  have ho' : w.ownsRow B tS 1 (.slice (some ⟨g, 0, none⟩) l.length cap) l.length (texts l) := ho
  have hc := World.ownsRow.cellAt ho' k (by omega)
  have hf := World.ownsRow.frozenAt ho' k
  have ht : (texts l)[k]? = some (.string ⟨(l[k]).toArray⟩) := by
    unfold texts; rw [List.getElem?_map, List.getElem?_eq_getElem hk]; rfl
  rw [ht] at hc
  obtain ⟨A, c, e, hv⟩ := OwT.vs ho
  injection e with e1 e2 e3
  subst e3
  have := hv.1
  rw [texts_len] at this
  exact ⟨g, cap, _, rfl, hgB, hc, hf, this⟩
theorem OwnT.form {w : World} {B n : Nat} {v : Value} (h : OwnT w B v n) : ∃ A c, v = .slice A n c := by
  obtain ⟨l, rfl, ho⟩ := h.ex
  obtain ⟨A, c, e, _⟩ := OwT.vs ho
  exact ⟨A, c, e⟩
/-- hunks whose lines are written over: each one's lines are a row of the call's own -/
structure OwnH (w : World) (B : Nat) (v : Value) (L : List Hk) : Prop where
  ex : ∃ V : List (Hk × Value), V.map (·.1) = L ∧ w.ownsRow B tH 5 v L.length (V.flatMap hkP) ∧ ∀ p ∈ V, OwnT w B p.2 p.1.lines.length
theorem OwnH.of {w : World} {B : Nat} {v : Value} {L : List Hk} (h : OwH w B v L) : OwnH w B v L := by
  obtain ⟨V, hV, hr, hi⟩ := h
  exact ⟨V, hV, hr, fun p hp => ⟨_, rfl, hi p hp⟩⟩
theorem OwnH.put {w : World} {B g : Nat} {v : Value} {L : List Hk} (h : OwnH w B v L) {u : Value} {n : Nat} (hu : OwnT w B u n) (hg : u.ownBlock = some g) (k : Nat) (x : List UInt8) : OwnH (w.setCell ⟨g, k, none⟩ (.string ⟨x.toArray⟩)) B v L := by
  obtain ⟨V, hV, hr, hi⟩ := h.ex
  obtain ⟨l0, _, ho⟩ := hu.ex
  refine ⟨V, hV, World.ownsRow.kept hr (put_grown w g k _) ?_, fun p hp => (hi p hp).put g k x⟩
  rcases hr.2 with ⟨rfl, _⟩ | ⟨g', cap', cur', rfl, _, hgg', _⟩
  · exact .inl rfl
  · right
    intro e
    have e2 : g' = g := by simpa [Value.ownBlock] using e
    subst e2
    rcases ho.2 with ⟨rfl, _⟩ | ⟨g2, cap2, cur2, rfl, _, hgg2, _⟩
    · cases hg
    · have e3 : g2 = g' := by simpa [Value.ownBlock] using hg
      subst e3
      rw [hgg'] at hgg2
      simp [tS, tH] at hgg2
theorem OwnH.at {w : World} {B : Nat} {v : Value} {L : List Hk} (h : OwnH w B v L) {k : Nat} (hk : k < L.length) :
    ∃ g cap e u, v = .slice (some ⟨g, 0, none⟩) L.length cap ∧ L[k]? = some e ∧ w.cell? ⟨g, k * 5 + 4, none⟩ = some u ∧ OwnT w B u e.lines.length ∧ L.length ≤ cap := by
  obtain ⟨V, rfl, hr, hi⟩ := h.ex
  rw [List.length_map] at hk
  obtain ⟨g, cap, rfl, hgB, hgl⟩ := World.ownsRow.form hr (by rw [List.length_map]; omega)
  have hp : V[k]? = some V[k] := List.getElem?_eq_getElem hk
  have hc := World.ownsRow.cellAt hr (5 * k + 4) (by rw [List.length_map]; omega)
  rw [flat_at hkP 5 hkP_len V k 4 _ hp (by omega)] at hc
  refine ⟨g, cap, (V[k]).1, (V[k]).2, rfl, by rw [List.getElem?_map, hp]; rfl, ?_, hi _ (List.getElem_mem _), ?_⟩
  · rw [Nat.mul_comm]; exact hc
  · rcases hr.2 with ⟨h', _⟩ | ⟨g2, cap2, cur2, h', _, _, hnc, _⟩
    · cases h'
    · injection h' with _ _ h3
      rw [h3]; exact hnc
theorem OwnH.form {w : World} {B : Nat} {v : Value} {L : List Hk} (h : OwnH w B v L) : ∃ A c, v = .slice A L.length c := by
  obtain ⟨V, rfl, hr, _⟩ := h.ex
  rcases hr.2 with ⟨rfl, h0⟩ | ⟨g, cap, cur, rfl, _⟩
  · exact ⟨none, 0, by rw [h0]⟩
  · exact ⟨_, cap, rfl⟩
set_option maxRecDepth 100000 in
set_option maxHeartbeats 2000000 in
theorem own_long (n k m : Nat) (A A' : Option Addr) (c c' : Nat) (w : World) (h : 24 < n ∨ 24 < k) :
    Calls Try.prog 7 #[.slice A n c, .slice A' k c', .int .u8 (m : Int)] w fun y w' => y = .returned (.bool true) ∧ Below w.heap.size w w' := by
  have Haw := hide (awake_any w)
  by_cases h1 : 24 < n
  · have d1 : decide ((24 : Int) < (n : Int)) = true := decide_eq_true (by omega)
    clear h
    go_enter Try.func7, Try.ntmps7
    go_wp2_with fail
    refine Haw.out.mono ?_
    rintro y w1 ⟨rfl, hb1⟩
    go_wp2
    go_ret
    exact ⟨rfl, hb1⟩
  · have d1 : decide ((24 : Int) < (n : Int)) = false := decide_eq_false (by omega)
    have d2 : decide ((24 : Int) < (k : Int)) = true := decide_eq_true (by omega)
    clear h
    go_enter Try.func7, Try.ntmps7
    go_wp2_with fail
    refine Haw.out.mono ?_
    rintro y w1 ⟨rfl, hb1⟩
    go_wp2
    go_ret
    exact ⟨rfl, hb1⟩
set_option maxRecDepth 100000 in
set_option maxHeartbeats 4000000 in
theorem lawOwn_any (a b : Ls) (m : Nat) (A A' : Option Addr) (c c' : Nat) (P P' : Nat → Prop) (w : World) (hs : Vs w P A c (texts a)) (hs' : Vs w P' A' c' (texts b))
    (hxa : ∀ x ∈ a, x.length ≤ 140737488351232) (hxb : ∀ x ∈ b, x.length ≤ 140737488351232) :
    Calls Try.prog 7 #[.slice A a.length c, .slice A' b.length c', .int .u8 (m : Int)] w fun y w' => y = .returned (.bool true) ∧ Below w.heap.size w w' := by
  by_cases hlen : 24 < a.length ∨ 24 < b.length
  · exact own_long a.length b.length m A A' c c' w hlen
  have ha : a.length ≤ 24 := by omega
  have hb : b.length ≤ 24 := by omega
  obtain ⟨r, hr⟩ : ∃ r, r = m % 10 := ⟨_, rfl⟩
  have hrm : (m : Int) % 10 = (r : Int) := by omega
  have hr5 : r ≤ 10 := by omega
  obtain ⟨g1, _, g3, _, _⟩ := between_appl a b r
  obtain ⟨f1, f2, f3⟩ := bt_facts a b r (by omega) (by omega) hxa hxb
  have Haw := hide (awake_any w)
  have Hs := hide hs.bound
  have Hs' := hide hs'.bound
  have HBt := hide (fun w1 (hb1 : Below w.heap.size w w1) => between_yes a b r A A' c c' _ _ w1 (Lw.Vs.below hs.bound hb1) (Lw.Vs.below hs'.bound hb1) (by omega) (by omega) (by omega) hxa hxb)
  obtain ⟨HL, hHL⟩ : ∃ HL, HL = mkHs a r 0 (D a b) := ⟨_, rfl⟩
  rw [← hHL] at g1 g3 f1 f2 f3 HBt
  have hTn : turnL HL = HL.map hturn := by rw [turnL, if_pos g3]
  have HAp := hide (fun (w1 : World) (Al : Option Addr) (cl : Nat) (hb1 : Below w.heap.size w w1) (hk : Hks w1 Al cl HL) => apply_any a HL A Al c cl _ w1 (Lw.Vs.below hs.bound hb1) hk (by omega) (fun h hh => (f2 h hh).1) (by omega))
  rw [g1] at HAp
  have HTu := hide (fun (w1 : World) (Al : Option Addr) (cl : Nat) (hk : Hks w1 Al cl HL) => aturn_any HL Al cl w1 hk (by omega) (fun h hh => (f2 h hh).1) (fun h hh x hx => Nat.le_trans ((f2 h hh).2.2 x hx) (by omega)))
  rw [hTn] at HTu
  obtain ⟨TL, hTL⟩ : ∃ TL, TL = HL.map hturn := ⟨_, rfl⟩
  rw [← hTL] at HTu f3
  have hTl : TL.length = HL.length := by rw [hTL, List.length_map]
  have Hf3 := hide (fun h hh => (f3 h hh).2.1)
  have HX := hide (fun (w1 : World) (Al : Option Addr) (cl : Nat) (hb1 : Below w.heap.size w w1) (hv : Vs w1 (fun b => b < w1.heap.size) Al cl (texts b)) => texts_any b b Al A' cl c' _ _ w1 hv (Lw.Vs.below hs'.bound hb1) (by omega))
  have HY := hide (fun (w1 : World) (Al : Option Addr) (cl : Nat) (hb1 : Below w.heap.size w w1) (hv : Vs w1 (fun b => b < w1.heap.size) Al cl (texts a)) => texts_any a a A Al c cl _ _ w1 (Lw.Vs.below hs.bound hb1) hv (by omega))
  rw [decide_eq_true rfl] at HX HY
  obtain ⟨n, hn⟩ : ∃ n, n = a.length := ⟨_, rfl⟩
  obtain ⟨k, hk⟩ : ∃ k, k = b.length := ⟨_, rfl⟩
  obtain ⟨q, hq⟩ : ∃ q, q = HL.length := ⟨_, rfl⟩
  rw [← hn] at HBt HAp HY ha ⊢
  rw [← hk] at HBt HX hb ⊢
  rw [← hq] at HAp HTu f1
  have Hn := hide hn
  have Hkb := hide hk
  have Hq := hide hq
  have HTq := hide (show TL.length = q by rw [hTl, hq])
  have d1 : decide ((24 : Int) < (n : Int)) = false := decide_eq_false (by omega)
  have d2 : decide ((24 : Int) < (k : Int)) = false := decide_eq_false (by omega)
  clear hs hs' hxa hxb hlen hr g1 g3 f2 f3 hHL hTn hTL hTl hn hk hq Hs'
  go_enter Try.func7, Try.ntmps7
  go_wp2_with fail
  refine Haw.out.mono ?_
  rintro y w1 ⟨rfl, hb1⟩
  have Hb1 := hide hb1
  clear hb1 Haw
  go_wp2_with fail
  refine (HBt.out w1 Hb1.out).mono ?_
  rintro y w2 ⟨v2, rfl, hv2, hb2⟩
  obtain ⟨Al, cl, rfl, hk2⟩ := hv2.hks
  have Hb2 := hide (Hb1.out.trans (hb2.mono Hb1.out.size))
  have Hk2 := hide hk2
  simp only [← Hq.out]
  clear hv2 hb2 hk2 HBt Hb1
  go_wp2_with (refine wpList_catT rfl (.tmp 38) (.tmp 39) 22 rfl Try.underlying22 infoText w2.heap.size w2 _ [] a _ A c rfl (by rw [← Hn.out]; rfl) (OwT.lit w2 w2.heap.size 9 [] _ rfl (Nat.le_refl _) (by simp [maxLen])) (Lw.Vs.below Hs.out (Hb2.out.alloc Hb2.out.size _)) (by rw [← Hn.out]; simp; omega) ((Below.refl _ _).alloc (Nat.le_refl _) _) (by simp) ?_
               intro v3 w3 hown3 hb3 _
               obtain ⟨A3, c3, rfl, hx3⟩ := hown3.vs
               have Hx3 := hide hx3.bound
               have Hk3 := hide (Hk2.out.keep hb3)
               have Hb3 := hide (Hb2.out.trans (hb3.mono Hb2.out.size))
               have HA3 := hide (HAp.out w3 Al cl Hb3.out Hk3.out)
               simp only [List.nil_append, ← Hn.out]
               clear hown3 hb3 hx3 Hk2 Hb2)
  refine HA3.out.mono ?_
  rintro y w4 ⟨v4, rfl, hv4, hb4⟩
  have Hx4 := hide (show OwnT w4 w3.heap.size v4 k from ⟨b, Hkb.out.symm, hv4⟩)
  obtain ⟨A4, c4, rfl⟩ := Hx4.out.form
  have Hb4 := hide hb4
  clear hv4 hb4 HA3
  simp only [show ((0 : Nat) : Int) = 0 from rfl]
  go_wp2
  go_loopw [13] (fun i wr => ∃ j : Nat, j ≤ k ∧ i = .int .i64 j ∧ Hid (OwnT wr w3.heap.size (.slice A4 k c4) k) ∧ Hid (Below w3.heap.size w3 wr)) (fun i _ => k - (intOf i).toNat)
  case atStart => exact ⟨0, Nat.zero_le _, rfl, hide Hx4.out, hide Hb4.out⟩
  case round =>
    obtain ⟨j, hj, rfl, Hxr, Hbr⟩ := hrel
    by_cases hlt : j < k
    · obtain ⟨g, cap, x, hv, hgB, hc, hf, hcap⟩ := Hxr.out.at hlt
      injection hv with hv1 _ hv2
      subst hv1 hv2
      have HP := hide (Hxr.out.put g j [63])
      have HBp := hide (Hbr.out.trans (below_put (Below.refl w3.heap.size wr) hgB (i := j) (.string ⟨[63].toArray⟩)))
      go_wp2
      exact ⟨⟨j + 1, by omega, by go_num, hide HP.out, hide HBp.out⟩, by simp [intOf]; omega⟩
    · obtain rfl : j = k := by omega
      have Hbw := hide (Hb3.out.trans (Hbr.out.mono Hb3.out.size))
      have HT5 := hide (HTu.out wr Al cl (Hk3.out.keep Hbr.out))
      clear Hxr HTu
      go_wp2_with fail
      refine HT5.out.mono ?_
      rintro y w5 ⟨v5, rfl, hv5, hb5⟩
      have Hm5 := hide (OwnH.of (OwH.lower hv5 Hbr.out.size))
      obtain ⟨A5, c5, rfl⟩ := Hm5.out.form
      have Hb5 := hide (Hbr.out.trans (hb5.mono Hbr.out.size))
      simp only [HTq.out] at Hm5 ⊢
      clear hv5 hb5 HT5 Hbr Hbw
      go_wp2
      go_loopw [15] (fun i wr' => ∃ jj : Nat, jj ≤ q ∧ i = .int .i64 jj ∧ Hid (OwnH wr' w3.heap.size (.slice A5 q c5) TL) ∧ Hid (Below w3.heap.size w3 wr')) (fun i _ => q - (intOf i).toNat)
      case atStart => exact ⟨0, Nat.zero_le _, rfl, hide Hm5.out, hide Hb5.out⟩
      case round =>
        obtain ⟨jj, hjj, rfl, Hmr, Hbr⟩ := hrel
        by_cases hl2 : jj < q
        · obtain ⟨g0, cap0, e0, u0, hv0, hke0, _, _, _⟩ := Hmr.out.at (k := jj) (by rw [HTq.out]; exact hl2)
          have hnl := Hf3.out e0 (List.mem_of_getElem? hke0)
          have Hke := hide hke0
          clear hke0 hv0
          go_wp2
          go_loopw [16] (fun i wr2 => ∃ kk : Nat, kk ≤ e0.lines.length ∧ i = .int .i64 kk ∧ Hid (OwnH wr2 w3.heap.size (.slice A5 q c5) TL) ∧ Hid (Below w3.heap.size w3 wr2)) (fun i _ => e0.lines.length - (intOf i).toNat)
          case atStart => exact ⟨0, Nat.zero_le _, rfl, hide Hmr.out, hide Hbr.out⟩
          case round =>
            obtain ⟨kk, hkk, rfl, Hm2, Hb2⟩ := hrel
            obtain ⟨g1, cap1, e1, u1, hv1, hke1, hc1, hu1, hcp1⟩ := Hm2.out.at (k := jj) (by rw [HTq.out]; exact hl2)
            rw [Hke.out] at hke1
            injection hke1 with hke1
            subst hke1
            injection hv1 with hv11 _ hv12
            subst hv11 hv12
            rw [HTq.out] at hcp1
            obtain ⟨Au, cu, rfl⟩ := hu1.form
            obtain ⟨nl, hnle⟩ : ∃ nl, nl = e0.lines.length := ⟨_, rfl⟩
            rw [← hnle] at hnl hkk hu1 hc1 ⊢
            by_cases hl3 : kk < nl
            · obtain ⟨g, cap, x, hv, hgB, hc, hf, hcap⟩ := hu1.at hl3
              injection hv with hva _ hvb
              subst hva hvb
              have HP := hide (Hm2.out.put hu1 rfl kk [63])
              have HBp := hide (Hb2.out.trans (below_put (Below.refl w3.heap.size _) hgB (i := kk) (.string ⟨[63].toArray⟩)))
              clear hu1
              go_wp2
              exact ⟨⟨kk + 1, by omega, by go_num, hide HP.out, hide HBp.out⟩, by simp [intOf]; omega⟩
            · obtain rfl : kk = nl := by omega
              clear hu1
              go_wp2
              exact ⟨⟨jj + 1, by omega, by go_num, hide Hm2.out, hide Hb2.out⟩, by simp [intOf]; omega⟩
        · obtain rfl : jj = q := by omega
          have Hb6 := hide (Hb3.out.trans (Hbr.out.mono Hb3.out.size))
          have HA6 := hide (HAp.out _ Al cl Hb6.out (Hk3.out.keep Hbr.out))
          have Hx6 := hide (vs_keep Hx3.out Hbr.out)
          clear Hmr HAp Hbr Hx3 Hk3
          go_wp2_with fail
          refine HA6.out.mono ?_
          rintro y w7 ⟨v7, rfl, hv7, hb7⟩
          obtain ⟨A7, c7, rfl, hy7⟩ := hv7.vs
          have Hb7 := hide (Hb6.out.trans (hb7.mono Hb6.out.size))
          have HY7 := hide (HY.out w7 A3 c3 Hb7.out (vs_keep Hx6.out hb7))
          have Hy7 := hide hy7.bound
          simp only [← Hkb.out, show ((0 : Nat) : Int) = 0 from rfl]
          clear hv7 hb7 hy7 HA6 Hb6 Hx6 HY
          go_wp2_with fail
          refine HY7.out.mono ?_
          rintro y w8 ⟨rfl, hb8⟩
          have Hb8 := hide (Hb7.out.trans (hb8.mono Hb7.out.size))
          have HX8 := hide (HX.out w8 A7 c7 Hb8.out (vs_keep Hy7.out hb8))
          clear hb8 HY7 Hb7 Hy7 HX
          go_wp2_with fail
          refine HX8.out.mono ?_
          rintro y w9 ⟨rfl, hb9⟩
          have Hb9 := hide (Hb8.out.trans (hb9.mono Hb8.out.size))
          clear hb9 HX8 Hb8
          go_wp2
          go_ret
          exact ⟨rfl, Hb9.out⟩
end Go.Proofs.Ytfmmececocilhaa.Ap
