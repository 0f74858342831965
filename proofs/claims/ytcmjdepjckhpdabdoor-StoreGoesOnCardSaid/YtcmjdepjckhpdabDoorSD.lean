/-
  A disk in memory: what Append, Cut and Copy come to.
-/
import Derived.Test.YtcmjdepjckhpdabDoorQZB
namespace Go.Proofs.YtcmjdepjckhpdabDoor.Dk
open Go Go.RowKit Kt Kg Wr

theorem run_front (w : World) (A : Option Addr) (n c k : Nat) (hk : k ≤ n) (hn : n ≤ c) :
    (Instr.slice 38 (.slice A n c) none (some (.int .i64 (k : Int))) none).run Tryd.prog w = .ok (.slice A k c) w := by
  have hu := run_underlying Tryd.underlying38
  have hkc : k ≤ c := Nat.le_trans hk hn
  have hck : ¬ c < k := Nat.not_lt.2 hkc
  have hz : ∀ a : Addr, a.add 0 = a := fun a => by unfold Addr.add; split <;> simp_all
  cases A with
  | none =>
    go_simp
  | some ad =>
    go_simp
theorem run_three (w : World) (A : Option Addr) (n c k : Nat) (hk : k ≤ n) (hn : n ≤ c) :
    (Instr.slice 38 (.slice A n c) none (some (.int .i64 (k : Int))) (some (.int .i64 (k : Int)))).run Tryd.prog w = .ok (.slice A k k) w := by
  have hu := run_underlying Tryd.underlying38
  have hkc : k ≤ c := Nat.le_trans hk hn
  have hck : ¬ c < k := Nat.not_lt.2 hkc
  have hz : ∀ a : Addr, a.add 0 = a := fun a => by unfold Addr.add; split <;> simp_all
  cases A with
  | none =>
    go_simp
  | some ad =>
    go_simp

theorem lt_drew {a b k : Nat} (h : a = b) (hk : k < b) : k < a := h ▸ hk
abbrev tP : TypeId := 27
abbrev tB : TypeId := 38
abbrev more (S : Nat → Prop) (w w' : World) : Nat → Prop := fun k => (S k ∨ k = w.heap.size) ∧ k < w'.heap.size
theorem grown_oth {S : Nat → Prop} {g : Nat} {w w' : World} {v : Value} {l : List UInt8} (ho : OwnS w (fun b => S b ∧ b ≠ g) tU8 v l) (hg : w.grownBy w' v.ownBlock) : Oth (fun b => S b ∧ b ≠ g) w w' :=
  Oth.of_grown hg fun _ e => (ho.block e).1
theorem grown_own {S : Nat → Prop} {g : Nat} {w w' : World} {v' : Value} {l : List UInt8} (hlt : g < w.heap.size) (h : OwnS w' (fun k => (S k ∧ k ≠ g) ∨ k = w.heap.size) tU8 v' l) : OwnS w' (fun b => more S w w' b ∧ b ≠ g) tU8 v' l :=
  h.imp fun b hb hS => hS.elim (fun x => ⟨⟨.inl x.1, hb⟩, x.2⟩) fun x => ⟨⟨.inr x, hb⟩, by omega⟩
theorem own_put {S : Nat → Prop} {g i : Nat} {w : World} {v : Value} {l : List UInt8} {u : Value} (h : OwnS w (fun b => S b ∧ b ≠ g) tU8 v l) : OwnS (w.setCell ⟨g, i, none⟩ u) (fun b => S b ∧ b ≠ g) tU8 v l :=
  h.move fun b hb _ => Below.heap_setCell w ⟨g, i, none⟩ u b hb.2

set_option maxHeartbeats 2000000 in
set_option maxRecDepth 100000 in
theorem put_full (w : World) (S : Nat → Prop) (g bb bd : Nat) (s : St) (bs : List UInt8) (A : Option Addr) (c : Nat) (Pb : Nat → Prop) (hD : DkIn w S g s) (hf : s.fit) (hd : s.dead = false) (hrb : Row w bb tB [.slice A bs.length c]) (hrd : Row w bd tP [.pointer (some ⟨g, 0, none⟩)]) (hnb : ¬ S bb) (hnd : ¬ S bd) (hs : Sl w Pb A c bs) (hfull : s.room < s.k.length + bs.length) :
    Calls Tryd.prog 36 #[.pointer (some ⟨bb, 0, none⟩), .pointer (some ⟨bd, 0, none⟩)] w fun y w' => y = .returned (.int .i64 8) ∧ ∃ S', DkIn w' S' g s ∧ Oth S w w' ∧ ∀ k, S' k → S k ∨ w.heap.size ≤ k := by
  have HX := hide hD
  have HL := hide (fun i : Nat => left_any (show DkIn (w.drewN i) S g s from hD) hf)
  obtain ⟨v, hr, ho, hg, hb⟩ := hD
  obtain ⟨h1, h2, h3, h4⟩ := hf
  obtain ⟨A0, c0, rfl, hs0⟩ := ho.sl
  obtain ⟨N, hN⟩ : ∃ N, N = s.k.length := ⟨_, rfl⟩
  obtain ⟨n, hn⟩ : ∃ n, n = bs.length := ⟨_, rfl⟩
  obtain ⟨M, hM⟩ : ∃ N, N = s.room := ⟨_, rfl⟩
  obtain ⟨F, hF⟩ : ∃ F, F = s.fuse := ⟨_, rfl⟩
  have HM := hide hM
  rw [hd] at hr
  rw [← hN] at hr h1 ho HL
  rw [← hn] at hrb
  rw [← hM] at hr h1 h2 HL
  rw [← hF] at hr h3 h4
  obtain ⟨L, hL⟩ : ∃ L, L = M - N := ⟨_, rfl⟩
  rw [← hL] at HL
  have hcc : L < n := by rw [← hM, ← hN, ← hn] at hfull; omega
  have hc : decide (L < n) = true := decide_eq_true hcc
  clear hfull hL hM hN hn hF h1 h2 h3 h4
  have HB := hide hrb
  have HDd := hide hrd
  have HG := hide hr
  have HO := hide ho
  have HS := hide hs
  have Hg := hide hg
  have Hb := hide hb
  have Hnb := hide hnb
  have Hnd := hide hnd
  have Hlt := hide hr.lt
  clear hrb hrd hr ho hs0 hs hg hb hnb hnd
  go_enter Tryd.func36, Tryd.ntmps36
  have cb : w.cell? ⟨bb, 0, none⟩ = some (.slice A n c) := HB.out.cell 0
  have cd : w.cell? ⟨bd, 0, none⟩ = some (.pointer (some ⟨g, 0, none⟩)) := HDd.out.cell 0
  have k0 := HG.out.cell 0
  have k1 := HG.out.cell 1
  have k2 := HG.out.cell 2
  have k3 := HG.out.cell 3
  have f0 := HG.out.free 0
  have f1 := HG.out.free 1
  have f2 := HG.out.free 2
  have f3 := HG.out.free 3
  simp only [List.getElem?_cons_zero, List.getElem?_cons_succ] at k0 k1 k2 k3
  go_wp2
  refine Rg.wp_region_ord (fun w' => w'.cell? ⟨bb, 0, none⟩ = some (.slice A n c) ∧ w'.cell? ⟨bd, 0, none⟩ = some (.pointer (some ⟨g, 0, none⟩)) ∧ w'.cell? ⟨g, 0, none⟩ = some (.slice A0 N c0) ∧ w'.cell? ⟨g, 2, none⟩ = some (.int .i64 F)) [(0, true), (1, true), (2, true), (3, false), (4, true)] (by kernel_rfl) (by kernel_rfl) ?_
  simp only [Rg.pick, List.map_cons, List.map_nil, List.getD_cons_zero, List.getD_cons_succ]
  iterate 3 (refine Rg.ord_quiet (v := ?_) rfl (fun w' hS => ?_) ⟨cb, cd, k0, k2⟩ ?_; rotate_left; (obtain ⟨s1, s2, s3, s4⟩ := hS; go_simp; with_reducible rfl); simp only [Act.put, List.setIfInBounds_toArray, List.set_cons_succ, List.set_cons_zero])
  refine Rg.ord_loud rfl (fun K hK => ?_)
  go_simp
  refine (HL.out 1).mono ?_
  rintro y w1 ⟨rfl, m, rfl⟩
  refine hK _ _ (fun _ => ⟨cb, cd, k0, k2⟩) ?_
  clear hK K
  iterate 1 (refine Rg.ord_quiet (v := ?_) rfl (fun w' hS => ?_) ⟨cb, cd, k0, k2⟩ ?_; rotate_left; (obtain ⟨s1, s2, s3, s4⟩ := hS; go_simp; with_reducible rfl); simp only [Act.put, List.setIfInBounds_toArray, List.set_cons_succ, List.set_cons_zero])
  refine Rg.ord_nil ?_
  clear HL
  go_wp2
  go_ret
  exact ⟨rfl, S, HX.out, ((Oth.refl S w).drewN 1).drewN m, fun k hk => .inl hk⟩
set_option maxHeartbeats 2000000 in
set_option maxRecDepth 100000 in
theorem put_tears (w : World) (S : Nat → Prop) (g bb bd : Nat) (s : St) (bs : List UInt8) (A : Option Addr) (c : Nat) (Pb : Nat → Prop) (hD : DkIn w S g s) (hf : s.fit) (hd : s.dead = false) (hrb : Row w bb tB [.slice A bs.length c]) (hrd : Row w bd tP [.pointer (some ⟨g, 0, none⟩)]) (hnb : ¬ S bb) (hnd : ¬ S bd) (hs : Sl w Pb A c bs) (hfull : ¬ s.room < s.k.length + bs.length) (h1f : s.fuse ≠ -1) (h2f : s.fuse < (bs.length : Int)) :
    Calls Tryd.prog 36 #[.pointer (some ⟨bb, 0, none⟩), .pointer (some ⟨bd, 0, none⟩)] w fun y w' => y = .returned (.int .i64 9) ∧ ∃ S', DkIn w' S' g ⟨s.k ++ bs.take s.fuse.toNat, s.room, -1, true⟩ ∧ Oth S w w' ∧ ∀ k, S' k → S k ∨ w.heap.size ≤ k := by
  have HL := hide (fun i : Nat => left_any (show DkIn (w.drewN i) S g s from hD) hf)
  obtain ⟨v, hr, ho, hg, hb⟩ := hD
  obtain ⟨h1, h2, h3, h4⟩ := hf
  obtain ⟨A0, c0, rfl, hs0⟩ := ho.sl
  obtain ⟨N, hN⟩ : ∃ N, N = s.k.length := ⟨_, rfl⟩
  obtain ⟨n, hn⟩ : ∃ n, n = bs.length := ⟨_, rfl⟩
  obtain ⟨M, hM⟩ : ∃ N, N = s.room := ⟨_, rfl⟩
  obtain ⟨F, hF⟩ : ∃ F, F = s.fuse := ⟨_, rfl⟩
  have HM := hide hM
  rw [hd] at hr
  rw [← hN] at hr h1 ho HL
  rw [← hn] at hrb
  rw [← hM] at hr h1 h2 HL
  rw [← hF] at hr h3 h4
  obtain ⟨L, hL⟩ : ∃ L, L = M - N := ⟨_, rfl⟩
  rw [← hL] at HL
  have hcc : ¬ L < n := by rw [← hM, ← hN, ← hn] at hfull; omega
  have hc : decide (L < n) = false := decide_eq_false hcc
  rw [← hF] at h1f h2f ⊢
  rw [← hn] at h2f
  obtain ⟨f, rfl⟩ : ∃ f : Nat, F = (f : Int) := ⟨F.toNat, by omega⟩
  have hq1 : ((f : Int) != -1) = true := by rw [bne_iff_ne]; exact h1f
  have hfn : f ≤ n := by omega
  have hq3 : f < n := by omega
  have hq2 : decide (f < n) = true := decide_eq_true hq3
  have Hfr := hide (fun w => run_front w A n c f hfn (by rw [hn]; exact hs.1))
  have Htk := hide (show (bs.take f).length = f by rw [List.length_take]; omega)
  have Hsl := hide (fun wz (h : Sl wz Pb A c bs) => show Sl wz Pb A c (bs.take f) from ⟨by have := h.1; rw [List.length_take]; omega, fun h0 => by
    have hlt : (bs.take f).length ≤ bs.length := by rw [List.length_take]; omega
    obtain ⟨b, o, h1, h2, h3⟩ := h.2 (by omega)
    refine ⟨b, o, h1, h2, fun j hj => ?_⟩
    rw [h3 j (by omega)]
    have hjf : j < f := by rw [List.length_take] at hj; omega
    simp [List.getD_eq_getElem?_getD, hjf]⟩)
  have Hln := hide (show s.k.length + (bs.take f).length ≤ 70368744177664 by have := Htk.out; rw [← hM, ← hN, ← hn] at hfull; omega)
  have htn : (f : Int).toNat = f := by omega
  rw [htn]
  clear htn hfull hL hN hn hF h1f h2f h1 h2 h3 h4
  have HB := hide hrb
  have HDd := hide hrd
  have HG := hide hr
  have HO := hide ho
  have HS := hide hs
  have Hg := hide hg
  have Hb := hide hb
  have Hnb := hide hnb
  have Hnd := hide hnd
  have Hlt := hide hr.lt
  clear hrb hrd hr ho hs0 hs hg hb hnb hnd
  go_enter Tryd.func36, Tryd.ntmps36
  have cb : w.cell? ⟨bb, 0, none⟩ = some (.slice A n c) := HB.out.cell 0
  have cd : w.cell? ⟨bd, 0, none⟩ = some (.pointer (some ⟨g, 0, none⟩)) := HDd.out.cell 0
  have k0 := HG.out.cell 0
  have k1 := HG.out.cell 1
  have k2 := HG.out.cell 2
  have k3 := HG.out.cell 3
  have f0 := HG.out.free 0
  have f1 := HG.out.free 1
  have f2 := HG.out.free 2
  have f3 := HG.out.free 3
  simp only [List.getElem?_cons_zero, List.getElem?_cons_succ] at k0 k1 k2 k3
  go_wp2
  refine Rg.wp_region_ord (fun w' => w'.cell? ⟨bb, 0, none⟩ = some (.slice A n c) ∧ w'.cell? ⟨bd, 0, none⟩ = some (.pointer (some ⟨g, 0, none⟩)) ∧ w'.cell? ⟨g, 0, none⟩ = some (.slice A0 N c0) ∧ w'.cell? ⟨g, 2, none⟩ = some (.int .i64 (f : Int))) [(0, true), (1, true), (2, true), (3, false), (4, true)] (by kernel_rfl) (by kernel_rfl) ?_
  simp only [Rg.pick, List.map_cons, List.map_nil, List.getD_cons_zero, List.getD_cons_succ]
  iterate 3 (refine Rg.ord_quiet (v := ?_) rfl (fun w' hS => ?_) ⟨cb, cd, k0, k2⟩ ?_; rotate_left; (obtain ⟨s1, s2, s3, s4⟩ := hS; go_simp; with_reducible rfl); simp only [Act.put, List.setIfInBounds_toArray, List.set_cons_succ, List.set_cons_zero])
  refine Rg.ord_loud rfl (fun K hK => ?_)
  go_simp
  refine (HL.out 1).mono ?_
  rintro y w1 ⟨rfl, m, rfl⟩
  refine hK _ _ (fun _ => ⟨cb, cd, k0, k2⟩) ?_
  clear hK K
  iterate 1 (refine Rg.ord_quiet (v := ?_) rfl (fun w' hS => ?_) ⟨cb, cd, k0, k2⟩ ?_; rotate_left; (obtain ⟨s1, s2, s3, s4⟩ := hS; go_simp; with_reducible rfl); simp only [Act.put, List.setIfInBounds_toArray, List.set_cons_succ, List.set_cons_zero])
  refine Rg.ord_nil ?_
  clear HL
  go_wp2
  obtain ⟨w1, hw⟩ : ∃ z, z = World.drewN (World.drewN w 1) m := ⟨_, rfl⟩
  have HB' : Row w1 bb tB [.slice A n c] := by rw [hw]; exact HB.out
  have HDd' : Row w1 bd tP [.pointer (some ⟨g, 0, none⟩)] := by rw [hw]; exact HDd.out
  have HG' : Row w1 g tD [.slice A0 N c0, .int .i64 (M : Int), .int .i64 (f : Int), .bool false] := by rw [hw]; exact HG.out
  have HO' : OwnS w1 (fun b => S b ∧ b ≠ g) tU8 (.slice A0 N c0) s.k := by rw [hw]; exact HO.out
  have HS' : Sl w1 Pb A c bs := by rw [hw]; exact HS.out
  have Ho' : Oth S w w1 := by rw [hw]; exact ((Oth.refl S w).drewN 1).drewN m
  have hz' : w1.heap.size = w.heap.size := by rw [hw]; exact rfl
  rw [← hw]
  clear cb cd k0 k1 k2 k3 f0 f1 f2 f3
  clear hw HB HDd HG HO HS
  have HB := hide HB'
  have HDd := hide HDd'
  have HG := hide HG'
  have HO := hide HO'
  have HS := hide HS'
  have HoX := hide Ho'
  have HZ := hide hz'
  clear HB' HDd' HG' HO' HS' Ho' hz'
  have cb : w1.cell? ⟨bb, 0, none⟩ = some (.slice A n c) := HB.out.cell 0
  have cd : w1.cell? ⟨bd, 0, none⟩ = some (.pointer (some ⟨g, 0, none⟩)) := HDd.out.cell 0
  have k0 := HG.out.cell 0
  have k1 := HG.out.cell 1
  have k2 := HG.out.cell 2
  have k3 := HG.out.cell 3
  have f0 := HG.out.free 0
  have f1 := HG.out.free 1
  have f2 := HG.out.free 2
  have f3 := HG.out.free 3
  simp only [List.getElem?_cons_zero, List.getElem?_cons_succ] at k0 k1 k2 k3
  go_quiet (fail)
  obtain ⟨w2, hw⟩ : ∃ z, z = World.drewN w1 nq := ⟨_, rfl⟩
  have HB' : Row w2 bb tB [.slice A n c] := by rw [hw]; exact HB.out
  have HDd' : Row w2 bd tP [.pointer (some ⟨g, 0, none⟩)] := by rw [hw]; exact HDd.out
  have HG' : Row w2 g tD [.slice A0 N c0, .int .i64 (M : Int), .int .i64 (f : Int), .bool false] := by rw [hw]; exact HG.out
  have HO' : OwnS w2 (fun b => S b ∧ b ≠ g) tU8 (.slice A0 N c0) s.k := by rw [hw]; exact HO.out
  have HS' : Sl w2 Pb A c bs := by rw [hw]; exact HS.out
  have Ho' : Oth S w w2 := by rw [hw]; exact HoX.out.drewN _
  have hz' : w2.heap.size = w.heap.size := by rw [hw]; exact HZ.out
  rw [← hw]
  clear cb cd k0 k1 k2 k3 f0 f1 f2 f3
  clear hw HB HDd HG HO HS HoX HZ
  have HB := hide HB'
  have HDd := hide HDd'
  have HG := hide HG'
  have HO := hide HO'
  have HS := hide HS'
  have HoX := hide Ho'
  have HZ := hide hz'
  clear HB' HDd' HG' HO' HS' Ho' hz'
  have cb : w2.cell? ⟨bb, 0, none⟩ = some (.slice A n c) := HB.out.cell 0
  have cd : w2.cell? ⟨bd, 0, none⟩ = some (.pointer (some ⟨g, 0, none⟩)) := HDd.out.cell 0
  have k0 := HG.out.cell 0
  have k1 := HG.out.cell 1
  have k2 := HG.out.cell 2
  have k3 := HG.out.cell 3
  have f0 := HG.out.free 0
  have f1 := HG.out.free 1
  have f2 := HG.out.free 2
  have f3 := HG.out.free 3
  simp only [List.getElem?_cons_zero, List.getElem?_cons_succ] at k0 k1 k2 k3
  go_wp2
  have Hlt2 := hide (show g < w2.heap.size from by have := HZ.out; have := Hlt.out; omega)
  refine Rg.wp_region_ord (fun w' => w'.cell? ⟨bb, 0, none⟩ = some (.slice A n c) ∧ w'.cell? ⟨bd, 0, none⟩ = some (.pointer (some ⟨g, 0, none⟩)) ∧ w'.cell? ⟨g, 0, none⟩ = some (.slice A0 N c0) ∧ w'.cell? ⟨g, 2, none⟩ = some (.int .i64 (f : Int))) [(0, true), (1, true), (2, true), (3, true), (4, true), (5, true), (6, true), (7, true), (8, true), (9, true), (10, true), (11, false), (12, true), (13, true), (14, false)] (by kernel_rfl) (by kernel_rfl) ?_
  simp only [Rg.pick, List.map_cons, List.map_nil, List.getD_cons_zero, List.getD_cons_succ]
  iterate 10 (refine Rg.ord_quiet (v := ?_) rfl (fun w' hS => ?_) ⟨cb, cd, k0, k2⟩ ?_; rotate_left; (obtain ⟨s1, s2, s3, s4⟩ := hS; go_simp; with_reducible rfl); simp only [Act.put, List.setIfInBounds_toArray, List.set_cons_succ, List.set_cons_zero])
  refine Rg.ord_quiet (v := .slice A f c) rfl (fun w' hS => ?_) ⟨cb, cd, k0, k2⟩ ?_
  · have hq := Hfr.out w'
    clear hS
    go_simp
  simp only [Act.put, List.setIfInBounds_toArray, List.set_cons_succ, List.set_cons_zero]
  refine Rg.ord_loud rfl (fun K hK => ?_)
  refine wp_catS (.tmp 26) (.tmp 32) tB rfl Tryd.underlying38 info8 (fun b => S b ∧ b ≠ g) (.slice A0 N c0) s.k (bs.take f) Pb A c rfl (by rw [Htk.out]; rfl) (show OwnS w2.drew (fun b => S b ∧ b ≠ g) tU8 (.slice A0 N c0) s.k from HO.out) (Hsl.out _ HS.out) Hln.out ?_
  intro v' w3 hown hgrow
  obtain ⟨A1, N1, c1, rfl⟩ : ∃ A1 N1 c1, v' = .slice A1 N1 c1 := by obtain ⟨A1, c1, e, _⟩ := hown.sl; exact ⟨A1, _, c1, e⟩
  have ho3 := grown_oth (w := w2.drew) (w' := w3) HO.out hgrow
  have HO3 := hide (grown_own (w := w2.drew) Hlt2.out hown)
  have HB3 := hide (ho3.row (show Row w2.drew bb tB [.slice A n c] from HB.out) (fun x => Hnb.out x.1))
  have HD3 := hide (ho3.row (show Row w2.drew bd tP [.pointer (some ⟨g, 0, none⟩)] from HDd.out) (fun x => Hnd.out x.1))
  have HG3 := hide (ho3.row (show Row w2.drew g tD [.slice A0 N c0, .int .i64 (M : Int), .int .i64 (f : Int), .bool false] from HG.out) (fun x => x.2 rfl))
  have HX3 := hide (Oth.trans HoX.out.drew (ho3.mono (T := S) fun _ _ x => x.1) fun _ _ x => x)
  have HZ3 := hide (show w2.heap.size ≤ w3.heap.size from ho3.size)
  clear cb cd k0 k1 k2 k3 f0 f1 f2 f3
  clear hown hgrow ho3 HO HB HDd HG HoX
  have HB := HB3
  have HDd := HD3
  have HG := HG3
  clear HB3 HD3 HG3
  have cb : w3.cell? ⟨bb, 0, none⟩ = some (.slice A n c) := HB.out.cell 0
  have cd : w3.cell? ⟨bd, 0, none⟩ = some (.pointer (some ⟨g, 0, none⟩)) := HDd.out.cell 0
  have k0 := HG.out.cell 0
  have k1 := HG.out.cell 1
  have k2 := HG.out.cell 2
  have k3 := HG.out.cell 3
  have f0 := HG.out.free 0
  have f1 := HG.out.free 1
  have f2 := HG.out.free 2
  have f3 := HG.out.free 3
  simp only [List.getElem?_cons_zero, List.getElem?_cons_succ] at k0 k1 k2 k3
  refine hK _ _ (fun _ => ⟨cb, cd, k0, k2⟩) ?_
  clear hK K
  iterate 2 (refine Rg.ord_quiet (v := ?_) rfl (fun w' hS => ?_) ⟨cb, cd, k0, k2⟩ ?_; rotate_left; (obtain ⟨s1, s2, s3, s4⟩ := hS; go_simp; with_reducible rfl); simp only [Act.put, List.setIfInBounds_toArray, List.set_cons_succ, List.set_cons_zero])
  refine Rg.ord_loud rfl (fun K hK => ?_)
  go_simp
  have HG4 := hide (HG.out.put 0 (.slice A1 N1 c1))
  have HO4 := hide (own_put (i := 0) (u := .slice A1 N1 c1) HO3.out)
  have HB4 := hide (HB.out.off (g' := g) (i := 0) (fun e => Hnb.out (by rw [e]; exact Hg.out)) (.slice A1 N1 c1))
  have HD4 := hide (HDd.out.off (g' := g) (i := 0) (fun e => Hnd.out (by rw [e]; exact Hg.out)) (.slice A1 N1 c1))
  have HX4 := hide (HX3.out.put (g := g) (i := 0) (.inl Hg.out) (.slice A1 N1 c1))
  have HZ4 := hide (show (w3.setCell ⟨g, 0, none⟩ (.slice A1 N1 c1)).heap.size = w3.heap.size by simp [World.setCell])
  obtain ⟨w4, hw⟩ : ∃ z, z = w3.setCell ⟨g, 0, none⟩ (.slice A1 N1 c1) := ⟨_, rfl⟩
  rw [← hw] at HG4 HO4 HB4 HD4 HX4 HZ4 ⊢
  simp only [List.set_cons_zero] at HG4
  clear cb cd k0 k1 k2 k3 f0 f1 f2 f3
  clear hw HB HDd HG HO3 HX3
  have HB := HB4
  have HDd := HD4
  have HG := HG4
  clear HB4 HD4 HG4
  have cb : w4.cell? ⟨bb, 0, none⟩ = some (.slice A n c) := HB.out.cell 0
  have cd : w4.cell? ⟨bd, 0, none⟩ = some (.pointer (some ⟨g, 0, none⟩)) := HDd.out.cell 0
  have k0 := HG.out.cell 0
  have k1 := HG.out.cell 1
  have k2 := HG.out.cell 2
  have k3 := HG.out.cell 3
  have f0 := HG.out.free 0
  have f1 := HG.out.free 1
  have f2 := HG.out.free 2
  have f3 := HG.out.free 3
  simp only [List.getElem?_cons_zero, List.getElem?_cons_succ] at k0 k1 k2 k3
  refine hK _ _ (fun hf => absurd (show Rg.sink _ 14 = true from by kernel_rfl) (by rw [hf]; decide)) ?_
  clear hK K
  refine Rg.ord_nil ?_
  go_wp2
  refine Rg.wp_region_ord (fun w' => w'.cell? ⟨bb, 0, none⟩ = some (.slice A n c) ∧ w'.cell? ⟨bd, 0, none⟩ = some (.pointer (some ⟨g, 0, none⟩)) ∧ True ∧ True) [(0, true), (1, true), (2, true), (3, true), (4, false), (5, true), (6, true), (7, false)] (by kernel_rfl) (by kernel_rfl) ?_
  simp only [Rg.pick, List.map_cons, List.map_nil, List.getD_cons_zero, List.getD_cons_succ]
  iterate 4 (refine Rg.ord_quiet (v := ?_) rfl (fun w' hS => ?_) ⟨cb, cd, trivial, trivial⟩ ?_; rotate_left; (obtain ⟨s1, s2, s3, s4⟩ := hS; go_simp; with_reducible rfl); simp only [Act.put, List.setIfInBounds_toArray, List.set_cons_succ, List.set_cons_zero])
  refine Rg.ord_loud rfl (fun K hK => ?_)
  go_simp
  have HG5 := hide (HG.out.put 2 (.int .i64 (-1)))
  have HO5 := hide (own_put (i := 2) (u := .int .i64 (-1)) HO4.out)
  have HB5 := hide (HB.out.off (g' := g) (i := 2) (fun e => Hnb.out (by rw [e]; exact Hg.out)) (.int .i64 (-1)))
  have HD5 := hide (HDd.out.off (g' := g) (i := 2) (fun e => Hnd.out (by rw [e]; exact Hg.out)) (.int .i64 (-1)))
  have HX5 := hide (HX4.out.put (g := g) (i := 2) (.inl Hg.out) (.int .i64 (-1)))
  have HZ5 := hide (show (w4.setCell ⟨g, 2, none⟩ (.int .i64 (-1))).heap.size = w3.heap.size by rw [← HZ4.out]; simp [World.setCell])
  obtain ⟨w5, hw⟩ : ∃ z, z = w4.setCell ⟨g, 2, none⟩ (.int .i64 (-1)) := ⟨_, rfl⟩
  rw [← hw] at HG5 HO5 HB5 HD5 HX5 HZ5
  have hw' : (w4.setCell ⟨g, 2, none⟩ (.int .i64 (-1))).drew = w5.drew := by rw [hw]
  rw [hw']
  simp only [List.set_cons_zero, List.set_cons_succ] at HG5
  clear cb cd k0 k1 k2 k3 f0 f1 f2 f3
  clear hw hw' HB HDd HG HO4 HX4 HZ4
  have HB := HB5
  have HDd := HD5
  have HG := HG5
  clear HB5 HD5 HG5
  have cb : w5.cell? ⟨bb, 0, none⟩ = some (.slice A n c) := HB.out.cell 0
  have cd : w5.cell? ⟨bd, 0, none⟩ = some (.pointer (some ⟨g, 0, none⟩)) := HDd.out.cell 0
  have k0 := HG.out.cell 0
  have k1 := HG.out.cell 1
  have k2 := HG.out.cell 2
  have k3 := HG.out.cell 3
  have f0 := HG.out.free 0
  have f1 := HG.out.free 1
  have f2 := HG.out.free 2
  have f3 := HG.out.free 3
  simp only [List.getElem?_cons_zero, List.getElem?_cons_succ] at k0 k1 k2 k3
  refine hK _ _ (fun _ => ⟨cb, cd, trivial, trivial⟩) ?_
  clear hK K
  iterate 2 (refine Rg.ord_quiet (v := ?_) rfl (fun w' hS => ?_) ⟨cb, cd, trivial, trivial⟩ ?_; rotate_left; (obtain ⟨s1, s2, s3, s4⟩ := hS; go_simp; with_reducible rfl); simp only [Act.put, List.setIfInBounds_toArray, List.set_cons_succ, List.set_cons_zero])
  refine Rg.ord_loud rfl (fun K hK => ?_)
  go_simp
  have HG6 := hide (HG.out.put 3 (.bool true))
  have HO6 := hide (own_put (i := 3) (u := .bool true) HO5.out)
  have HX6 := hide (HX5.out.put (g := g) (i := 3) (.inl Hg.out) (.bool true))
  have HZ6 := hide (show (w5.setCell ⟨g, 3, none⟩ (.bool true)).heap.size = w3.heap.size by rw [← HZ5.out]; simp [World.setCell])
  simp only [List.set_cons_zero, List.set_cons_succ] at HG6
  refine hK _ _ (fun hf => absurd (show Rg.sink _ 7 = true from by kernel_rfl) (by rw [hf]; decide)) ?_
  clear hK K cb cd k0 k1 k2 k3 f0 f1 f2 f3
  refine Rg.ord_nil ?_
  go_wp2
  go_ret
  rw [← HM.out]
  exact ⟨rfl, more S w2 w3, ⟨_, HG6.out, HO6.out, ⟨.inl Hg.out, by have := HZ3.out; have := Hlt2.out; omega⟩, fun k hk => lt_drew HZ6.out hk.2⟩, HX6.out.drew, fun k hk => hk.1.imp id fun e => by have := HZ.out; omega⟩
set_option maxHeartbeats 2000000 in
set_option maxRecDepth 100000 in
theorem put_none (w : World) (S : Nat → Prop) (g bb bd : Nat) (s : St) (bs : List UInt8) (A : Option Addr) (c : Nat) (Pb : Nat → Prop) (hD : DkIn w S g s) (hf : s.fit) (hd : s.dead = false) (hrb : Row w bb tB [.slice A bs.length c]) (hrd : Row w bd tP [.pointer (some ⟨g, 0, none⟩)]) (hnb : ¬ S bb) (hnd : ¬ S bd) (hs : Sl w Pb A c bs) (hfull : ¬ s.room < s.k.length + bs.length) (h1f : s.fuse = -1) :
    Calls Tryd.prog 36 #[.pointer (some ⟨bb, 0, none⟩), .pointer (some ⟨bd, 0, none⟩)] w fun y w' => y = .returned (.int .i64 0) ∧ ∃ S', DkIn w' S' g ⟨s.k ++ bs, s.room, -1, false⟩ ∧ Oth S w w' ∧ ∀ k, S' k → S k ∨ w.heap.size ≤ k := by
  have HL := hide (fun i : Nat => left_any (show DkIn (w.drewN i) S g s from hD) hf)
  obtain ⟨v, hr, ho, hg, hb⟩ := hD
  obtain ⟨h1, h2, h3, h4⟩ := hf
  obtain ⟨A0, c0, rfl, hs0⟩ := ho.sl
  obtain ⟨N, hN⟩ : ∃ N, N = s.k.length := ⟨_, rfl⟩
  obtain ⟨n, hn⟩ : ∃ n, n = bs.length := ⟨_, rfl⟩
  obtain ⟨M, hM⟩ : ∃ N, N = s.room := ⟨_, rfl⟩
  obtain ⟨F, hF⟩ : ∃ F, F = s.fuse := ⟨_, rfl⟩
  have HM := hide hM
  rw [hd] at hr
  rw [← hN] at hr h1 ho HL
  rw [← hn] at hrb
  rw [← hM] at hr h1 h2 HL
  rw [← hF] at hr h3 h4
  obtain ⟨L, hL⟩ : ∃ L, L = M - N := ⟨_, rfl⟩
  rw [← hL] at HL
  have hcc : ¬ L < n := by rw [← hM, ← hN, ← hn] at hfull; omega
  have hc : decide (L < n) = false := decide_eq_false hcc
  have Hln := hide (show s.k.length + bs.length ≤ 70368744177664 by rw [← hM, ← hN, ← hn] at hfull; omega)
  rw [h1f] at hF
  subst hF
  have hq1 : ((-1 : Int) != -1) = false := rfl
  clear h1f h1 h2 h3 h4
  have Hn := hide hn
  clear hfull hL hM hN hn
  have HB := hide hrb
  have HDd := hide hrd
  have HG := hide hr
  have HO := hide ho
  have HS := hide hs
  have Hg := hide hg
  have Hb := hide hb
  have Hnb := hide hnb
  have Hnd := hide hnd
  have Hlt := hide hr.lt
  clear hrb hrd hr ho hs0 hs hg hb hnb hnd
  go_enter Tryd.func36, Tryd.ntmps36
  have cb : w.cell? ⟨bb, 0, none⟩ = some (.slice A n c) := HB.out.cell 0
  have cd : w.cell? ⟨bd, 0, none⟩ = some (.pointer (some ⟨g, 0, none⟩)) := HDd.out.cell 0
  have k0 := HG.out.cell 0
  have k1 := HG.out.cell 1
  have k2 := HG.out.cell 2
  have k3 := HG.out.cell 3
  have f0 := HG.out.free 0
  have f1 := HG.out.free 1
  have f2 := HG.out.free 2
  have f3 := HG.out.free 3
  simp only [List.getElem?_cons_zero, List.getElem?_cons_succ] at k0 k1 k2 k3
  go_wp2
  refine Rg.wp_region_ord (fun w' => w'.cell? ⟨bb, 0, none⟩ = some (.slice A n c) ∧ w'.cell? ⟨bd, 0, none⟩ = some (.pointer (some ⟨g, 0, none⟩)) ∧ w'.cell? ⟨g, 0, none⟩ = some (.slice A0 N c0) ∧ w'.cell? ⟨g, 2, none⟩ = some (.int .i64 (-1))) [(0, true), (1, true), (2, true), (3, false), (4, true)] (by kernel_rfl) (by kernel_rfl) ?_
  simp only [Rg.pick, List.map_cons, List.map_nil, List.getD_cons_zero, List.getD_cons_succ]
  iterate 3 (refine Rg.ord_quiet (v := ?_) rfl (fun w' hS => ?_) ⟨cb, cd, k0, k2⟩ ?_; rotate_left; (obtain ⟨s1, s2, s3, s4⟩ := hS; go_simp; with_reducible rfl); simp only [Act.put, List.setIfInBounds_toArray, List.set_cons_succ, List.set_cons_zero])
  refine Rg.ord_loud rfl (fun K hK => ?_)
  go_simp
  refine (HL.out 1).mono ?_
  rintro y w1 ⟨rfl, m, rfl⟩
  refine hK _ _ (fun _ => ⟨cb, cd, k0, k2⟩) ?_
  clear hK K
  iterate 1 (refine Rg.ord_quiet (v := ?_) rfl (fun w' hS => ?_) ⟨cb, cd, k0, k2⟩ ?_; rotate_left; (obtain ⟨s1, s2, s3, s4⟩ := hS; go_simp; with_reducible rfl); simp only [Act.put, List.setIfInBounds_toArray, List.set_cons_succ, List.set_cons_zero])
  refine Rg.ord_nil ?_
  clear HL
  go_wp2
  obtain ⟨w1, hw⟩ : ∃ z, z = World.drewN (World.drewN w 1) m := ⟨_, rfl⟩
  have HB' : Row w1 bb tB [.slice A n c] := by rw [hw]; exact HB.out
  have HDd' : Row w1 bd tP [.pointer (some ⟨g, 0, none⟩)] := by rw [hw]; exact HDd.out
  have HG' : Row w1 g tD [.slice A0 N c0, .int .i64 (M : Int), .int .i64 (-1), .bool false] := by rw [hw]; exact HG.out
  have HO' : OwnS w1 (fun b => S b ∧ b ≠ g) tU8 (.slice A0 N c0) s.k := by rw [hw]; exact HO.out
  have HS' : Sl w1 Pb A c bs := by rw [hw]; exact HS.out
  have Ho' : Oth S w w1 := by rw [hw]; exact ((Oth.refl S w).drewN 1).drewN m
  have hz' : w1.heap.size = w.heap.size := by rw [hw]; exact rfl
  rw [← hw]
  clear cb cd k0 k1 k2 k3 f0 f1 f2 f3
  clear hw HB HDd HG HO HS
  have HB := hide HB'
  have HDd := hide HDd'
  have HG := hide HG'
  have HO := hide HO'
  have HS := hide HS'
  have HoX := hide Ho'
  have HZ := hide hz'
  clear HB' HDd' HG' HO' HS' Ho' hz'
  have cb : w1.cell? ⟨bb, 0, none⟩ = some (.slice A n c) := HB.out.cell 0
  have cd : w1.cell? ⟨bd, 0, none⟩ = some (.pointer (some ⟨g, 0, none⟩)) := HDd.out.cell 0
  have k0 := HG.out.cell 0
  have k1 := HG.out.cell 1
  have k2 := HG.out.cell 2
  have k3 := HG.out.cell 3
  have f0 := HG.out.free 0
  have f1 := HG.out.free 1
  have f2 := HG.out.free 2
  have f3 := HG.out.free 3
  simp only [List.getElem?_cons_zero, List.getElem?_cons_succ] at k0 k1 k2 k3
  go_quiet (fail)
  obtain ⟨w2, hw⟩ : ∃ z, z = World.drewN w1 nq := ⟨_, rfl⟩
  have HB' : Row w2 bb tB [.slice A n c] := by rw [hw]; exact HB.out
  have HDd' : Row w2 bd tP [.pointer (some ⟨g, 0, none⟩)] := by rw [hw]; exact HDd.out
  have HG' : Row w2 g tD [.slice A0 N c0, .int .i64 (M : Int), .int .i64 (-1), .bool false] := by rw [hw]; exact HG.out
  have HO' : OwnS w2 (fun b => S b ∧ b ≠ g) tU8 (.slice A0 N c0) s.k := by rw [hw]; exact HO.out
  have HS' : Sl w2 Pb A c bs := by rw [hw]; exact HS.out
  have Ho' : Oth S w w2 := by rw [hw]; exact HoX.out.drewN _
  have hz' : w2.heap.size = w.heap.size := by rw [hw]; exact HZ.out
  rw [← hw]
  clear cb cd k0 k1 k2 k3 f0 f1 f2 f3
  clear hw HB HDd HG HO HS HoX HZ
  have HB := hide HB'
  have HDd := hide HDd'
  have HG := hide HG'
  have HO := hide HO'
  have HS := hide HS'
  have HoX := hide Ho'
  have HZ := hide hz'
  clear HB' HDd' HG' HO' HS' Ho' hz'
  have cb : w2.cell? ⟨bb, 0, none⟩ = some (.slice A n c) := HB.out.cell 0
  have cd : w2.cell? ⟨bd, 0, none⟩ = some (.pointer (some ⟨g, 0, none⟩)) := HDd.out.cell 0
  have k0 := HG.out.cell 0
  have k1 := HG.out.cell 1
  have k2 := HG.out.cell 2
  have k3 := HG.out.cell 3
  have f0 := HG.out.free 0
  have f1 := HG.out.free 1
  have f2 := HG.out.free 2
  have f3 := HG.out.free 3
  simp only [List.getElem?_cons_zero, List.getElem?_cons_succ] at k0 k1 k2 k3
  go_wp2
  have Hlt2 := hide (show g < w2.heap.size from by have := HZ.out; have := Hlt.out; omega)
  refine Rg.wp_region_ord (fun w' => w'.cell? ⟨bb, 0, none⟩ = some (.slice A n c) ∧ w'.cell? ⟨bd, 0, none⟩ = some (.pointer (some ⟨g, 0, none⟩)) ∧ w'.cell? ⟨g, 0, none⟩ = some (.slice A0 N c0) ∧ w'.cell? ⟨g, 2, none⟩ = some (.int .i64 (-1))) [(0, true), (1, true), (2, true), (3, true), (4, true), (5, true), (6, false), (7, true), (8, true), (9, false)] (by kernel_rfl) (by kernel_rfl) ?_
  simp only [Rg.pick, List.map_cons, List.map_nil, List.getD_cons_zero, List.getD_cons_succ]
  iterate 6 (refine Rg.ord_quiet (v := ?_) rfl (fun w' hS => ?_) ⟨cb, cd, k0, k2⟩ ?_; rotate_left; (obtain ⟨s1, s2, s3, s4⟩ := hS; go_simp; with_reducible rfl); simp only [Act.put, List.setIfInBounds_toArray, List.set_cons_succ, List.set_cons_zero])
  refine Rg.ord_loud rfl (fun K hK => ?_)
  refine wp_catS (.tmp 46) (.tmp 47) tB rfl Tryd.underlying38 info8 (fun b => S b ∧ b ≠ g) (.slice A0 N c0) s.k bs Pb A c rfl (by rw [← Hn.out]; rfl) (show OwnS w2.drew (fun b => S b ∧ b ≠ g) tU8 (.slice A0 N c0) s.k from HO.out) HS.out Hln.out ?_
  intro v' w3 hown hgrow
  obtain ⟨A1, N1, c1, rfl⟩ : ∃ A1 N1 c1, v' = .slice A1 N1 c1 := by obtain ⟨A1, c1, e, _⟩ := hown.sl; exact ⟨A1, _, c1, e⟩
  have ho3 := grown_oth (w := w2.drew) (w' := w3) HO.out hgrow
  have HO3 := hide (grown_own (w := w2.drew) Hlt2.out hown)
  have HB3 := hide (ho3.row (show Row w2.drew bb tB [.slice A n c] from HB.out) (fun x => Hnb.out x.1))
  have HD3 := hide (ho3.row (show Row w2.drew bd tP [.pointer (some ⟨g, 0, none⟩)] from HDd.out) (fun x => Hnd.out x.1))
  have HG3 := hide (ho3.row (show Row w2.drew g tD [.slice A0 N c0, .int .i64 (M : Int), .int .i64 (-1), .bool false] from HG.out) (fun x => x.2 rfl))
  have HX3 := hide (Oth.trans HoX.out.drew (ho3.mono (T := S) fun _ _ x => x.1) fun _ _ x => x)
  have HZ3 := hide (show w2.heap.size ≤ w3.heap.size from ho3.size)
  clear cb cd k0 k1 k2 k3 f0 f1 f2 f3
  clear hown hgrow ho3 HO HB HDd HG HoX
  have HB := HB3
  have HDd := HD3
  have HG := HG3
  clear HB3 HD3 HG3
  have cb : w3.cell? ⟨bb, 0, none⟩ = some (.slice A n c) := HB.out.cell 0
  have cd : w3.cell? ⟨bd, 0, none⟩ = some (.pointer (some ⟨g, 0, none⟩)) := HDd.out.cell 0
  have k0 := HG.out.cell 0
  have k1 := HG.out.cell 1
  have k2 := HG.out.cell 2
  have k3 := HG.out.cell 3
  have f0 := HG.out.free 0
  have f1 := HG.out.free 1
  have f2 := HG.out.free 2
  have f3 := HG.out.free 3
  simp only [List.getElem?_cons_zero, List.getElem?_cons_succ] at k0 k1 k2 k3
  refine hK _ _ (fun _ => ⟨cb, cd, k0, k2⟩) ?_
  clear hK K
  iterate 2 (refine Rg.ord_quiet (v := ?_) rfl (fun w' hS => ?_) ⟨cb, cd, k0, k2⟩ ?_; rotate_left; (obtain ⟨s1, s2, s3, s4⟩ := hS; go_simp; with_reducible rfl); simp only [Act.put, List.setIfInBounds_toArray, List.set_cons_succ, List.set_cons_zero])
  refine Rg.ord_loud rfl (fun K hK => ?_)
  go_simp
  have HG4 := hide (HG.out.put 0 (.slice A1 N1 c1))
  have HO4 := hide (own_put (i := 0) (u := .slice A1 N1 c1) HO3.out)
  have HB4 := hide (HB.out.off (g' := g) (i := 0) (fun e => Hnb.out (by rw [e]; exact Hg.out)) (.slice A1 N1 c1))
  have HD4 := hide (HDd.out.off (g' := g) (i := 0) (fun e => Hnd.out (by rw [e]; exact Hg.out)) (.slice A1 N1 c1))
  have HX4 := hide (HX3.out.put (g := g) (i := 0) (.inl Hg.out) (.slice A1 N1 c1))
  have HZ4 := hide (show (w3.setCell ⟨g, 0, none⟩ (.slice A1 N1 c1)).heap.size = w3.heap.size by simp [World.setCell])
  obtain ⟨w4, hw⟩ : ∃ z, z = w3.setCell ⟨g, 0, none⟩ (.slice A1 N1 c1) := ⟨_, rfl⟩
  rw [← hw] at HG4 HO4 HB4 HD4 HX4 HZ4 ⊢
  simp only [List.set_cons_zero] at HG4
  clear cb cd k0 k1 k2 k3 f0 f1 f2 f3
  clear hw HB HDd HG HO3 HX3
  have HB := HB4
  have HDd := HD4
  have HG := HG4
  clear HB4 HD4 HG4
  have cb : w4.cell? ⟨bb, 0, none⟩ = some (.slice A n c) := HB.out.cell 0
  have cd : w4.cell? ⟨bd, 0, none⟩ = some (.pointer (some ⟨g, 0, none⟩)) := HDd.out.cell 0
  have k0 := HG.out.cell 0
  have k1 := HG.out.cell 1
  have k2 := HG.out.cell 2
  have k3 := HG.out.cell 3
  have f0 := HG.out.free 0
  have f1 := HG.out.free 1
  have f2 := HG.out.free 2
  have f3 := HG.out.free 3
  simp only [List.getElem?_cons_zero, List.getElem?_cons_succ] at k0 k1 k2 k3
  refine hK _ _ (fun hf => absurd (show Rg.sink _ 9 = true from by kernel_rfl) (by rw [hf]; decide)) ?_
  clear hK K
  refine Rg.ord_nil ?_
  go_wp2
  go_ret
  rw [← HM.out]
  exact ⟨rfl, more S w2 w3, ⟨_, HG.out, HO4.out, ⟨.inl Hg.out, by have := HZ3.out; have := Hlt2.out; omega⟩, fun k hk => lt_drew HZ4.out hk.2⟩, HX4.out, fun k hk => hk.1.imp id fun e => by have := HZ.out; omega⟩
set_option maxHeartbeats 2000000 in
set_option maxRecDepth 100000 in
theorem put_fuse (w : World) (S : Nat → Prop) (g bb bd : Nat) (s : St) (bs : List UInt8) (A : Option Addr) (c : Nat) (Pb : Nat → Prop) (hD : DkIn w S g s) (hf : s.fit) (hd : s.dead = false) (hrb : Row w bb tB [.slice A bs.length c]) (hrd : Row w bd tP [.pointer (some ⟨g, 0, none⟩)]) (hnb : ¬ S bb) (hnd : ¬ S bd) (hs : Sl w Pb A c bs) (hfull : ¬ s.room < s.k.length + bs.length) (h1f : s.fuse ≠ -1) (h2f : ¬ s.fuse < (bs.length : Int)) :
    Calls Tryd.prog 36 #[.pointer (some ⟨bb, 0, none⟩), .pointer (some ⟨bd, 0, none⟩)] w fun y w' => y = .returned (.int .i64 0) ∧ ∃ S', DkIn w' S' g ⟨s.k ++ bs, s.room, s.fuse - (bs.length : Int), false⟩ ∧ Oth S w w' ∧ ∀ k, S' k → S k ∨ w.heap.size ≤ k := by
  have HL := hide (fun i : Nat => left_any (show DkIn (w.drewN i) S g s from hD) hf)
  obtain ⟨v, hr, ho, hg, hb⟩ := hD
  obtain ⟨h1, h2, h3, h4⟩ := hf
  obtain ⟨A0, c0, rfl, hs0⟩ := ho.sl
  obtain ⟨N, hN⟩ : ∃ N, N = s.k.length := ⟨_, rfl⟩
  obtain ⟨n, hn⟩ : ∃ n, n = bs.length := ⟨_, rfl⟩
  obtain ⟨M, hM⟩ : ∃ N, N = s.room := ⟨_, rfl⟩
  obtain ⟨F, hF⟩ : ∃ F, F = s.fuse := ⟨_, rfl⟩
  have HM := hide hM
  rw [hd] at hr
  rw [← hN] at hr h1 ho HL
  rw [← hn] at hrb
  rw [← hM] at hr h1 h2 HL
  rw [← hF] at hr h3 h4
  obtain ⟨L, hL⟩ : ∃ L, L = M - N := ⟨_, rfl⟩
  rw [← hL] at HL
  have hcc : ¬ L < n := by rw [← hM, ← hN, ← hn] at hfull; omega
  have hc : decide (L < n) = false := decide_eq_false hcc
  have Hln := hide (show s.k.length + bs.length ≤ 70368744177664 by rw [← hM, ← hN, ← hn] at hfull; omega)
  rw [← hF] at h1f h2f ⊢
  rw [← hn] at h2f ⊢
  have hq1 : (F != -1) = true := by rw [bne_iff_ne]; exact h1f
  have hq2 : decide (F < (n : Int)) = false := decide_eq_false h2f
  have hw : IntKind.i64.wrap (F - (n : Int)) = F - (n : Int) := IntWalk.i64_in _ (by omega)
  obtain ⟨G, hG⟩ : ∃ G, G = F - (n : Int) := ⟨_, rfl⟩
  have hw2 : IntKind.i64.wrap (F - (n : Int)) = G := by rw [hG]; exact hw
  rw [← hG]
  have HW := hide hw2
  clear h1f h1 h2 h3 h4 hF hG hw hw2
  have Hn := hide hn
  clear hfull hL hM hN hn
  have HB := hide hrb
  have HDd := hide hrd
  have HG := hide hr
  have HO := hide ho
  have HS := hide hs
  have Hg := hide hg
  have Hb := hide hb
  have Hnb := hide hnb
  have Hnd := hide hnd
  have Hlt := hide hr.lt
  clear hrb hrd hr ho hs0 hs hg hb hnb hnd
  go_enter Tryd.func36, Tryd.ntmps36
  have cb : w.cell? ⟨bb, 0, none⟩ = some (.slice A n c) := HB.out.cell 0
  have cd : w.cell? ⟨bd, 0, none⟩ = some (.pointer (some ⟨g, 0, none⟩)) := HDd.out.cell 0
  have k0 := HG.out.cell 0
  have k1 := HG.out.cell 1
  have k2 := HG.out.cell 2
  have k3 := HG.out.cell 3
  have f0 := HG.out.free 0
  have f1 := HG.out.free 1
  have f2 := HG.out.free 2
  have f3 := HG.out.free 3
  simp only [List.getElem?_cons_zero, List.getElem?_cons_succ] at k0 k1 k2 k3
  go_wp2
  refine Rg.wp_region_ord (fun w' => w'.cell? ⟨bb, 0, none⟩ = some (.slice A n c) ∧ w'.cell? ⟨bd, 0, none⟩ = some (.pointer (some ⟨g, 0, none⟩)) ∧ w'.cell? ⟨g, 0, none⟩ = some (.slice A0 N c0) ∧ w'.cell? ⟨g, 2, none⟩ = some (.int .i64 F)) [(0, true), (1, true), (2, true), (3, false), (4, true)] (by kernel_rfl) (by kernel_rfl) ?_
  simp only [Rg.pick, List.map_cons, List.map_nil, List.getD_cons_zero, List.getD_cons_succ]
  iterate 3 (refine Rg.ord_quiet (v := ?_) rfl (fun w' hS => ?_) ⟨cb, cd, k0, k2⟩ ?_; rotate_left; (obtain ⟨s1, s2, s3, s4⟩ := hS; go_simp; with_reducible rfl); simp only [Act.put, List.setIfInBounds_toArray, List.set_cons_succ, List.set_cons_zero])
  refine Rg.ord_loud rfl (fun K hK => ?_)
  go_simp
  refine (HL.out 1).mono ?_
  rintro y w1 ⟨rfl, m, rfl⟩
  refine hK _ _ (fun _ => ⟨cb, cd, k0, k2⟩) ?_
  clear hK K
  iterate 1 (refine Rg.ord_quiet (v := ?_) rfl (fun w' hS => ?_) ⟨cb, cd, k0, k2⟩ ?_; rotate_left; (obtain ⟨s1, s2, s3, s4⟩ := hS; go_simp; with_reducible rfl); simp only [Act.put, List.setIfInBounds_toArray, List.set_cons_succ, List.set_cons_zero])
  refine Rg.ord_nil ?_
  clear HL
  go_wp2
  obtain ⟨w1, hw⟩ : ∃ z, z = World.drewN (World.drewN w 1) m := ⟨_, rfl⟩
  have HB' : Row w1 bb tB [.slice A n c] := by rw [hw]; exact HB.out
  have HDd' : Row w1 bd tP [.pointer (some ⟨g, 0, none⟩)] := by rw [hw]; exact HDd.out
  have HG' : Row w1 g tD [.slice A0 N c0, .int .i64 (M : Int), .int .i64 F, .bool false] := by rw [hw]; exact HG.out
  have HO' : OwnS w1 (fun b => S b ∧ b ≠ g) tU8 (.slice A0 N c0) s.k := by rw [hw]; exact HO.out
  have HS' : Sl w1 Pb A c bs := by rw [hw]; exact HS.out
  have Ho' : Oth S w w1 := by rw [hw]; exact ((Oth.refl S w).drewN 1).drewN m
  have hz' : w1.heap.size = w.heap.size := by rw [hw]; exact rfl
  rw [← hw]
  clear cb cd k0 k1 k2 k3 f0 f1 f2 f3
  clear hw HB HDd HG HO HS
  have HB := hide HB'
  have HDd := hide HDd'
  have HG := hide HG'
  have HO := hide HO'
  have HS := hide HS'
  have HoX := hide Ho'
  have HZ := hide hz'
  clear HB' HDd' HG' HO' HS' Ho' hz'
  have cb : w1.cell? ⟨bb, 0, none⟩ = some (.slice A n c) := HB.out.cell 0
  have cd : w1.cell? ⟨bd, 0, none⟩ = some (.pointer (some ⟨g, 0, none⟩)) := HDd.out.cell 0
  have k0 := HG.out.cell 0
  have k1 := HG.out.cell 1
  have k2 := HG.out.cell 2
  have k3 := HG.out.cell 3
  have f0 := HG.out.free 0
  have f1 := HG.out.free 1
  have f2 := HG.out.free 2
  have f3 := HG.out.free 3
  simp only [List.getElem?_cons_zero, List.getElem?_cons_succ] at k0 k1 k2 k3
  go_quiet (fail)
  obtain ⟨w2, hw⟩ : ∃ z, z = World.drewN w1 nq := ⟨_, rfl⟩
  have HB' : Row w2 bb tB [.slice A n c] := by rw [hw]; exact HB.out
  have HDd' : Row w2 bd tP [.pointer (some ⟨g, 0, none⟩)] := by rw [hw]; exact HDd.out
  have HG' : Row w2 g tD [.slice A0 N c0, .int .i64 (M : Int), .int .i64 F, .bool false] := by rw [hw]; exact HG.out
  have HO' : OwnS w2 (fun b => S b ∧ b ≠ g) tU8 (.slice A0 N c0) s.k := by rw [hw]; exact HO.out
  have HS' : Sl w2 Pb A c bs := by rw [hw]; exact HS.out
  have Ho' : Oth S w w2 := by rw [hw]; exact HoX.out.drewN _
  have hz' : w2.heap.size = w.heap.size := by rw [hw]; exact HZ.out
  rw [← hw]
  clear cb cd k0 k1 k2 k3 f0 f1 f2 f3
  clear hw HB HDd HG HO HS HoX HZ
  have HB := hide HB'
  have HDd := hide HDd'
  have HG := hide HG'
  have HO := hide HO'
  have HS := hide HS'
  have HoX := hide Ho'
  have HZ := hide hz'
  clear HB' HDd' HG' HO' HS' Ho' hz'
  have cb : w2.cell? ⟨bb, 0, none⟩ = some (.slice A n c) := HB.out.cell 0
  have cd : w2.cell? ⟨bd, 0, none⟩ = some (.pointer (some ⟨g, 0, none⟩)) := HDd.out.cell 0
  have k0 := HG.out.cell 0
  have k1 := HG.out.cell 1
  have k2 := HG.out.cell 2
  have k3 := HG.out.cell 3
  have f0 := HG.out.free 0
  have f1 := HG.out.free 1
  have f2 := HG.out.free 2
  have f3 := HG.out.free 3
  simp only [List.getElem?_cons_zero, List.getElem?_cons_succ] at k0 k1 k2 k3
  go_wp2
  have Hlt2 := hide (show g < w2.heap.size from by have := HZ.out; have := Hlt.out; omega)
  refine Rg.wp_region_ord (fun w' => w'.cell? ⟨bb, 0, none⟩ = some (.slice A n c) ∧ w'.cell? ⟨bd, 0, none⟩ = some (.pointer (some ⟨g, 0, none⟩)) ∧ w'.cell? ⟨g, 0, none⟩ = some (.slice A0 N c0) ∧ w'.cell? ⟨g, 2, none⟩ = some (.int .i64 F)) [(0, true), (1, true), (2, true), (3, true), (4, true), (5, true), (6, false), (7, true), (8, true), (9, false)] (by kernel_rfl) (by kernel_rfl) ?_
  simp only [Rg.pick, List.map_cons, List.map_nil, List.getD_cons_zero, List.getD_cons_succ]
  iterate 6 (refine Rg.ord_quiet (v := ?_) rfl (fun w' hS => ?_) ⟨cb, cd, k0, k2⟩ ?_; rotate_left; (obtain ⟨s1, s2, s3, s4⟩ := hS; go_simp; with_reducible rfl); simp only [Act.put, List.setIfInBounds_toArray, List.set_cons_succ, List.set_cons_zero])
  refine Rg.ord_loud rfl (fun K hK => ?_)
  refine wp_catS (.tmp 46) (.tmp 47) tB rfl Tryd.underlying38 info8 (fun b => S b ∧ b ≠ g) (.slice A0 N c0) s.k bs Pb A c rfl (by rw [← Hn.out]; rfl) (show OwnS w2.drew (fun b => S b ∧ b ≠ g) tU8 (.slice A0 N c0) s.k from HO.out) HS.out Hln.out ?_
  intro v' w3 hown hgrow
  obtain ⟨A1, N1, c1, rfl⟩ : ∃ A1 N1 c1, v' = .slice A1 N1 c1 := by obtain ⟨A1, c1, e, _⟩ := hown.sl; exact ⟨A1, _, c1, e⟩
  have ho3 := grown_oth (w := w2.drew) (w' := w3) HO.out hgrow
  have HO3 := hide (grown_own (w := w2.drew) Hlt2.out hown)
  have HB3 := hide (ho3.row (show Row w2.drew bb tB [.slice A n c] from HB.out) (fun x => Hnb.out x.1))
  have HD3 := hide (ho3.row (show Row w2.drew bd tP [.pointer (some ⟨g, 0, none⟩)] from HDd.out) (fun x => Hnd.out x.1))
  have HG3 := hide (ho3.row (show Row w2.drew g tD [.slice A0 N c0, .int .i64 (M : Int), .int .i64 F, .bool false] from HG.out) (fun x => x.2 rfl))
  have HX3 := hide (Oth.trans HoX.out.drew (ho3.mono (T := S) fun _ _ x => x.1) fun _ _ x => x)
  have HZ3 := hide (show w2.heap.size ≤ w3.heap.size from ho3.size)
  clear cb cd k0 k1 k2 k3 f0 f1 f2 f3
  clear hown hgrow ho3 HO HB HDd HG HoX
  have HB := HB3
  have HDd := HD3
  have HG := HG3
  clear HB3 HD3 HG3
  have cb : w3.cell? ⟨bb, 0, none⟩ = some (.slice A n c) := HB.out.cell 0
  have cd : w3.cell? ⟨bd, 0, none⟩ = some (.pointer (some ⟨g, 0, none⟩)) := HDd.out.cell 0
  have k0 := HG.out.cell 0
  have k1 := HG.out.cell 1
  have k2 := HG.out.cell 2
  have k3 := HG.out.cell 3
  have f0 := HG.out.free 0
  have f1 := HG.out.free 1
  have f2 := HG.out.free 2
  have f3 := HG.out.free 3
  simp only [List.getElem?_cons_zero, List.getElem?_cons_succ] at k0 k1 k2 k3
  refine hK _ _ (fun _ => ⟨cb, cd, k0, k2⟩) ?_
  clear hK K
  iterate 2 (refine Rg.ord_quiet (v := ?_) rfl (fun w' hS => ?_) ⟨cb, cd, k0, k2⟩ ?_; rotate_left; (obtain ⟨s1, s2, s3, s4⟩ := hS; go_simp; with_reducible rfl); simp only [Act.put, List.setIfInBounds_toArray, List.set_cons_succ, List.set_cons_zero])
  refine Rg.ord_loud rfl (fun K hK => ?_)
  go_simp
  have HG4 := hide (HG.out.put 0 (.slice A1 N1 c1))
  have HO4 := hide (own_put (i := 0) (u := .slice A1 N1 c1) HO3.out)
  have HB4 := hide (HB.out.off (g' := g) (i := 0) (fun e => Hnb.out (by rw [e]; exact Hg.out)) (.slice A1 N1 c1))
  have HD4 := hide (HDd.out.off (g' := g) (i := 0) (fun e => Hnd.out (by rw [e]; exact Hg.out)) (.slice A1 N1 c1))
  have HX4 := hide (HX3.out.put (g := g) (i := 0) (.inl Hg.out) (.slice A1 N1 c1))
  have HZ4 := hide (show (w3.setCell ⟨g, 0, none⟩ (.slice A1 N1 c1)).heap.size = w3.heap.size by simp [World.setCell])
  obtain ⟨w4, hw⟩ : ∃ z, z = w3.setCell ⟨g, 0, none⟩ (.slice A1 N1 c1) := ⟨_, rfl⟩
  rw [← hw] at HG4 HO4 HB4 HD4 HX4 HZ4 ⊢
  simp only [List.set_cons_zero] at HG4
  clear cb cd k0 k1 k2 k3 f0 f1 f2 f3
  clear hw HB HDd HG HO3 HX3
  have HB := HB4
  have HDd := HD4
  have HG := HG4
  clear HB4 HD4 HG4
  have cb : w4.cell? ⟨bb, 0, none⟩ = some (.slice A n c) := HB.out.cell 0
  have cd : w4.cell? ⟨bd, 0, none⟩ = some (.pointer (some ⟨g, 0, none⟩)) := HDd.out.cell 0
  have k0 := HG.out.cell 0
  have k1 := HG.out.cell 1
  have k2 := HG.out.cell 2
  have k3 := HG.out.cell 3
  have f0 := HG.out.free 0
  have f1 := HG.out.free 1
  have f2 := HG.out.free 2
  have f3 := HG.out.free 3
  simp only [List.getElem?_cons_zero, List.getElem?_cons_succ] at k0 k1 k2 k3
  refine hK _ _ (fun hf => absurd (show Rg.sink _ 9 = true from by kernel_rfl) (by rw [hf]; decide)) ?_
  clear hK K
  refine Rg.ord_nil ?_
  go_wp2
  have hw := HW.out
  refine Rg.wp_region_ord (fun w' => w'.cell? ⟨bb, 0, none⟩ = some (.slice A n c) ∧ w'.cell? ⟨bd, 0, none⟩ = some (.pointer (some ⟨g, 0, none⟩)) ∧ w'.cell? ⟨g, 2, none⟩ = some (.int .i64 F) ∧ True) [(0, true), (1, true), (2, true), (3, true), (4, true), (5, true), (6, true), (7, true), (8, true), (9, false)] (by kernel_rfl) (by kernel_rfl) ?_
  simp only [Rg.pick, List.map_cons, List.map_nil, List.getD_cons_zero, List.getD_cons_succ]
  iterate 6 (refine Rg.ord_quiet (v := ?_) rfl (fun w' hS => ?_) ⟨cb, cd, k2, trivial⟩ ?_; rotate_left; (obtain ⟨s1, s2, s3, s4⟩ := hS; go_simp; with_reducible rfl); simp only [Act.put, List.setIfInBounds_toArray, List.set_cons_succ, List.set_cons_zero])
  refine Rg.ord_quiet (v := .int .i64 G) rfl (fun w' hS => ?_) ⟨cb, cd, k2, trivial⟩ ?_
  · clear hS
    go_simp
  simp only [Act.put, List.setIfInBounds_toArray, List.set_cons_succ, List.set_cons_zero]
  iterate 2 (refine Rg.ord_quiet (v := ?_) rfl (fun w' hS => ?_) ⟨cb, cd, k2, trivial⟩ ?_; rotate_left; (obtain ⟨s1, s2, s3, s4⟩ := hS; go_simp; with_reducible rfl); simp only [Act.put, List.setIfInBounds_toArray, List.set_cons_succ, List.set_cons_zero])
  refine Rg.ord_loud rfl (fun K hK => ?_)
  go_simp
  have HG6 := hide (HG.out.put 2 (.int .i64 G))
  have HO6 := hide (own_put (i := 2) (u := .int .i64 G) HO4.out)
  have HX6 := hide (HX4.out.put (g := g) (i := 2) (.inl Hg.out) (.int .i64 G))
  have HZ6 := hide (show (w4.setCell ⟨g, 2, none⟩ (.int .i64 G)).heap.size = w3.heap.size by rw [← HZ4.out]; simp [World.setCell])
  simp only [List.set_cons_zero, List.set_cons_succ] at HG6
  refine hK _ _ (fun hf => absurd (show Rg.sink _ 9 = true from by kernel_rfl) (by rw [hf]; decide)) ?_
  clear hK K cb cd k0 k1 k2 k3 f0 f1 f2 f3
  refine Rg.ord_nil ?_
  go_wp2
  go_ret
  rw [← HM.out]
  exact ⟨rfl, more S w2 w3, ⟨_, HG6.out, HO6.out, ⟨.inl Hg.out, by have := HZ3.out; have := Hlt2.out; omega⟩, fun k hk => lt_drew HZ6.out hk.2⟩, HX6.out.drew, fun k hk => hk.1.imp id fun e => by have := HZ.out; omega⟩
end Go.Proofs.YtcmjdepjckhpdabDoor.Dk
