/-
  A reader in memory; what its calls' closures come to.
-/
import Derived.Test.YtlplgkdoiinfhaaDoorQ16
import Derived.Test.YtlplgkdoiinfhaaDoorQ2

namespace Go.Proofs.YtlplgkdoiinfhaaDoor.Wr
open Go Go.RowKit Kt

/-- nothing that was there has turned but the blocks of S -/
structure Only (S : Nat → Prop) (w w' : World) : Prop where
  os : w'.os = w.os
  tape : w'.tape = w.tape
  output : w'.output = w.output
  size : w.heap.size ≤ w'.heap.size
  block : ∀ k, k < w.heap.size → ¬ S k → w'.heap[k]? = w.heap[k]?
theorem Only.refl (S : Nat → Prop) (w : World) : Only S w w := ⟨rfl, rfl, rfl, Nat.le_refl _, fun _ _ _ => rfl⟩
theorem Only.trans {S : Nat → Prop} {a b c : World} (h : Only S a b) (k : Only S b c) : Only S a c :=
  ⟨k.os.trans h.os, k.tape.trans h.tape, k.output.trans h.output, Nat.le_trans h.size k.size, fun i hi hn => (k.block i (Nat.lt_of_lt_of_le hi h.size) hn).trans (h.block i hi hn)⟩
theorem Only.mono {S T : Nat → Prop} {a b : World} (h : Only S a b) (hi : ∀ k, k < a.heap.size → S k → T k) : Only T a b := ⟨h.os, h.tape, h.output, h.size, fun i hl hn => h.block i hl fun hs => hn (hi i hl hs)⟩
theorem Only.of_below {a b : World} (S : Nat → Prop) (h : Below a.heap.size a b) : Only S a b := ⟨h.os, h.tape, h.output, h.size, fun i hl _ => h.block i hl⟩
theorem Only.below {S : Nat → Prop} {B : Nat} {w0 a b : World} (h : Only S a b) (hb : Below B w0 a) (hB : B ≤ a.heap.size) (hS : ∀ k, k < B → ¬ S k) : Below B w0 b :=
  ⟨h.os.trans hb.os, h.tape.trans hb.tape, h.output.trans hb.output, Nat.le_trans hb.size h.size, fun k hk => (h.block k (by omega) (hS k hk)).trans (hb.block k hk)⟩
theorem Only.drew {S : Nat → Prop} {a b : World} (h : Only S a b) : Only S a b.drew := ⟨h.os, h.tape, h.output, h.size, h.block⟩
theorem Only.put {S : Nat → Prop} {a b : World} (h : Only S a b) {g i : Nat} (hg : S g) (u : Value) : Only S a (b.setCell ⟨g, i, none⟩ u) :=
  ⟨h.os, h.tape, h.output, by simpa [World.setCell] using h.size, fun k hk hn => (Below.heap_setCell b ⟨g, i, none⟩ u k (fun e => hn (by rw [e]; exact hg))).trans (h.block k hk hn)⟩
theorem _root_.Go.Proofs.YtlplgkdoiinfhaaDoor.Kt.Row.only {S : Nat → Prop} {w w' : World} {g : Nat} {t : TypeId} {cs : List Value} (h : Row w g t cs) (ho : Only S w w') (hg : ¬ S g) : Row w' g t cs := (ho.block g h.lt hg).trans h
theorem _root_.Go.Proofs.YtlplgkdoiinfhaaDoor.Kt.Sl.only {S P : Nat → Prop} {w w' : World} {A : Option Addr} {c : Nat} {bs : List UInt8} (h : Sl w P A c bs) (ho : Only S w w') (hp : ∀ b, P b → ¬ S b) : Sl w' P A c bs := h.move fun b hb hlt => ho.block b hlt (hp b hb)

/-- a slice's rest -/
def cutV (A : Option Addr) (n c k : Nat) : Value := .slice (if c = k then A else A.map (·.add k)) (n - k) (c - k)
theorem run_cut (w : World) (A : Option Addr) (n c k : Nat) (hk : k ≤ n) (_hn : n ≤ c) :
    (Instr.slice 25 (.slice A n c) (some (.int .i64 (k : Int))) none none).run Tryd.prog w = .ok (cutV A n c k) w := by
  have hu := run_underlying Tryd.underlying25
  unfold cutV
  cases A with
  | none =>
    go_simp
  | some ad =>
    go_simp

set_option maxHeartbeats 2000000 in
set_option maxRecDepth 100000 in
theorem num_clo (bs : List UInt8) (A : Option Addr) (c g br bn x n k e : Nat) (Pb : Nat → Prop) (w : World) (hr : Row w br 59 [.pointer (some ⟨g, 0, none⟩)]) (hn : Row w bn 54 [.int .u64 (x : Int)])
    (hg : Row w g 84 [.slice A bs.length c, .int .i64 0]) (hs : Sl w Pb A c bs) (_hP : ∀ b, Pb b → b ≠ bn) (hnr : bn ≠ br) (hgr : g ≠ br) (hgn : g ≠ bn)
    (hl : bs.length ≤ 70368744177664) (hnum : numOf bs = (n, k, e)) :
    Calls Tryd.prog 58 #[.pointer (some ⟨br, 0, none⟩), .pointer (some ⟨bn, 0, none⟩)] w fun y w' => y = .returned (.int .i64 (e : Int)) ∧
      Row w' bn 54 [.int .u64 (n : Int)] ∧ Row w' g 84 [cutV A bs.length c k, .int .i64 (e : Int)] ∧ Only (fun b => b = g ∨ b = bn) w w' := by
  have hkl : k ≤ bs.length := by
    by_cases he : e = 0
    · subst he; exact (numOf_ok bs n k hnum).2.2.2.1
    · have := numOf_fail bs n k e hnum he; omega
  have hcut := fun w => run_cut w A bs.length c k hkl hs.1
  obtain ⟨A2, hA2⟩ : ∃ A2, (if c = k then A else A.map (·.add k)) = A2 := ⟨_, rfl⟩
  have hV : cutV A bs.length c k = .slice A2 (bs.length - k) (c - k) := by unfold cutV; rw [hA2]
  rw [hV] at hcut ⊢
  clear hV hA2
  have Hcut := hide hcut
  have Hs := hide hs
  have Hr := hide hr
  have Hn := hide hn
  have Hg := hide hg
  have c1 : w.cell? ⟨br, 0, none⟩ = some (.pointer (some ⟨g, 0, none⟩)) := hr.cell 0
  have c2 : w.cell? ⟨g, 0, none⟩ = some (.slice A bs.length c) := hg.cell 0
  have c3 : w.cell? ⟨g, 1, none⟩ = some (.int .i64 0) := hg.cell 1
  have c4 : w.cell? ⟨bn, 0, none⟩ = some (.int .u64 (x : Int)) := hn.cell 0
  have f1 := hg.free 0
  have f2 := hg.free 1
  have f3 := hn.free 0
  clear hr hn hg hs hcut
  go_enter Tryd.func58, Tryd.ntmps58
  go_wp2
  refine Rg.wp_region_ord (fun w' => w'.cell? ⟨br, 0, none⟩ = some (.pointer (some ⟨g, 0, none⟩)) ∧ w'.cell? ⟨g, 0, none⟩ = some (.slice A bs.length c)) [(0, true), (1, true), (2, true), (3, true), (4, true), (5, false), (6, true), (7, true), (8, true), (9, true), (10, false), (11, true), (12, true), (13, true), (14, false)] (by kernel_rfl) (by kernel_rfl) ?_
  simp only [Rg.pick, List.map_cons, List.map_nil, List.getD_cons_zero, List.getD_cons_succ]
  iterate 5 (refine Rg.ord_quiet (v := ?_) rfl (fun w' hS => ?_) ⟨c1, c2⟩ ?_; rotate_left; (obtain ⟨s1, s2⟩ := hS; go_simp; with_reducible rfl); simp only [Act.put, List.setIfInBounds_toArray, List.set_cons_succ, List.set_cons_zero])
  refine Rg.ord_loud rfl (fun K hK => ?_)
  go_simp
  refine (number_any bs A c Pb w.drew Hs.out hl).mono ?_
  rintro y w1 ⟨rfl, rfl⟩
  refine hK _ _ (fun _ => ⟨c1, c2⟩) ?_
  clear hK K
  rw [hnum]
  simp only [numV]
  iterate 4 (refine Rg.ord_quiet (v := ?_) rfl (fun w' hS => ?_) ⟨c1, c2⟩ ?_; rotate_left; (obtain ⟨s1, s2⟩ := hS; go_simp; with_reducible rfl); simp only [Act.put, List.setIfInBounds_toArray, List.set_cons_succ, List.set_cons_zero])
  refine Rg.ord_loud rfl (fun K hK => ?_)
  go_simp
  have hn2 := Hn.out.put 0 (.int .u64 (n : Int))
  have hg2 := Hg.out.off hgn (i := 0) (.int .u64 (n : Int))
  have hr2 := Hr.out.off (Ne.symm hnr) (i := 0) (.int .u64 (n : Int))
  have ho2 := (Only.refl (fun b => b = g ∨ b = bn) w).put (g := bn) (i := 0) (.inr rfl) (.int .u64 (n : Int))
  obtain ⟨w2, hw2⟩ : ∃ w2, w2 = w.setCell ⟨bn, 0, none⟩ (.int .u64 (n : Int)) := ⟨_, rfl⟩
  rw [← hw2] at hn2 hg2 hr2 ho2 ⊢
  have Hn2 := hide hn2
  have Hg2 := hide hg2
  have Hr2 := hide hr2
  have Ho2 := hide ho2
  clear hw2 c1 c2 c3 c4 f1 f2 f3
  have c1 : w2.cell? ⟨br, 0, none⟩ = some (.pointer (some ⟨g, 0, none⟩)) := hr2.cell 0
  have c2 : w2.cell? ⟨g, 0, none⟩ = some (.slice A bs.length c) := hg2.cell 0
  have c3 : w2.cell? ⟨g, 1, none⟩ = some (.int .i64 0) := hg2.cell 1
  have f2 := hg2.free 1
  clear hn2 hg2 hr2 ho2
  refine hK _ _ (fun _ => ⟨c1, c2⟩) ?_
  clear hK K
  iterate 3 (refine Rg.ord_quiet (v := ?_) rfl (fun w' hS => ?_) ⟨c1, c2⟩ ?_; rotate_left; (obtain ⟨s1, s2⟩ := hS; go_simp; with_reducible rfl); simp only [Act.put, List.setIfInBounds_toArray, List.set_cons_succ, List.set_cons_zero])
  refine Rg.ord_loud rfl (fun K hK => ?_)
  go_simp
  have hn3 := Hn2.out.off (Ne.symm hgn) (i := 1) (.int .i64 (e : Int))
  have hg3 := Hg2.out.put 1 (.int .i64 (e : Int))
  have hr3 := Hr2.out.off (Ne.symm hgr) (i := 1) (.int .i64 (e : Int))
  have ho3 := Ho2.out.put (g := g) (i := 1) (.inl rfl) (.int .i64 (e : Int))
  obtain ⟨w3, hw3⟩ : ∃ w3, w3 = w2.setCell ⟨g, 1, none⟩ (.int .i64 (e : Int)) := ⟨_, rfl⟩
  rw [← hw3] at hn3 hg3 hr3 ho3 ⊢
  have Hn3 := hide hn3
  have Hg3 := hide hg3
  have Ho3 := hide ho3
  have Hr3 := hide hr3
  clear hw3 c1 c2 c3 f2
  have c1 : w3.cell? ⟨br, 0, none⟩ = some (.pointer (some ⟨g, 0, none⟩)) := hr3.cell 0
  have c2 : w3.cell? ⟨g, 0, none⟩ = some (.slice A bs.length c) := hg3.cell 0
  have c3 : w3.cell? ⟨g, 1, none⟩ = some (.int .i64 (e : Int)) := hg3.cell 1
  have f1 := hg3.free 0
  clear hn3 hg3 hr3 ho3
  refine hK _ _ (fun _ => ⟨c1, c2⟩) ?_
  clear hK K
  refine Rg.ord_nil ?_
  go_wp2
  refine Rg.wp_region_ord (fun w' => w'.cell? ⟨br, 0, none⟩ = some (.pointer (some ⟨g, 0, none⟩)) ∧ w'.cell? ⟨g, 0, none⟩ = some (.slice A bs.length c)) [(0, true), (1, true), (2, true), (3, true), (4, true), (5, true), (6, true), (7, true), (8, true), (9, false)] (by kernel_rfl) (by kernel_rfl) ?_
  simp only [Rg.pick, List.map_cons, List.map_nil, List.getD_cons_zero, List.getD_cons_succ]
  iterate 6 (refine Rg.ord_quiet (v := ?_) rfl (fun w' hS => ?_) ⟨c1, c2⟩ ?_; rotate_left; (obtain ⟨s1, s2⟩ := hS; go_simp; with_reducible rfl); simp only [Act.put, List.setIfInBounds_toArray, List.set_cons_succ, List.set_cons_zero])
  refine Rg.ord_quiet (v := .slice A2 (bs.length - k) (c - k)) rfl (fun w' hS => ?_) ⟨c1, c2⟩ ?_
  · have hq := Hcut.out w'
    clear hS
    go_simp
  simp only [Act.put, List.setIfInBounds_toArray, List.set_cons_succ, List.set_cons_zero]
  iterate 2 (refine Rg.ord_quiet (v := ?_) rfl (fun w' hS => ?_) ⟨c1, c2⟩ ?_; rotate_left; (obtain ⟨s1, s2⟩ := hS; go_simp; with_reducible rfl); simp only [Act.put, List.setIfInBounds_toArray, List.set_cons_succ, List.set_cons_zero])
  refine Rg.ord_loud rfl (fun K hK => ?_)
  go_simp
  have hr4 := Hr3.out.off (Ne.symm hgr) (i := 0) (.slice A2 (bs.length - k) (c - k))
  have hn4 := Hn3.out.off (Ne.symm hgn) (i := 0) (.slice A2 (bs.length - k) (c - k))
  have hg4 := Hg3.out.put 0 (.slice A2 (bs.length - k) (c - k))
  have ho4 := Ho3.out.put (g := g) (i := 0) (.inl rfl) (.slice A2 (bs.length - k) (c - k))
  obtain ⟨w4, hw4⟩ : ∃ w4, w4 = w3.setCell ⟨g, 0, none⟩ (.slice A2 (bs.length - k) (c - k)) := ⟨_, rfl⟩
  rw [← hw4] at hr4 hn4 hg4 ho4 ⊢
  have Hn4 := hide hn4
  have Hg4 := hide hg4
  have Ho4 := hide ho4
  clear hw4 c2 c3 f1
  have c1 : w4.cell? ⟨br, 0, none⟩ = some (.pointer (some ⟨g, 0, none⟩)) := hr4.cell 0
  have c3 : w4.cell? ⟨g, 1, none⟩ = some (.int .i64 (e : Int)) := hg4.cell 1
  clear hr4 hn4 hg4 ho4
  refine hK _ _ (fun hf => absurd (show Rg.sink _ 9 = true from by kernel_rfl) (by rw [hf]; decide)) ?_
  clear hK K
  refine Rg.ord_nil ?_
  go_wp2
  go_ret
  exact ⟨rfl, Hn4.out, Hg4.out, Ho4.out.drew.drew⟩
end Go.Proofs.YtlplgkdoiinfhaaDoor.Wr

namespace Go.Proofs.YtlplgkdoiinfhaaDoor.Wr
open Go Go.RowKit Kt

theorem text_le (bs : List UInt8) (most : Int) : (textOf bs most).2.1 ≤ bs.length := by
  unfold textOf
  split
  · simp
  · split
    · simp
    · split
      · simp
      · rename_i h1 _ h3
        have he : (numOf bs).2.2 = 0 := by omega
        have := numOf_ok bs (numOf bs).1 (numOf bs).2.1 (by rw [← he])
        simp only
        omega
theorem own_put {w : World} {B g i : Nat} {E : TypeId} {v : Value} {l : List UInt8} (h : Own w B E v l) (hg : g < B) (u : Value) : Own (w.setCell ⟨g, i, none⟩ u) B E v l := by
  refine ⟨h.1, ?_⟩
  rcases h.2 with ⟨h1, h2⟩ | ⟨b, cap, cur, hv', h1, h2, h3⟩
  · exact .inl ⟨h1, h2⟩
  · exact .inr ⟨b, cap, cur, hv', h1, (Below.heap_setCell w ⟨g, i, none⟩ u b (by simp only; omega)).trans h2, h3⟩

set_option maxHeartbeats 2000000 in
set_option maxRecDepth 100000 in
theorem text_clo (bs x : List UInt8) (most : Int) (v0 : Value) (A : Option Addr) (c g br bm bn k e : Nat) (Pb : Nat → Prop) (w : World) (hr : Row w br 59 [.pointer (some ⟨g, 0, none⟩)]) (hm : Row w bm 3 [.int .i64 most]) (hn : Row w bn 25 [v0]) (_hv0 : v0.oneCell' = true)
    (hg : Row w g 84 [.slice A bs.length c, .int .i64 0]) (hs : Sl w Pb A c bs) (_hP : ∀ b, Pb b → b ≠ bn) (hnr : bn ≠ br) (hnm : bn ≠ bm) (hgm : g ≠ bm) (hgr : g ≠ br) (hgn : g ≠ bn)
    (hl : bs.length ≤ 70368744177664) (hm63 : most ≤ 9223372036854775807) (htx : textOf bs most = (x, k, e)) :
    Calls Tryd.prog 75 #[.pointer (some ⟨br, 0, none⟩), .pointer (some ⟨bm, 0, none⟩), .pointer (some ⟨bn, 0, none⟩)] w fun y w' => y = .returned (.int .i64 (e : Int)) ∧
      (∃ v, Own w' w.heap.size 5 v x ∧ Row w' bn 25 [v]) ∧ Row w' g 84 [cutV A bs.length c k, .int .i64 (e : Int)] ∧ Only (fun b => b = g ∨ b = bn) w w' := by
  have hkl : k ≤ bs.length := by
    have := text_le bs most
    rw [htx] at this
    exact this
  have hcut := fun w => run_cut w A bs.length c k hkl hs.1
  obtain ⟨A2, hA2⟩ : ∃ A2, (if c = k then A else A.map (·.add k)) = A2 := ⟨_, rfl⟩
  have hV : cutV A bs.length c k = .slice A2 (bs.length - k) (c - k) := by unfold cutV; rw [hA2]
  rw [hV] at hcut ⊢
  clear hV hA2
  have Hcut := hide hcut
  have Hs := hide hs
  have Htx := hide htx
  have Hm63 := hide hm63
  have Hm := hide hm
  have cm : w.cell? ⟨bm, 0, none⟩ = some (.int .i64 most) := hm.cell 0
  have Hr := hide hr
  have Hn := hide hn
  have Hg := hide hg
  have c1 : w.cell? ⟨br, 0, none⟩ = some (.pointer (some ⟨g, 0, none⟩)) := hr.cell 0
  have c2 : w.cell? ⟨g, 0, none⟩ = some (.slice A bs.length c) := hg.cell 0
  have c3 : w.cell? ⟨g, 1, none⟩ = some (.int .i64 0) := hg.cell 1
  have c4 : w.cell? ⟨bn, 0, none⟩ = some v0 := hn.cell 0
  have f1 := hg.free 0
  have f2 := hg.free 1
  have f3 := hn.free 0
  clear hr hm hn hg hs hcut htx hm63
  go_enter Tryd.func75, Tryd.ntmps75
  go_wp2
  refine Rg.wp_region_ord (fun w' => w'.cell? ⟨br, 0, none⟩ = some (.pointer (some ⟨g, 0, none⟩)) ∧ w'.cell? ⟨g, 0, none⟩ = some (.slice A bs.length c) ∧ w'.cell? ⟨bm, 0, none⟩ = some (.int .i64 most)) [(0, true), (1, true), (2, true), (3, true), (4, true), (5, true), (6, false), (7, true), (8, true), (9, true), (10, true), (11, false), (12, true), (13, true), (14, true), (15, false)] (by kernel_rfl) (by kernel_rfl) ?_
  simp only [Rg.pick, List.map_cons, List.map_nil, List.getD_cons_zero, List.getD_cons_succ]
  iterate 6 (refine Rg.ord_quiet (v := ?_) rfl (fun w' hS => ?_) ⟨c1, c2, cm⟩ ?_; rotate_left; (obtain ⟨s1, s2, s3⟩ := hS; go_simp; with_reducible rfl); simp only [Act.put, List.setIfInBounds_toArray, List.set_cons_succ, List.set_cons_zero])
  refine Rg.ord_loud rfl (fun K hK => ?_)
  go_simp
  refine (text_any bs most A c Pb w.drew Hs.out hl Hm63.out).mono ?_
  rintro y w1 ⟨v, rfl, hown, hb⟩
  obtain ⟨Ax, cx, rfl, _⟩ := Is.own hown
  rw [Htx.out] at hown ⊢
  have Hb : Hid (Below w.heap.size w w1) := hide ⟨hb.os, hb.tape, hb.output, hb.size, hb.block⟩
  have Hown := hide hown
  have Hr1 := hide (Hr.out.below Hb.out Hr.out.lt)
  have Hn1 := hide (Hn.out.below Hb.out Hn.out.lt)
  have Hg1 := hide (Hg.out.below Hb.out Hg.out.lt)
  have Hm1 := hide (Hm.out.below Hb.out Hm.out.lt)
  clear c1 c2 c3 c4 f1 f2 f3 cm hown hb
  have c1 : w1.cell? ⟨br, 0, none⟩ = some (.pointer (some ⟨g, 0, none⟩)) := Hr1.out.cell 0
  have c2 : w1.cell? ⟨g, 0, none⟩ = some (.slice A bs.length c) := Hg1.out.cell 0
  have cm : w1.cell? ⟨bm, 0, none⟩ = some (.int .i64 most) := Hm1.out.cell 0
  have c4 : w1.cell? ⟨bn, 0, none⟩ = some v0 := Hn1.out.cell 0
  have f3 := Hn1.out.free 0
  refine hK _ _ (fun _ => ⟨c1, c2, cm⟩) ?_
  clear hK K
  iterate 4 (refine Rg.ord_quiet (v := ?_) rfl (fun w' hS => ?_) ⟨c1, c2, cm⟩ ?_; rotate_left; (obtain ⟨s1, s2, s3⟩ := hS; go_simp; with_reducible rfl); simp only [Act.put, List.setIfInBounds_toArray, List.set_cons_succ, List.set_cons_zero])
  refine Rg.ord_loud rfl (fun K hK => ?_)
  go_simp
  have hn2 := Hn1.out.put 0 (.slice Ax x.length cx)
  have hg2 := Hg1.out.off hgn (i := 0) (.slice Ax x.length cx)
  have hm2 := Hm1.out.off (Ne.symm hnm) (i := 0) (.slice Ax x.length cx)
  have hv2 := own_put Hown.out (g := bn) (i := 0) Hn.out.lt (.slice Ax x.length cx)
  have hr2 := Hr1.out.off (Ne.symm hnr) (i := 0) (.slice Ax x.length cx)
  have ho2 := (Only.of_below (fun b => b = g ∨ b = bn) Hb.out).put (g := bn) (i := 0) (.inr rfl) (.slice Ax x.length cx)
  obtain ⟨w2, hw2⟩ : ∃ w2, w2 = w1.setCell ⟨bn, 0, none⟩ (.slice Ax x.length cx) := ⟨_, rfl⟩
  rw [← hw2] at hn2 hg2 hr2 ho2 hm2 hv2 ⊢
  have Hv2 := hide hv2
  have Hm2 := hide hm2
  have Hn2 := hide hn2
  have Hg2 := hide hg2
  have Hr2 := hide hr2
  have Ho2 := hide ho2
  clear hw2 c1 c2 c4 f3 cm
  have c1 : w2.cell? ⟨br, 0, none⟩ = some (.pointer (some ⟨g, 0, none⟩)) := hr2.cell 0
  have c2 : w2.cell? ⟨g, 0, none⟩ = some (.slice A bs.length c) := hg2.cell 0
  have c3 : w2.cell? ⟨g, 1, none⟩ = some (.int .i64 0) := hg2.cell 1
  have f2 := hg2.free 1
  have cm : w2.cell? ⟨bm, 0, none⟩ = some (.int .i64 most) := hm2.cell 0
  clear hn2 hg2 hr2 ho2 hm2 hv2
  refine hK _ _ (fun _ => ⟨c1, c2, cm⟩) ?_
  clear hK K
  iterate 3 (refine Rg.ord_quiet (v := ?_) rfl (fun w' hS => ?_) ⟨c1, c2, cm⟩ ?_; rotate_left; (obtain ⟨s1, s2, s3⟩ := hS; go_simp; with_reducible rfl); simp only [Act.put, List.setIfInBounds_toArray, List.set_cons_succ, List.set_cons_zero])
  refine Rg.ord_loud rfl (fun K hK => ?_)
  go_simp
  have hn3 := Hn2.out.off (Ne.symm hgn) (i := 1) (.int .i64 (e : Int))
  have hg3 := Hg2.out.put 1 (.int .i64 (e : Int))
  have hm3 := Hm2.out.off (Ne.symm hgm) (i := 1) (.int .i64 (e : Int))
  have hv3 := own_put Hv2.out (g := g) (i := 1) Hg.out.lt (.int .i64 (e : Int))
  have hr3 := Hr2.out.off (Ne.symm hgr) (i := 1) (.int .i64 (e : Int))
  have ho3 := Ho2.out.put (g := g) (i := 1) (.inl rfl) (.int .i64 (e : Int))
  obtain ⟨w3, hw3⟩ : ∃ w3, w3 = w2.setCell ⟨g, 1, none⟩ (.int .i64 (e : Int)) := ⟨_, rfl⟩
  rw [← hw3] at hn3 hg3 hr3 ho3 hm3 hv3 ⊢
  have Hv3 := hide hv3
  have Hn3 := hide hn3
  have Hg3 := hide hg3
  have Ho3 := hide ho3
  have Hr3 := hide hr3
  clear hw3 c1 c2 c3 f2 cm
  have c1 : w3.cell? ⟨br, 0, none⟩ = some (.pointer (some ⟨g, 0, none⟩)) := hr3.cell 0
  have c2 : w3.cell? ⟨g, 0, none⟩ = some (.slice A bs.length c) := hg3.cell 0
  have c3 : w3.cell? ⟨g, 1, none⟩ = some (.int .i64 (e : Int)) := hg3.cell 1
  have f1 := hg3.free 0
  have cm : w3.cell? ⟨bm, 0, none⟩ = some (.int .i64 most) := hm3.cell 0
  clear hn3 hg3 hr3 ho3 hm3 hv3
  refine hK _ _ (fun _ => ⟨c1, c2, cm⟩) ?_
  clear hK K
  refine Rg.ord_nil ?_
  go_wp2
  refine Rg.wp_region_ord (fun w' => w'.cell? ⟨br, 0, none⟩ = some (.pointer (some ⟨g, 0, none⟩)) ∧ w'.cell? ⟨g, 0, none⟩ = some (.slice A bs.length c)) [(0, true), (1, true), (2, true), (3, true), (4, true), (5, true), (6, true), (7, true), (8, true), (9, false)] (by kernel_rfl) (by kernel_rfl) ?_
  simp only [Rg.pick, List.map_cons, List.map_nil, List.getD_cons_zero, List.getD_cons_succ]
  iterate 6 (refine Rg.ord_quiet (v := ?_) rfl (fun w' hS => ?_) ⟨c1, c2⟩ ?_; rotate_left; (obtain ⟨s1, s2⟩ := hS; go_simp; with_reducible rfl); simp only [Act.put, List.setIfInBounds_toArray, List.set_cons_succ, List.set_cons_zero])
  refine Rg.ord_quiet (v := .slice A2 (bs.length - k) (c - k)) rfl (fun w' hS => ?_) ⟨c1, c2⟩ ?_
  · have hq := Hcut.out w'
    clear hS
    go_simp
  simp only [Act.put, List.setIfInBounds_toArray, List.set_cons_succ, List.set_cons_zero]
  iterate 2 (refine Rg.ord_quiet (v := ?_) rfl (fun w' hS => ?_) ⟨c1, c2⟩ ?_; rotate_left; (obtain ⟨s1, s2⟩ := hS; go_simp; with_reducible rfl); simp only [Act.put, List.setIfInBounds_toArray, List.set_cons_succ, List.set_cons_zero])
  refine Rg.ord_loud rfl (fun K hK => ?_)
  go_simp
  have hv4 := own_put Hv3.out (g := g) (i := 0) Hg.out.lt (.slice A2 (bs.length - k) (c - k))
  have hr4 := Hr3.out.off (Ne.symm hgr) (i := 0) (.slice A2 (bs.length - k) (c - k))
  have hn4 := Hn3.out.off (Ne.symm hgn) (i := 0) (.slice A2 (bs.length - k) (c - k))
  have hg4 := Hg3.out.put 0 (.slice A2 (bs.length - k) (c - k))
  have ho4 := Ho3.out.put (g := g) (i := 0) (.inl rfl) (.slice A2 (bs.length - k) (c - k))
  obtain ⟨w4, hw4⟩ : ∃ w4, w4 = w3.setCell ⟨g, 0, none⟩ (.slice A2 (bs.length - k) (c - k)) := ⟨_, rfl⟩
  rw [← hw4] at hr4 hn4 hg4 ho4 hv4 ⊢
  have Hv4 := hide hv4
  have Hn4 := hide hn4
  have Hg4 := hide hg4
  have Ho4 := hide ho4
  clear hw4 c2 c3 f1
  have c1 : w4.cell? ⟨br, 0, none⟩ = some (.pointer (some ⟨g, 0, none⟩)) := hr4.cell 0
  have c3 : w4.cell? ⟨g, 1, none⟩ = some (.int .i64 (e : Int)) := hg4.cell 1
  clear hr4 hn4 hg4 ho4 hv4
  refine hK _ _ (fun hf => absurd (show Rg.sink _ 9 = true from by kernel_rfl) (by rw [hf]; decide)) ?_
  clear hK K
  refine Rg.ord_nil ?_
  go_wp2
  go_ret
  exact ⟨rfl, ⟨_, Hv4.out, Hn4.out⟩, Hg4.out, Ho4.out.drew⟩
end Go.Proofs.YtlplgkdoiinfhaaDoor.Wr
