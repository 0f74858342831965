/-
  What a tree has at a path; what becomes of what three trees have there.
-/
import Derived.BigQuiet
import Derived.Laws.ResultCell
import Derived.Test.YtahcokfoifdlmaaGreatDoorOB
import Derived.Test.YtahcokfoifdlmaaGreatDoorQMF
namespace Go.Proofs.YtahcokfoifdlmaaGreatDoor.Tr
open Go Go.RowKit Kt Lw Li Lx Df Al

abbrev tHad : TypeId := 64
def hadV (x : Bs × Bool) : Value := .agg #[.bool x.2, .string ⟨x.1.toArray⟩]
set_option maxRecDepth 100000 in
set_option maxHeartbeats 1000000 in
theorem bat_any (t : List Fl) (p : Bs) (A : Option Addr) (c : Nat) (w : World) (hs : Fls w A c t) (hn : t.length ≤ 1000000) {q : Option Bs} (hg : go q t = true) :
    Calls Tryz.prog 26 #[.slice A t.length c, .string ⟨p.toArray⟩] w fun y w' => y = .returned (hadV (get t p)) ∧ Below w.heap.size w w' := by
  have HG := hide (fun (wz : World) (h : Below w.heap.size w wz) => tget_any t p A c wz (hs.keep h) hn hg)
  obtain ⟨N, hN⟩ : ∃ N, N = t.length := ⟨_, rfl⟩
  rw [← hN] at HG ⊢
  obtain ⟨g, hgg⟩ : ∃ g, g = w.heap.size := ⟨_, rfl⟩
  have hb0 := Below.alloc (Below.refl w.heap.size w) (Nat.le_refl _) (.cells #[.bool false, .string ⟨#[]⟩] tHad)
  clear hs hn hg hN
  go_enter Tryz.func26, Tryz.ntmps26
  go_wp2_with fail
  refine (HG.out _ hb0).mono ?_
  rintro y w1 ⟨rfl, hb1⟩
  have hr := (Row.fresh w tHad #[.bool false, .string ⟨#[]⟩]).below hb1 (by simp)
  have c0 := hr.cell 0
  have c1 := hr.cell 1
  have f0 := hr.free 0
  have f1 := hr.free 1
  simp only [List.getElem?_cons_zero, List.getElem?_cons_succ] at c0 c1
  have hr2 := (hr.put 0 (.bool (get t p).2)).put 1 (.string ⟨(get t p).1.toArray⟩)
  have Hr2 := hide hr2
  have HB1 := hide (hb0.trans (hb1.mono hb0.size))
  clear hb1 hr hr2 hb0
  go_wp2
  exact bodyPost_ret (results_cell_row rfl _ _ w.heap.size tHad #[.bool (get t p).2, .string ⟨(get t p).1.toArray⟩] (0, 0) _ rfl Hr2.out Tryz.underlying64 rfl (by kernel_rfl)) rfl ⟨rfl, below_put (below_put HB1.out (Nat.le_refl _) _) (Nat.le_refl _) _⟩
theorem results_cellrow_tmp {P : Program} {fn : Func} {p u : Tmp} {ty : TypeId} (h : fn.results = #[.cell p ty, .tmp u]) (tmps : Array Value) (w : World) (g : Nat) (t : TypeId) (cs : Array Value) (fr : Nat × Nat) (d : TypeDesc)
    (hp : tmps.getD p undef = .pointer (some ⟨g, 0, none⟩)) (hg : w.heap[g]? = some (.cells cs t fr))
    (hu : P.underlying ty = some d) (hd : (match d with | .struct _ | .array _ _ => true | _ => false) = true) (hi : (P.info? ty).map (·.size) = some cs.size) :
    (results fn tmps).run P w = .ok (.tuple #[.agg cs, tmps.getD u undef]) w := by
  rw [results_cell_tmp h, hp]
  simp [asAddr, Result.andThen, run_loadVar_row w g t ty cs fr d hg hu hd hi]
theorem run_eq_had {x y : Bs × Bool} {r : Bool} (h : decide (x = y) = r) (w : World) : (binOp .eql tHad (.agg #[.bool x.2, .string ⟨x.1.toArray⟩]) (.agg #[.bool y.2, .string ⟨y.1.toArray⟩])).run Tryz.prog w = .ok (.bool r) w := by
  have hr : r = (decide (x.2 = y.2) && decide (x.1 = y.1)) := by
    rw [← h]
    by_cases h2 : x.2 = y.2
    · by_cases h1 : x.1 = y.1
      · rw [decide_eq_true h1, decide_eq_true h2, decide_eq_true (Prod.ext h1 h2)]; rfl
      · rw [decide_eq_false h1, decide_eq_false (fun e => h1 (congrArg Prod.fst e)), Bool.and_false]
    · rw [decide_eq_false h2, decide_eq_false (fun e => h2 (congrArg Prod.snd e)), Bool.false_and]
  rw [hr]
  clear h hr
  go_simp
  by_cases h2 : x.2 = y.2
  · rw [if_pos h2, decide_eq_true h2]
    by_cases h1 : x.1 = y.1
    · rw [if_pos h1, decide_eq_true h1]; rfl
    · rw [if_neg h1, decide_eq_false h1]; rfl
  · rw [if_neg h2, decide_eq_false h2]; rfl
abbrev TogQ (w : World) (y : Ending) (w' : World) (r : (Bs × Bool) × Bool) : Prop := y = .returned (.tuple #[hadV r.1, .bool r.2]) ∧ Below w.heap.size w w'
theorem row_four (w : World) (o1 o2 o3 : Obj) (t : TypeId) (cs : Array Value) : Row ((((w.alloc o1).alloc o2).alloc o3).alloc (.cells cs t)) (w.heap.size + 1 + 1 + 1) t cs.toList := Row.new _ t (by simp) rfl
theorem below_four (w : World) (o1 o2 o3 o4 : Obj) : Below w.heap.size w ((((w.alloc o1).alloc o2).alloc o3).alloc o4) :=
  ((((Below.refl _ _).alloc (Nat.le_refl _) _).alloc (by simp) _).alloc (by simp; omega) _).alloc (by simp; omega) _
set_option maxRecDepth 100000 in
set_option maxHeartbeats 2000000 in
theorem btog_1 (o a b : Bs × Bool) (w : World) (h : a = b) :
    Calls Tryz.prog 25 #[hadV o, hadV a, hadV b] w fun y w' => TogQ w y w' (a, false) := by
  subst h
  have E1 := fun w => run_eq_had (x := a) (y := a) (r := true) (by simp) w
  unfold hadV
  try simp only at *
  go_enter Tryz.func25, Tryz.ntmps25
  go_wp2
  exact bodyPost_ret (results_cellrow_tmp rfl _ _ (w.heap.size + 1 + 1 + 1) tHad #[.bool a.2, .string ⟨a.1.toArray⟩] (0, 0) _ rfl (row_four _ _ _ _ _ _) Tryz.underlying64 rfl (by kernel_rfl)) rfl ⟨rfl, below_four _ _ _ _ _⟩
set_option maxRecDepth 100000 in
set_option maxHeartbeats 2000000 in
theorem btog_2 (o a b : Bs × Bool) (w : World) (h : ¬ a = b) (h2 : b = o) :
    Calls Tryz.prog 25 #[hadV o, hadV a, hadV b] w fun y w' => TogQ w y w' (a, false) := by
  subst h2
  have E1 := fun w => run_eq_had (x := a) (y := b) (r := false) (decide_eq_false h) w
  have E2 := fun w => run_eq_had (x := b) (y := b) (r := true) (by simp) w
  clear h
  unfold hadV
  try simp only at *
  go_enter Tryz.func25, Tryz.ntmps25
  go_wp2
  exact bodyPost_ret (results_cellrow_tmp rfl _ _ (w.heap.size + 1 + 1 + 1) tHad #[.bool a.2, .string ⟨a.1.toArray⟩] (0, 0) _ rfl (row_four _ _ _ _ _ _) Tryz.underlying64 rfl (by kernel_rfl)) rfl ⟨rfl, below_four _ _ _ _ _⟩
set_option maxRecDepth 100000 in
set_option maxHeartbeats 2000000 in
theorem btog_3 (o a b : Bs × Bool) (w : World) (h : ¬ a = b) (h2 : ¬ b = o) (h3 : a = o) :
    Calls Tryz.prog 25 #[hadV o, hadV a, hadV b] w fun y w' => TogQ w y w' (b, false) := by
  subst h3
  have E1 := fun w => run_eq_had (x := a) (y := b) (r := false) (decide_eq_false h) w
  have E2 := fun w => run_eq_had (x := b) (y := a) (r := false) (decide_eq_false h2) w
  have E3 := fun w => run_eq_had (x := a) (y := a) (r := true) (by simp) w
  clear h h2
  unfold hadV
  try simp only at *
  go_enter Tryz.func25, Tryz.ntmps25
  go_wp2
  exact bodyPost_ret (results_cellrow_tmp rfl _ _ (w.heap.size + 1 + 1 + 1) tHad #[.bool b.2, .string ⟨b.1.toArray⟩] (0, 0) _ rfl (row_four _ _ _ _ _ _) Tryz.underlying64 rfl (by kernel_rfl)) rfl ⟨rfl, below_four _ _ _ _ _⟩
set_option maxRecDepth 100000 in
set_option maxHeartbeats 2000000 in
theorem btog_4 (o a b : Bs × Bool) (w : World) (h : ¬ a = b) (h2 : ¬ b = o) (h3 : ¬ a = o) (h4 : a.2 = false) :
    Calls Tryz.prog 25 #[hadV o, hadV a, hadV b] w fun y w' => TogQ w y w' (b, true) := by
  obtain ⟨a1, a2⟩ := a
  simp only at h4
  subst h4
  have E1 := fun w => run_eq_had (x := (a1, false)) (y := b) (r := false) (decide_eq_false h) w
  have E2 := fun w => run_eq_had (x := b) (y := o) (r := false) (decide_eq_false h2) w
  have E3 := fun w => run_eq_had (x := (a1, false)) (y := o) (r := false) (decide_eq_false h3) w
  clear h h2 h3
  unfold hadV
  try simp only at *
  go_enter Tryz.func25, Tryz.ntmps25
  go_wp2
  exact bodyPost_ret (results_cellrow_tmp rfl _ _ (w.heap.size + 1 + 1 + 1) tHad #[.bool b.2, .string ⟨b.1.toArray⟩] (0, 0) _ rfl (row_four _ _ _ _ _ _) Tryz.underlying64 rfl (by kernel_rfl)) rfl ⟨rfl, below_four _ _ _ _ _⟩
set_option maxRecDepth 100000 in
set_option maxHeartbeats 2000000 in
theorem btog_5 (o a b : Bs × Bool) (w : World) (h : ¬ a = b) (h2 : ¬ b = o) (h3 : ¬ a = o) (h4 : a.2 = true) (h5 : b.2 = false) :
    Calls Tryz.prog 25 #[hadV o, hadV a, hadV b] w fun y w' => TogQ w y w' (a, true) := by
  obtain ⟨a1, a2⟩ := a
  obtain ⟨b1, b2⟩ := b
  simp only at h4 h5
  subst h4 h5
  have E1 := fun w => run_eq_had (x := (a1, true)) (y := (b1, false)) (r := false) (decide_eq_false h) w
  have E2 := fun w => run_eq_had (x := (b1, false)) (y := o) (r := false) (decide_eq_false h2) w
  have E3 := fun w => run_eq_had (x := (a1, true)) (y := o) (r := false) (decide_eq_false h3) w
  clear h h2 h3
  unfold hadV
  try simp only at *
  go_enter Tryz.func25, Tryz.ntmps25
  go_wp2
  exact bodyPost_ret (results_cellrow_tmp rfl _ _ (w.heap.size + 1 + 1 + 1) tHad #[.bool true, .string ⟨a1.toArray⟩] (0, 0) _ rfl (row_four _ _ _ _ _ _) Tryz.underlying64 rfl (by kernel_rfl)) rfl ⟨rfl, below_four _ _ _ _ _⟩
set_option maxRecDepth 100000 in
set_option maxHeartbeats 2000000 in
theorem btog_6 (o : Bs × Bool) (a1 b1 : Bs) (w : World) (R : Bs × Nat) (h : ¬ (a1, true) = (b1, true)) (h2 : ¬ (b1, true) = o) (h3 : ¬ (a1, true) = o) (hR : R.1.length ≤ 1000000000) (hc : 65536 < R.1.length)
    (hM : ∀ wz, Below w.heap.size w wz → Calls Tryz.prog 43 #[.string ⟨o.1.toArray⟩, .string ⟨a1.toArray⟩, .string ⟨b1.toArray⟩] wz fun y w' => TextQ wz y w' R) :
    Calls Tryz.prog 25 #[hadV o, hadV (a1, true), hadV (b1, true)] w fun y w' => TogQ w y w' ((if lt a1 b1 then b1 else a1, true), true) := by
  have HM := hide hM
  have E1 := fun w => run_eq_had (x := (a1, true)) (y := (b1, true)) (r := false) (decide_eq_false h) w
  have E2 := fun w => run_eq_had (x := (b1, true)) (y := o) (r := false) (decide_eq_false h2) w
  have E3 := fun w => run_eq_had (x := (a1, true)) (y := o) (r := false) (decide_eq_false h3) w
  have hmax := fun ts ty w => run_max_txt (P := Tryz.prog) w ts ty a1 b1
  obtain ⟨T, hT⟩ : ∃ T, T = if lt a1 b1 then b1 else a1 := ⟨_, rfl⟩
  rw [← hT]
  have hT2 : T = if Op.bytesLess a1 b1 then b1 else a1 := hT
  simp only [← hT2] at hmax
  clear hT hT2
  have hd : decide ((65536 : Int) < (R.1.length : Int)) = true := decide_eq_true (by omega)
  have hb4 := below_four w (.cells #[.bool o.2, .string ⟨o.1.toArray⟩] tHad) (.cells #[.bool true, .string ⟨a1.toArray⟩] tHad) (.cells #[.bool true, .string ⟨b1.toArray⟩] tHad) (.cells #[.bool false, .string ⟨#[]⟩] tHad)
  have r1 := ((Row.new (w.alloc (.cells #[.bool o.2, .string ⟨o.1.toArray⟩] tHad)) (g := w.heap.size + 1) tHad (cs := #[.bool true, .string ⟨a1.toArray⟩]) (by simp) rfl).alloc (.cells #[.bool true, .string ⟨b1.toArray⟩] tHad)).alloc (.cells #[.bool false, .string ⟨#[]⟩] tHad)
  have r2 := (Row.new ((w.alloc (.cells #[.bool o.2, .string ⟨o.1.toArray⟩] tHad)).alloc (.cells #[.bool true, .string ⟨a1.toArray⟩] tHad)) (g := w.heap.size + 1 + 1) tHad (cs := #[.bool true, .string ⟨b1.toArray⟩]) (by simp) rfl).alloc (.cells #[.bool false, .string ⟨#[]⟩] tHad)
  have r3 := row_four w (.cells #[.bool o.2, .string ⟨o.1.toArray⟩] tHad) (.cells #[.bool true, .string ⟨a1.toArray⟩] tHad) (.cells #[.bool true, .string ⟨b1.toArray⟩] tHad) tHad #[.bool false, .string ⟨#[]⟩]
  have R1 := hide r1
  have R2 := hide r2
  have R3 := hide r3
  have Hb4 := hide hb4
  clear h h2 h3 hM r1 r2 r3 hb4 hc
  unfold hadV
  try simp only at *
  go_enter Tryz.func25, Tryz.ntmps25
  go_wp2_with fail
  refine (HM.out _ Hb4.out).mono ?_
  rintro y w5 ⟨rfl, hb5⟩
  have r1 := R1.out.below hb5 R1.out.lt
  have r2 := R2.out.below hb5 R2.out.lt
  have r3 := R3.out.below hb5 R3.out.lt
  have a1c := r1.cell 1
  have b1c := r2.cell 1
  have c0 := r3.cell 0
  have c1 := r3.cell 1
  have f0 := r3.free 0
  have f1 := r3.free 1
  simp only [List.getElem?_cons_zero, List.getElem?_cons_succ] at a1c b1c c0 c1
  have Hr := hide ((r3.put 0 (.bool true)).put 1 (.string ⟨T.toArray⟩))
  have HB := hide (Hb4.out.trans (hb5.mono Hb4.out.size))
  clear hb5 r1 r2 r3 R1 R2 R3 Hb4 HM
  go_wp2
  exact bodyPost_ret (results_cellrow_tmp rfl _ _ (w.heap.size + 1 + 1 + 1) tHad #[.bool true, .string ⟨T.toArray⟩] (0, 0) _ rfl Hr.out Tryz.underlying64 rfl (by kernel_rfl)) rfl ⟨by first | rfl | (simp [hadV, hd2]; done), below_put (below_put HB.out (by omega) _) (by omega) _⟩
set_option maxRecDepth 100000 in
set_option maxHeartbeats 2000000 in
theorem btog_7 (o : Bs × Bool) (a1 b1 : Bs) (w : World) (R : Bs × Nat) (h : ¬ (a1, true) = (b1, true)) (h2 : ¬ (b1, true) = o) (h3 : ¬ (a1, true) = o) (hR : R.1.length ≤ 1000000000) (hc : ¬ 65536 < R.1.length)
    (hM : ∀ wz, Below w.heap.size w wz → Calls Tryz.prog 43 #[.string ⟨o.1.toArray⟩, .string ⟨a1.toArray⟩, .string ⟨b1.toArray⟩] wz fun y w' => TextQ wz y w' R) :
    Calls Tryz.prog 25 #[hadV o, hadV (a1, true), hadV (b1, true)] w fun y w' => TogQ w y w' ((R.1, true), decide (0 < R.2)) := by
  have HM := hide hM
  have E1 := fun w => run_eq_had (x := (a1, true)) (y := (b1, true)) (r := false) (decide_eq_false h) w
  have E2 := fun w => run_eq_had (x := (b1, true)) (y := o) (r := false) (decide_eq_false h2) w
  have E3 := fun w => run_eq_had (x := (a1, true)) (y := o) (r := false) (decide_eq_false h3) w
  have hd : decide ((65536 : Int) < (R.1.length : Int)) = false := decide_eq_false (by omega)
  have hd2 : decide ((0 : Int) < (R.2 : Int)) = decide (0 < R.2) := by rw [decide_eq_decide]; omega
  have hb4 := below_four w (.cells #[.bool o.2, .string ⟨o.1.toArray⟩] tHad) (.cells #[.bool true, .string ⟨a1.toArray⟩] tHad) (.cells #[.bool true, .string ⟨b1.toArray⟩] tHad) (.cells #[.bool false, .string ⟨#[]⟩] tHad)
  have r1 := ((Row.new (w.alloc (.cells #[.bool o.2, .string ⟨o.1.toArray⟩] tHad)) (g := w.heap.size + 1) tHad (cs := #[.bool true, .string ⟨a1.toArray⟩]) (by simp) rfl).alloc (.cells #[.bool true, .string ⟨b1.toArray⟩] tHad)).alloc (.cells #[.bool false, .string ⟨#[]⟩] tHad)
  have r2 := (Row.new ((w.alloc (.cells #[.bool o.2, .string ⟨o.1.toArray⟩] tHad)).alloc (.cells #[.bool true, .string ⟨a1.toArray⟩] tHad)) (g := w.heap.size + 1 + 1) tHad (cs := #[.bool true, .string ⟨b1.toArray⟩]) (by simp) rfl).alloc (.cells #[.bool false, .string ⟨#[]⟩] tHad)
  have r3 := row_four w (.cells #[.bool o.2, .string ⟨o.1.toArray⟩] tHad) (.cells #[.bool true, .string ⟨a1.toArray⟩] tHad) (.cells #[.bool true, .string ⟨b1.toArray⟩] tHad) tHad #[.bool false, .string ⟨#[]⟩]
  have R1 := hide r1
  have R2 := hide r2
  have R3 := hide r3
  have Hb4 := hide hb4
  clear h h2 h3 hM r1 r2 r3 hb4 hc
  unfold hadV
  try simp only at *
  go_enter Tryz.func25, Tryz.ntmps25
  go_wp2_with fail
  refine (HM.out _ Hb4.out).mono ?_
  rintro y w5 ⟨rfl, hb5⟩
  have r1 := R1.out.below hb5 R1.out.lt
  have r2 := R2.out.below hb5 R2.out.lt
  have r3 := R3.out.below hb5 R3.out.lt
  have a1c := r1.cell 1
  have b1c := r2.cell 1
  have c0 := r3.cell 0
  have c1 := r3.cell 1
  have f0 := r3.free 0
  have f1 := r3.free 1
  simp only [List.getElem?_cons_zero, List.getElem?_cons_succ] at a1c b1c c0 c1
  have Hr := hide ((r3.put 0 (.bool true)).put 1 (.string ⟨R.1.toArray⟩))
  have HB := hide (Hb4.out.trans (hb5.mono Hb4.out.size))
  clear hb5 r1 r2 r3 R1 R2 R3 Hb4 HM
  go_wp2
  exact bodyPost_ret (results_cellrow_tmp rfl _ _ (w.heap.size + 1 + 1 + 1) tHad #[.bool true, .string ⟨R.1.toArray⟩] (0, 0) _ rfl Hr.out Tryz.underlying64 rfl (by kernel_rfl)) rfl ⟨by first | rfl | (simp [hadV, hd2]; done), below_put (below_put HB.out (by omega) _) (by omega) _⟩
/-- what becomes of what three trees have at a path -/
theorem btog_any (o a b : Bs × Bool) (w : World)
    (hR : ¬ a = b → ¬ b = o → ¬ a = o → (mgT o.1 a.1 b.1).1.length ≤ 1000000000)
    (hM : ¬ a = b → ¬ b = o → ¬ a = o → ∀ wz, Calls Tryz.prog 43 #[.string ⟨o.1.toArray⟩, .string ⟨a.1.toArray⟩, .string ⟨b.1.toArray⟩] wz fun y w' => TextQ wz y w' (mgT o.1 a.1 b.1)) :
    Calls Tryz.prog 25 #[hadV o, hadV a, hadV b] w fun y w' => TogQ w y w' (tog mgT o a b) := by
  unfold tog
  by_cases h1 : a = b
  · rw [if_pos (.inl h1)]; exact btog_1 o a b w h1
  · by_cases h2 : b = o
    · rw [if_pos (.inr h2)]; exact btog_2 o a b w h1 h2
    · rw [if_neg (fun h => h.elim h1 h2)]
      by_cases h3 : a = o
      · rw [if_pos h3]; exact btog_3 o a b w h1 h2 h3
      · rw [if_neg h3]
        by_cases h4 : a.2 = false
        · rw [if_pos h4]; exact btog_4 o a b w h1 h2 h3 h4
        · rw [if_neg h4]
          have h4 : a.2 = true := by
            cases h : a.2 with
            | true => rfl
            | false => exact absurd h h4
          by_cases h5 : b.2 = false
          · rw [if_pos h5]; exact btog_5 o a b w h1 h2 h3 h4 h5
          · rw [if_neg h5]
            have h5 : b.2 = true := by
              cases h : b.2 with
              | true => rfl
              | false => exact absurd h h5
            obtain ⟨a1, a2⟩ := a
            obtain ⟨b1, b2⟩ := b
            simp only at h4 h5
            subst h4 h5
            by_cases h6 : 65536 < (mgT o.1 a1 b1).1.length
            · rw [if_pos h6]; exact btog_6 o a1 b1 w _ h1 h2 h3 (hR h1 h2 h3) h6 (fun wz _ => hM h1 h2 h3 wz)
            · rw [if_neg h6]; exact btog_7 o a1 b1 w _ h1 h2 h3 (hR h1 h2 h3) h6 (fun wz _ => hM h1 h2 h3 wz)
end Go.Proofs.YtahcokfoifdlmaaGreatDoor.Tr
