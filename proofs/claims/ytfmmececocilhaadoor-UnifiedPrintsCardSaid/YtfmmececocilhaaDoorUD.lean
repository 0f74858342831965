/-
  unified: place, small, side.
-/
import Derived.Test.YtfmmececocilhaaDoorUB
import Derived.Test.YtfmmececocilhaaDoorLDs
import Derived.Test.YtfmmececocilhaaDoorHEs
import Derived.Lib.AppendIntMem
namespace Go.Proofs.YtfmmececocilhaaDoor.Un
open Go Go.RowKit Kt Lw Li Df Hu

/-- what the library's variables hold -/
structure Env (w : World) : Prop where
  tab : Lib.TabIs Tryd.prog w "internal/strconv.uint64pow10" .u64 Lib.pow10Tab
  most : ∃ m, w.cell? ⟨0, 0, none⟩ = some (.int .i64 m)
  syn : ∃ t p, w.cell? ⟨4, 0, none⟩ = some (.iface t p)
  rng : ∃ t p, w.cell? ⟨5, 0, none⟩ = some (.iface t p)
theorem Env.keep {w w' : World} (h : Env w) (hb : Below w.heap.size w w') : Env w' := by
  obtain ⟨m, hm⟩ := h.most
  obtain ⟨t, p, hs⟩ := h.syn
  obtain ⟨t', p', hr⟩ := h.rng
  exact ⟨Lib.tabBelow_of_tabIs h.tab w' hb, ⟨m, cell_keep hb hm⟩, ⟨t, p, cell_keep hb hs⟩, ⟨t', p', cell_keep hb hr⟩⟩
theorem grow_below (w : World) (k : Nat) (os : Array Obj) : Below w.heap.size w (Sort.grow (w.drewN k) os) := Lib.below_grow _ w (Nat.le_refl _) k os
theorem run_max3 (P : Program) (ts : Array TypeId) (t : TypeId) (k : IntKind) (x y z : Int) (w : World) : (Builtin.max_ ts t #[.int k x, .int k y, .int k z]).run P w = .ok (.int k (max (max x y) z)) w := by
  have h : ∀ a b : Int, (Builtin.max2 (.int k a) (.int k b)).run P w = .ok (.int k (max a b)) w := fun a b => by
    have e : (if b > a then b else a) = max a b := by split <;> omega
    rw [← e]
    simp [Builtin.max2]
  simp only [Builtin.max_, List.foldlM_cons, List.foldlM_nil, Sem.run_bind, Sem.run_pure, h, Result.andThen]
set_option maxRecDepth 100000 in
set_option maxHeartbeats 400000 in
theorem place_any (p m : Int) (w : World) (hp : -4503599627370496 ≤ p ∧ p ≤ 4503599627370496) (hm : 0 ≤ m ∧ m ≤ 4503599627370496) :
    Calls Tryd.prog 48 #[.int .i64 p, .int .i64 m] w fun y w' => y = .returned (.int .i64 (plc p m)) ∧ w' = w := by
  have hpl : plc p m = p + min m 1 := rfl
  by_cases h : m < 1
  · have h0 : m = 0 := by omega
    subst h0
    have hw : IntKind.i64.wrap p = p := IntWalk.i64_in _ (by omega)
    rw [hpl]
    go_enter Tryd.func48, Tryd.ntmps48
    go_wp2
    go_ret
    exact ⟨by simp, rfl⟩
  · have h1 : min m 1 = 1 := by omega
    have h2 : ¬ m < 1 := h
    have hw : IntKind.i64.wrap (p + 1) = p + 1 := IntWalk.i64_in _ (by omega)
    rw [hpl, h1]
    go_enter Tryd.func48, Tryd.ntmps48
    go_wp2
    go_ret
    exact ⟨rfl, rfl⟩
set_option maxRecDepth 100000 in
set_option maxHeartbeats 400000 in
theorem small_any (p m : Int) (w : World) (hp : -4503599627370496 ≤ p ∧ p ≤ 4503599627370496) (hm : 0 ≤ m ∧ m ≤ 4503599627370496) :
    Calls Tryd.prog 34 #[.int .i64 p, .int .i64 m] w fun y w' => y = .returned (.bool (smlB p m)) ∧ w' = w := by
  have HP := hide (place_any p m w hp hm)
  have hs : smlB p m = decide (max (max p m) (plc p m) < 2147483648) := rfl
  have HS := hide hs
  clear hs hp hm
  generalize plc p m = x at *
  go_enter Tryd.func34, Tryd.ntmps34
  go_wp2_with fail
  refine HP.out.mono ?_
  rintro y w1 ⟨rfl, rfl⟩
  go_wp2
  rw [run_max3]
  simp only [Result.andThen]
  rw [Oper.upon_value]
  go_wp2
  go_ret
  exact ⟨by rw [HS.out, Int.max_assoc]; rfl, rfl⟩
end Go.Proofs.YtfmmececocilhaaDoor.Un
