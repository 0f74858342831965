/-
  The program's graph in memory: its row, its four maps, its lists of parents, and who stands behind whom.
-/
import Derived.Test.YtlfncnnfpniigaaRegB
import Derived.Test.YtlfncnnfpniigaaDG
import Derived.Test.YtlfncnnfpniigaaXA
import Derived.Test.YtlfncnnfpniigaaXF
namespace Go.Proofs.Ytlfncnnfpniigaa.Dq
open Go Go.RowKit Kt Kg Lw Tr

abbrev tDag : TypeId := 53
abbrev tMN : TypeId := 48
abbrev tMH : TypeId := 49
abbrev tMW : TypeId := 50
abbrev tMB : TypeId := 51
/-- is it known, but not in? -/
def waits (D : List Nd) (k : Bs) : Bool := (get D k).isSome && !has D k
/-- an id's parents, whether it is in or not -/
def psL (D : List Nd) (k : Bs) : List Bs := ((get D k).map Nd.ps).getD []
theorem psL_of {D : List Nd} (h : Up (D.map Nd.id)) {n : Nd} (hn : n ∈ D) : psL D n.id = n.ps := by unfold psL; rw [get_of h hn]; rfl
theorem waits_of {D : List Nd} (h : Up (D.map Nd.id)) {n : Nd} (hn : n ∈ D) : waits D n.id = !n.on := by unfold waits; rw [get_of h hn, has_of h hn]; rfl
theorem known_if {D : List Nd} {k : Bs} : (get D k).isSome = true ↔ has D k = true ∨ waits D k = true := by
  unfold waits
  cases h : get D k with
  | none => unfold has; rw [h]; simp
  | some n => cases has D k <;> simp
theorem has_known {D : List Nd} {k : Bs} (h : has D k = true) : (get D k).isSome = true := known_if.2 (.inl h)
theorem parents_psL (D : List Nd) (k : Bs) : parents D k = if has D k then psL D k else [] := by
  unfold parents psL has
  cases get D k with
  | none => rfl
  | some n => cases hn : n.on <;> simp [hn]
theorem all_up {D : List Nd} (h : Up (D.map Nd.id)) (b : Bool) : Up (all D b) := List.Pairwise.sublist ((List.filter_sublist (l := D)).map Nd.id) h
theorem heads_up {D : List Nd} (h : Up (D.map Nd.id)) : Up (heads D) := List.Pairwise.sublist ((List.filter_sublist (l := D)).map Nd.id) h
theorem up_nodup {l : List Bs} (h : Up l) : l.Nodup := h.imp fun h e => lt_ne h e
theorem all_in {D : List Nd} (h : Up (D.map Nd.id)) (k : Bs) : k ∈ all D true ↔ has D k = true := by
  rw [has_iff h]
  unfold all
  simp only [List.mem_map, List.mem_filter, beq_iff_eq]
  exact ⟨fun ⟨n, ⟨h1, h2⟩, h3⟩ => ⟨n, h1, h3, h2⟩, fun ⟨n, h1, h3, h2⟩ => ⟨n, ⟨h1, h2⟩, h3⟩⟩
theorem all_wait {D : List Nd} (h : Up (D.map Nd.id)) (k : Bs) : k ∈ all D false ↔ waits D k = true := by
  unfold all
  simp only [List.mem_map, List.mem_filter, beq_iff_eq]
  constructor
  · rintro ⟨n, ⟨h1, h2⟩, rfl⟩
    rw [waits_of h h1, h2]; rfl
  · intro hk
    obtain ⟨n, hn⟩ := Option.isSome_iff_exists.1 (known_if.2 (.inr hk))
    obtain ⟨q1, rfl⟩ := get_some hn
    rw [waits_of h q1] at hk
    exact ⟨n, ⟨q1, by simpa using hk⟩, rfl⟩
theorem srt_up_id {l : List Bs} (h : Up l) : srt l = l := srt_is (up_nodup h) h fun _ => Iff.rfl
theorem ids_short {D : List Nd} (h : Okd D) {k : Bs} (hk : (get D k).isSome = true) : k.length ≤ 40 := by
  obtain ⟨n, hn⟩ := Option.isSome_iff_exists.1 hk
  obtain ⟨q1, rfl⟩ := get_some hn
  exact (h.ids n q1).1
/-! ### The memory -/
/-- the blocks: the graph, its maps, the lists of parents, and the rows of who stands behind -/
structure Pc where
  g : Nat
  a : Nat
  b : Nat
  c : Nat
  d : Nat
  Sp : Nat → Prop
  Sb : Bs → Nat → Prop
/-- the five first ones -/
def Pc.five (p : Pc) (k : Nat) : Prop := k = p.g ∨ k = p.a ∨ k = p.b ∨ k = p.c ∨ k = p.d
def Pc.S (p : Pc) (k : Nat) : Prop := p.five k ∨ p.Sp k ∨ ∃ x, p.Sb x k
structure Pc.Ok (p : Pc) : Prop where
  ga : p.g ≠ p.a
  gb : p.g ≠ p.b
  gc : p.g ≠ p.c
  gd : p.g ≠ p.d
  ab : p.a ≠ p.b
  ac : p.a ≠ p.c
  ad : p.a ≠ p.d
  bc : p.b ≠ p.c
  bd : p.b ≠ p.d
  cd : p.c ≠ p.d
  sp : ∀ k, p.Sp k → ¬ p.five k
  sb : ∀ x k, p.Sb x k → ¬ p.five k ∧ ¬ p.Sp k
  one : ∀ x y k, p.Sb x k → p.Sb y k → x = y
def ndV (s : Option Addr × Nat) (l : List Bs) (x : Nat) : Value := .agg #[.slice s.1 l.length s.2, .int .i64 x]
def unV : Value := .agg #[]
structure Gm (w : World) (p : Pc) (D : List Nd) (sl : Bs → Option Addr × Nat) (su lev : Bs → Nat) (bh : Bs → List Bs) (bv : Bs → Option Value) : Prop where
  ok : p.Ok
  row : w.heap[p.g]? = some (.cells #[.map (some p.a), .map (some p.b), .map (some p.c), .map (some p.d)] tDag (0, 0))
  mN : Mp w p.a fun k => if has D k then some (ndV (sl k) (psL D k) (lev k)) else none
  mH : Mp w p.b fun k => if k ∈ heads D then some unV else none
  mW : Mp w p.c fun k => if waits D k then some (ndV (sl k) (psL D k) (su k)) else none
  mB : Mp w p.d bv
  sls : ∀ k, (get D k).isSome = true → Vs w p.Sp (sl k).1 (sl k).2 (texts (psL D k))
  rows : ∀ k, (bh k = [] ∧ bv k = none) ∨ ∃ v, bv k = some v ∧ OwT w 0 tId v (bh k) ∧ ∀ b, v.ownBlock = some b → p.Sb k b
  lt : ∀ k, p.S k → k < w.heap.size
section
variable {w w' : World} {p : Pc} {D : List Nd} {sl : Bs → Option Addr × Nat} {su lev : Bs → Nat} {bh : Bs → List Bs} {bv : Bs → Option Value}
theorem OwT.moved {B : Nat} {v : Value} {l : List Bs} (h : OwT w B tId v l) (hb : ∀ g, v.ownBlock = some g → w'.heap[g]? = w.heap[g]?) : OwT w' B tId v l := by
  refine ⟨h.1, ?_⟩
  rcases h.2 with k | ⟨g, cap, cur, hv, k1, k2, k3⟩
  · exact .inl k
  · exact .inr ⟨g, cap, cur, hv, k1, (hb g (by rw [hv]; rfl)).trans k2, k3⟩
theorem Gm.move (h : Gm w p D sl su lev bh bv) (hb : ∀ k, p.S k → w'.heap[k]? = w.heap[k]?) (hs : w.heap.size ≤ w'.heap.size) : Gm w' p D sl su lev bh bv :=
  ⟨h.ok, (hb _ (.inl (.inl rfl))).trans h.row, h.mN.move (hb _ (.inl (.inr (.inl rfl)))), h.mH.move (hb _ (.inl (.inr (.inr (.inl rfl))))), h.mW.move (hb _ (.inl (.inr (.inr (.inr (.inl rfl)))))), h.mB.move (hb _ (.inl (.inr (.inr (.inr (.inr rfl)))))),
    fun k hk => (h.sls k hk).move fun b hb' _ => hb b (.inr (.inl hb')),
    fun k => (h.rows k).imp id fun ⟨v, h1, h2, h3⟩ => ⟨v, h1, OwT.moved h2 fun g hg => hb g (.inr (.inr ⟨k, h3 g hg⟩)), h3⟩,
    fun k hk => Nat.lt_of_lt_of_le (h.lt k hk) hs⟩
theorem Gm.below (h : Gm w p D sl su lev bh bv) (hb : Below w.heap.size w w') : Gm w' p D sl su lev bh bv := h.move (fun k hk => hb.block k (h.lt k hk)) hb.size
theorem Gm.cells (h : Gm w p D sl su lev bh bv) : w.cell? ⟨p.g, 0, none⟩ = some (.map (some p.a)) ∧ w.cell? ⟨p.g, 1, none⟩ = some (.map (some p.b)) ∧ w.cell? ⟨p.g, 2, none⟩ = some (.map (some p.c)) ∧ w.cell? ⟨p.g, 3, none⟩ = some (.map (some p.d)) := by
  refine ⟨?_, ?_, ?_, ?_⟩ <;> simp [World.cell?, h.row]
end
theorem fldN0 (A : Option Addr) (n c : Nat) (x : Int) (w : World) : (Instr.field 61 (.agg #[.slice A n c, .int .i64 x]) 0).run Try.prog w = .ok (.slice A n c) w := by kernel_rfl
theorem fldN1 (A : Option Addr) (n c : Nat) (x : Int) (w : World) : (Instr.field 61 (.agg #[.slice A n c, .int .i64 x]) 1).run Try.prog w = .ok (.int .i64 x) w := by kernel_rfl
theorem fldW0 (A : Option Addr) (n c : Nat) (x : Int) (w : World) : (Instr.field 57 (.agg #[.slice A n c, .int .i64 x]) 0).run Try.prog w = .ok (.slice A n c) w := by kernel_rfl
theorem zeroN (w : World) : (zeroValue 61).run Try.prog w = .ok (.agg #[.slice none 0 0, .int .i64 0]) w := by kernel_rfl
theorem zeroW (w : World) : (zeroValue 57).run Try.prog w = .ok (.agg #[.slice none 0 0, .int .i64 0]) w := by kernel_rfl
theorem zeroU (w : World) : (zeroValue 63).run Try.prog w = .ok (.agg #[]) w := by kernel_rfl
theorem zeroB (w : World) : (zeroValue 31).run Try.prog w = .ok (.slice none 0 0) w := by kernel_rfl
section
variable {w : World} {p : Pc} {D : List Nd} {sl : Bs → Option Addr × Nat} {su lev : Bs → Nat} {bh : Bs → List Bs} {bv : Bs → Option Value}
/-- what lies in the map of those that are in, at any id -/
theorem Gm.lookN (h : Gm w p D sl su lev bh bv) (k : Bs) (ok : Bool) : ∃ A n c x, (Instr.lookup tMN (.map (some p.a)) (kS k) ok).run Try.prog w = .ok (if ok then .tuple #[.agg #[.slice A n c, .int .i64 x], .bool (has D k)] else .agg #[.slice A n c, .int .i64 x]) w ∧
    (has D k = true → A = (sl k).1 ∧ c = (sl k).2 ∧ n = (psL D k).length ∧ x = (lev k : Int)) ∧ (has D k = false → A = none ∧ n = 0 ∧ c = 0 ∧ x = 0) := by
  cases hk : has D k with
  | true =>
    have := h.mN.look_some (P := Try.prog) (T := tMN) Try.underlying48 Try.underlying23 (k := k) (v := ndV (sl k) (psL D k) (lev k)) (by simp [hk]) ok
    exact ⟨_, _, _, _, this, fun _ => ⟨rfl, rfl, rfl, rfl⟩, fun h => Bool.noConfusion h⟩
  | false =>
    have := h.mN.look_none (P := Try.prog) (T := tMN) Try.underlying48 Try.underlying23 (zeroN w) (k := k) (by simp [hk]) ok
    exact ⟨none, 0, 0, 0, this, fun h => Bool.noConfusion h, fun _ => ⟨rfl, rfl, rfl, rfl⟩⟩
theorem Gm.lookW (h : Gm w p D sl su lev bh bv) (k : Bs) (ok : Bool) : ∃ A n c x, (Instr.lookup tMW (.map (some p.c)) (kS k) ok).run Try.prog w = .ok (if ok then .tuple #[.agg #[.slice A n c, .int .i64 x], .bool (waits D k)] else .agg #[.slice A n c, .int .i64 x]) w ∧
    (waits D k = true → A = (sl k).1 ∧ c = (sl k).2 ∧ n = (psL D k).length ∧ x = (su k : Int)) ∧ (waits D k = false → A = none ∧ n = 0 ∧ c = 0 ∧ x = 0) := by
  cases hk : waits D k with
  | true =>
    have := h.mW.look_some (P := Try.prog) (T := tMW) Try.underlying50 Try.underlying23 (k := k) (v := ndV (sl k) (psL D k) (su k)) (by simp [hk]) ok
    exact ⟨_, _, _, _, this, fun _ => ⟨rfl, rfl, rfl, rfl⟩, fun h => Bool.noConfusion h⟩
  | false =>
    have := h.mW.look_none (P := Try.prog) (T := tMW) Try.underlying50 Try.underlying23 (zeroW w) (k := k) (by simp [hk]) ok
    exact ⟨none, 0, 0, 0, this, fun h => Bool.noConfusion h, fun _ => ⟨rfl, rfl, rfl, rfl⟩⟩
set_option maxRecDepth 100000 in
set_option maxHeartbeats 1000000 in
theorem phas_any (h : Gm w p D sl su lev bh bv) (id : Bs) : Calls Try.prog 20 #[pt p.g, kS id] w fun y w' => y = .returned (.bool (has D id)) ∧ Below w.heap.size w w' := by
  obtain ⟨c0, _⟩ := h.cells
  obtain ⟨A, n, c, x, hlk, _, _⟩ := h.lookN id true
  generalize has D id = r at *
  simp only [if_true] at hlk
  clear h
  go_enter Try.func20, Try.ntmps20
  go_wp2
  go_ret
  exact ⟨rfl, (Below.refl _ w).alloc (Nat.le_refl _) _⟩
set_option maxRecDepth 100000 in
set_option maxHeartbeats 1000000 in
theorem pwaits_any (h : Gm w p D sl su lev bh bv) (id : Bs) : Calls Try.prog 31 #[pt p.g, kS id] w fun y w' => y = .returned (.bool (waits D id)) ∧ Below w.heap.size w w' := by
  obtain ⟨_, _, c0, _⟩ := h.cells
  obtain ⟨A, n, c, x, hlk, _, _⟩ := h.lookW id true
  generalize waits D id = r at *
  simp only [if_true] at hlk
  clear h
  go_enter Try.func31, Try.ntmps31
  go_wp2
  go_ret
  exact ⟨rfl, (Below.refl _ w).alloc (Nat.le_refl _) _⟩
set_option maxRecDepth 100000 in
set_option maxHeartbeats 1000000 in
theorem pmanyD_any (h : Gm w p D sl su lev bh bv) (hI : Inv D) : Calls Try.prog 19 #[pt p.g] w fun y w' => y = .returned (.int .i64 ((all D true).length : Int)) ∧ Below w.heap.size w w' := by
  obtain ⟨c0, _⟩ := h.cells
  have hlen := fun ty => h.mN.len (P := Try.prog) (T := tMN) Try.underlying48 (all D true) (up_nodup (all_up hI.up true)) (fun k => by rw [all_in hI.up]; cases has D k <;> simp) ty
  generalize (all D true).length = n at *
  clear h
  go_enter Try.func19, Try.ntmps19
  go_wp2
  go_ret
  exact ⟨rfl, Below.refl _ _⟩
theorem Okd.few_all {D : List Nd} (h : Okd D) (b : Bool) : (all D b).length ≤ 1000 := by have := all_len D b; have := h.few; omega
theorem Okd.few_heads {D : List Nd} (h : Okd D) : (heads D).length ≤ 1000 := by
  have : (heads D).length ≤ D.length := by unfold heads; rw [List.length_map]; exact List.length_filter_le _ _
  have := h.few; omega
set_option maxRecDepth 100000 in
set_option maxHeartbeats 1000000 in
theorem pidsD_any (h : Gm w p D sl su lev bh bv) (hK : Okd D) : Calls Try.prog 14 #[pt p.g] w fun y w' => ∃ v, y = .returned v ∧ OwT w' w.heap.size tId v (all D true) ∧ Below w.heap.size w w' := by
  obtain ⟨c0, _⟩ := h.cells
  have hu := all_up hK.inv.up true
  have HR := hide (risingN_any h.mN (all D true) (up_nodup hu) (fun k => by rw [all_in hK.inv.up]; cases has D k <;> simp) (fun k hk => by have := ids_short hK (has_known ((all_in hK.inv.up k).1 hk)); omega) (hK.few_all true))
  rw [srt_up_id hu] at HR
  clear h hu
  go_enter Try.func14, Try.ntmps14
  go_wp2_with fail
  refine HR.out.mono ?_
  rintro y w1 ⟨v, rfl, h1, h2⟩
  have H1 := hide h1
  have H2 := hide h2
  clear h1 h2 HR
  go_wp2
  go_ret
  exact ⟨_, rfl, H1.out, H2.out⟩
set_option maxRecDepth 100000 in
set_option maxHeartbeats 1000000 in
theorem pwaiting_any (h : Gm w p D sl su lev bh bv) (hK : Okd D) : Calls Try.prog 16 #[pt p.g] w fun y w' => ∃ v, y = .returned v ∧ OwT w' w.heap.size tId v (all D false) ∧ Below w.heap.size w w' := by
  obtain ⟨_, _, c0, _⟩ := h.cells
  have hu := all_up hK.inv.up false
  have HR := hide (risingW_any h.mW (all D false) (up_nodup hu) (fun k => by rw [all_wait hK.inv.up]; cases waits D k <;> simp) (fun k hk => by have := ids_short hK (known_if.2 (.inr ((all_wait hK.inv.up k).1 hk))); omega) (hK.few_all false))
  rw [srt_up_id hu] at HR
  clear h hu
  go_enter Try.func16, Try.ntmps16
  go_wp2_with fail
  refine HR.out.mono ?_
  rintro y w1 ⟨v, rfl, h1, h2⟩
  have H1 := hide h1
  have H2 := hide h2
  clear h1 h2 HR
  go_wp2
  go_ret
  exact ⟨_, rfl, H1.out, H2.out⟩
set_option maxRecDepth 100000 in
set_option maxHeartbeats 1000000 in
theorem pheads_any (h : Gm w p D sl su lev bh bv) (hK : Okd D) : Calls Try.prog 26 #[pt p.g] w fun y w' => ∃ v, y = .returned v ∧ OwT w' w.heap.size tId v (heads D) ∧ Below w.heap.size w w' := by
  obtain ⟨_, c0, _, _⟩ := h.cells
  have hu := heads_up hK.inv.up
  have HR := hide (risingU_any h.mH (heads D) (up_nodup hu) (fun k => by by_cases e : k ∈ heads D <;> simp [e]) (fun k hk => by have := ids_short hK (has_known ((heads_mem hK.inv.up).1 hk).1); omega) hK.few_heads)
  rw [srt_up_id hu] at HR
  clear h hu
  go_enter Try.func26, Try.ntmps26
  go_wp2_with fail
  refine HR.out.mono ?_
  rintro y w1 ⟨v, rfl, h1, h2⟩
  have H1 := hide h1
  have H2 := hide h2
  clear h1 h2 HR
  go_wp2
  go_ret
  exact ⟨_, rfl, H1.out, H2.out⟩
set_option maxRecDepth 100000 in
set_option maxHeartbeats 1000000 in
theorem pparents_any (h : Gm w p D sl su lev bh bv) (hK : Okd D) (id : Bs) : Calls Try.prog 24 #[pt p.g, kS id] w fun y w' => ∃ v, y = .returned v ∧ OwT w' w.heap.size tId v (parents D id) ∧ Below w.heap.size w w' := by
  obtain ⟨c0, _⟩ := h.cells
  obtain ⟨A, n, c, x, hlk, q1, q2⟩ := h.lookN id false
  simp only [Bool.false_eq_true, if_false] at hlk
  have HC := hide (show Calls Try.prog 32 #[.slice A n c] w fun y w' => ∃ v, y = .returned v ∧ OwT w' w.heap.size tId v (parents D id) ∧ Below w.heap.size w w' from by
    rw [parents_psL]
    cases hk : has D id with
    | true =>
      obtain ⟨rfl, rfl, rfl, _⟩ := q1 hk
      rw [if_pos rfl]
      obtain ⟨n, hn⟩ := Option.isSome_iff_exists.1 (has_known hk)
      have hle : (psL D id).length ≤ 1000000 := by
        unfold psL; rw [hn]
        have := (hK.ids n (get_some hn).1).2.1
        show n.ps.length ≤ 1000000
        omega
      exact clone_ids (h.sls id (has_known hk)) hle
    | false =>
      obtain ⟨rfl, rfl, rfl, _⟩ := q2 hk
      rw [if_neg (by simp)]
      exact clone_ids (l := []) (S := fun _ => True) ⟨Nat.zero_le _, fun h => by simp [texts] at h⟩ (by simp))
  have hf := fldN0 A n c x
  clear h q1 q2
  go_enter Try.func24, Try.ntmps24
  go_wp2_with fail
  refine HC.out.mono ?_
  rintro y w1 ⟨v, rfl, h1, h2⟩
  have H1 := hide h1
  have H2 := hide h2
  clear h1 h2 HC
  go_wp2
  go_ret
  exact ⟨_, rfl, H1.out, H2.out⟩
set_option maxRecDepth 100000 in
set_option maxHeartbeats 1000000 in
theorem plevel_any (h : Gm w p D sl su lev bh bv) (hK : Okd D) (hL : Lv D lev) (id : Bs) : Calls Try.prog 22 #[pt p.g, kS id] w fun y w' => y = .returned (.int .i64 (level D id)) ∧ Below w.heap.size w w' := by
  have HH := hide (phas_any h id)
  cases hk : has D id with
  | true =>
    rw [level_in hk, hL.eq hK.inv hk]
    have HG := hide h
    have HK := hide hk
    rw [hk] at HH
    obtain ⟨x, hx⟩ : ∃ x, x = lev id := ⟨_, rfl⟩
    rw [← hx]
    have HX := hide hx
    clear hx
    clear h hK hL hk
    go_enter Try.func22, Try.ntmps22
    go_wp2_with fail
    refine HH.out.mono ?_
    rintro y w1 ⟨rfl, hb⟩
    have h1 := HG.out.below hb
    obtain ⟨c0, _⟩ := h1.cells
    obtain ⟨A, n, c, x2, hlk, q1, _⟩ := h1.lookN id false
    simp only [Bool.false_eq_true, if_false] at hlk
    obtain ⟨rfl, rfl, rfl, rfl⟩ := q1 HK.out
    have HB := hide hb
    generalize (psL D id).length = n at hlk
    generalize (sl id).1 = A at hlk
    generalize (sl id).2 = c at hlk
    rw [← HX.out] at hlk
    have hf := fldN1 A n c (x : Int)
    clear h1 q1 hb HH
    go_wp2
    go_ret
    exact ⟨rfl, HB.out⟩
  | false =>
    rw [level_out hk]
    rw [hk] at HH
    clear h hK hL hk
    go_enter Try.func22, Try.ntmps22
    go_wp2_with fail
    refine HH.out.mono ?_
    rintro y w1 ⟨rfl, hb⟩
    have HB := hide hb
    clear hb HH
    go_wp2
    go_ret
    exact ⟨rfl, HB.out⟩
end
end Go.Proofs.Ytlfncnnfpniigaa.Dq
