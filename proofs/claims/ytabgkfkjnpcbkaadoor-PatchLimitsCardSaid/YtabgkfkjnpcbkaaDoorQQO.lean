/-
  The law PatchLimits: its drawn region: two rows of bytes, each read as a text, and a patch.
-/
import Derived.BigQuiet
import Derived.Test.YtabgkfkjnpcbkaaDoorQWH
import Derived.Test.YtabgkfkjnpcbkaaDoorQPL
import Derived.Test.YtabgkfkjnpcbkaaDoorQL
import Derived.Test.YtabgkfkjnpcbkaaDoorQA
namespace Go.Proofs.YtabgkfkjnpcbkaaDoor.Rv
open Go Rg
/-- as wp_region_inv; and that an operation is not done twice -/
theorem wp_region_once {P : Program} {Q : Exit → Act → World → Prop} {id : Nat} {l : List Oper} {a : Act} {w : World} (I : Array Bool → Act → World → Prop) (hm : P.follows .mixedOrders = true) (hp : plain l.toArray = true)
    (hstart : I (Array.replicate l.length false) a w.drew)
    (hstep : ∀ listed a w i o, I listed a w → l[i]? = some o → listed.size = l.length → listed.getD i false = false → (∀ k, Rg.waits l.toArray i k = true → listed.getD k false = true) →
      ∀ K : Act → World → Prop, (∀ a' w', I (listed.setIfInBounds i true) a' w' → K a' w') → o.wp P a w K (NoPanic Q))
    (hend : ∀ listed a w, I listed a w → (∀ i, i < l.length → listed.getD i false = true) → Q .normal a w) : (Code.region id l.toArray true).wp P Q a w := by
  refine wp_region_noPanic ?_
  refine wp_region_any hm ?_
  refine any_inv hp (fun listed a w => listed.size = l.length ∧ I listed a w) (fun listed a w i o hI ho hnl hdep => ?_) (fun listed a w hI hl => NoPanic.normal (hend listed a w hI.2 (by simpa using hl))) _ _ _ _ (by simp) ?_ ⟨by simp, by simpa using hstart⟩
  · refine hstep listed a w i o hI.2 (by simpa using ho) hI.1 (by rw [← get_listed (by rw [hI.1]; have := (Array.getElem?_eq_some_iff.1 ho).1; simpa using this)]; exact hnl) (fun k hk => ?_) _ fun a' w' h => ⟨by simp [hI.1], h⟩
    obtain ⟨e, he, hb, rfl⟩ := Rg.waits_spec ho hk
    exact hdep e he hb
  · have := left_le (Array.replicate l.toArray.size false).toList
    simpa using this
end Go.Proofs.YtabgkfkjnpcbkaaDoor.Rv
namespace Go.Proofs.YtabgkfkjnpcbkaaDoor.Tr
open Go Go.RowKit Kt Lw Li Lx Df

theorem infoBL : (Tryd.prog.info? 5).map (fun i => (i.zero, i.size, i.bytes)) = some (some (.int .u8 0), 1, 1) := by kernel_rfl
set_option maxRecDepth 100000 in
theorem made_bytesL (m : Nat) (hm : m ≤ 1000000) (w : World) : (Instr.makeSlice 28 (.int .i64 (m : Int)) (.int .i64 (m : Int))).run Tryd.prog w = .ok (.slice (some ⟨w.heap.size, 0, none⟩) m m) (w.alloc (.cells (u8s (List.replicate m 0)).toArray 5)) := by
  obtain ⟨i0, hi0, hz0, hz1, hz2⟩ := info_parts infoBL
  have hC : madeCells (Value.int .u8 0).cells m = (u8s (List.replicate m 0)).toArray := by
    apply Array.ext
    · simp [madeCells, u8s, Value.cells]
    · intro i h1 h2
      simp [madeCells, u8s, Value.cells, Nat.mod_one]
  have hr := run_makeSlice (P := Tryd.prog) w 28 5 i0 (.int .u8 0) Tryd.underlying28 hi0 hz0 .i64 .i64 (m : Int) (m : Int) (by omega) (Int.le_refl _) (by rw [hz1]; simp; omega) (by rw [hz2]; omega) (by omega)
  rw [hz1, Int.toNat_natCast, Nat.mul_one, hC] at hr
  exact hr
set_option maxRecDepth 100000 in
theorem row_convL (x : Bs) (m g : Nat) (hm : x.length = m) (hl : m ≤ 1000000) (w : World) (hr : Row w g 5 (u8s x)) : (convert 28 9 (.slice (some ⟨g, 0, none⟩) m m)).run Tryd.prog w = .ok (.string ⟨x.toArray⟩) w := by
  subst hm
  have ho : Kt.Own w 0 5 (.slice (some ⟨g, 0, none⟩) x.length x.length) x :=
    ⟨by simp [u8s_len], .inr ⟨g, x.length, (u8s x).toArray, rfl, Nat.zero_le _, hr, Nat.le_refl _, by unfold maxLen; omega, by simp [u8s_len], by rw [Nat.mul_one]; exact List.take_of_length_le (by rw [u8s_len]; exact Nat.le_refl _)⟩⟩
  exact ho.text 28 9 5 Tryd.underlying28 Tryd.underlying5 Tryd.underlying9
/-- a region of a function, by its number -/
def findL (n : Nat) : Code → Option Code
  | .seq a b => (findL n a).or (findL n b)
  | .block _ b => findL n b
  | .loop b => findL n b
  | .cond _ a b => (findL n a).or (findL n b)
  | .region m ops dr => if m = n then some (.region m ops dr) else none
  | _ => none
/-- where an operation's value lies -/
def slL (k : Nat) : Nat := [21, 22, 23, 24, 25, 26, 27, 28, 29, 30, 31, 32, 33, 9, 99].getD k 0
theorem slL_ne : ∀ j, j < 15 → ∀ k, k < 15 → j ≠ k → slL j ≠ slL k := by decide
def updL (v : Nat → Value) (k : Nat) (x : Value) : Nat → Value := fun j => if j = k then x else v j
theorem updL_same (v : Nat → Value) (k : Nat) (x : Value) : updL v k x k = x := if_pos rfl
theorem updL_other (v : Nat → Value) (k : Nat) (x : Value) (j : Nat) (h : j ≠ k) : updL v k x j = v j := if_neg h
theorem repL_false (n k : Nat) : (Array.replicate n false).getD k false = false := by
  unfold Array.getD
  split
  · simp
  · rfl
def zsV (k : Nat) : Value := .string ⟨(List.replicate k (0 : UInt8)).toArray⟩
/-- what holds of an operation's value once it is done -/
def PhiL (K M m1 m2 : Nat) : Nat → Value → Prop
  | 0, v => v = .int .u8 (m1 : Int)
  | 1, v => v = .int .u8 ((m1 : Int) % 11)
  | 2, v => v = .int .i64 ((m1 : Int) % 11)
  | 3, v => v = .int .i64 (K : Int)
  | 5, v => v = zsV K
  | 6, v => v = .int .u8 (m2 : Int)
  | 7, v => v = .int .u8 ((m2 : Int) % 11)
  | 8, v => v = .int .i64 ((m2 : Int) % 11)
  | 9, v => v = .int .i64 (M : Int)
  | 11, v => v = zsV M
  | 12, v => v = .agg #[.slice none 0 0, zsV K, zsV M, .slice none 0 0]
  | _, _ => True
def rawL (k : Nat) : Bool := k == 4 || k == 10 || k == 13 || k == 14
/-- what holds of all that is done so far -/
structure DnL (K M m1 m2 : Nat) (W : World) (listed : Array Bool) (v : Nat → Value) (w : World) : Prop where
  low : Below W.heap.size W w
  phi : ∀ k, k < 15 → rawL k = false → listed.getD k false = true → PhiL K M m1 m2 k (v (slL k))
  m4 : listed.getD 4 false = true → ∃ g, v 25 = .slice (some ⟨g, 0, none⟩) K K ∧ Row w g 5 (u8s (List.replicate K 0))
  m10 : listed.getD 10 false = true → ∃ g, v 31 = .slice (some ⟨g, 0, none⟩) M M ∧ Row w g 5 (u8s (List.replicate M 0))
  al : listed.getD 13 false = true → ∃ g x y z u, v 9 = .pointer (some ⟨g, 0, none⟩) ∧ W.heap.size ≤ g ∧ Row w g tP [x, y, z, u]
  st : listed.getD 14 false = true → ∃ g, v 9 = .pointer (some ⟨g, 0, none⟩) ∧ W.heap.size ≤ g ∧ Row w g tP [.slice none 0 0, zsV K, zsV M, .slice none 0 0]
  ord : listed.getD 14 false = true → listed.getD 13 false = true
section
variable {K M m1 m2 : Nat} {W : World} {listed : Array Bool} {v : Nat → Value} {w : World}
theorem DnL.step (h : DnL K M m1 m2 W listed v w) (k : Nat) (hk : k < 15) (hr : rawL k = false) {nv : Value}
    (hn : PhiL K M m1 m2 k nv) : DnL K M m1 m2 W (listed.setIfInBounds k true) (updL v (slL k) nv) w := by
  have hne : k ≠ 4 ∧ k ≠ 10 ∧ k ≠ 13 ∧ k ≠ 14 := by
    refine ⟨?_, ?_, ?_, ?_⟩ <;> (intro e; subst e; cases hr)
  have h9 : (9 : Nat) ≠ slL k := fun e => slL_ne 13 (by omega) k hk (Ne.symm hne.2.2.1) (by rw [← e]; rfl)
  have h25 : (25 : Nat) ≠ slL k := fun e => slL_ne 4 (by omega) k hk (Ne.symm hne.1) (by rw [← e]; rfl)
  have h31 : (31 : Nat) ≠ slL k := fun e => slL_ne 10 (by omega) k hk (Ne.symm hne.2.1) (by rw [← e]; rfl)
  refine ⟨h.low, fun j hj h1 hl => ?_, fun hl => ?_, fun hl => ?_, fun hl => ?_, fun hl => ?_, fun hl => ?_⟩
  · by_cases e : j = k
    · subst e; rw [updL_same]; exact hn
    · rw [updL_other _ _ _ _ (slL_ne j hj k hk e)]
      rw [getD_set_ne false (fun h => e h.symm)] at hl
      exact h.phi j hj h1 hl
  · rw [getD_set_ne false hne.1] at hl; rw [updL_other _ _ _ _ h25]; exact h.m4 hl
  · rw [getD_set_ne false hne.2.1] at hl; rw [updL_other _ _ _ _ h31]; exact h.m10 hl
  · rw [getD_set_ne false hne.2.2.1] at hl; rw [updL_other _ _ _ _ h9]; exact h.al hl
  · rw [getD_set_ne false hne.2.2.2] at hl; rw [updL_other _ _ _ _ h9]; exact h.st hl
  · rw [getD_set_ne false hne.2.2.2] at hl; rw [getD_set_ne false hne.2.2.1]; exact h.ord hl
theorem DnL.made4 (h : DnL K M m1 m2 W listed v w) :
    DnL K M m1 m2 W (listed.setIfInBounds 4 true) (updL v 25 (.slice (some ⟨w.heap.size, 0, none⟩) K K)) (w.alloc (.cells (u8s (List.replicate K 0)).toArray 5)) := by
  refine ⟨h.low.alloc h.low.size _, fun j hj h1 hl => ?_, fun _ => ⟨_, updL_same _ _ _, Row.fresh w _ _⟩, fun hl => ?_, fun hl => ?_, fun hl => ?_, fun hl => ?_⟩
  · have hj4 : j ≠ 4 := fun e => by subst e; cases h1
    rw [updL_other _ _ _ _ (fun e => slL_ne j hj 4 (by omega) hj4 (by rw [e]; rfl))]
    rw [getD_set_ne false (fun e => hj4 e.symm)] at hl
    exact h.phi j hj h1 hl
  · rw [getD_set_ne false (by omega)] at hl
    obtain ⟨g, e, hr⟩ := h.m10 hl
    exact ⟨g, by rw [updL_other _ _ _ _ (by omega)]; exact e, hr.alloc _⟩
  · rw [getD_set_ne false (by omega)] at hl
    obtain ⟨g, x, y, z, u, e, hg, hr⟩ := h.al hl
    exact ⟨g, x, y, z, u, by rw [updL_other _ _ _ _ (by omega)]; exact e, hg, hr.alloc _⟩
  · rw [getD_set_ne false (by omega)] at hl
    obtain ⟨g, e, hg, hr⟩ := h.st hl
    exact ⟨g, by rw [updL_other _ _ _ _ (by omega)]; exact e, hg, hr.alloc _⟩
  · rw [getD_set_ne false (by omega)] at hl ⊢; exact h.ord hl
theorem DnL.made10 (h : DnL K M m1 m2 W listed v w) :
    DnL K M m1 m2 W (listed.setIfInBounds 10 true) (updL v 31 (.slice (some ⟨w.heap.size, 0, none⟩) M M)) (w.alloc (.cells (u8s (List.replicate M 0)).toArray 5)) := by
  refine ⟨h.low.alloc h.low.size _, fun j hj h1 hl => ?_, fun hl => ?_, fun _ => ⟨_, updL_same _ _ _, Row.fresh w _ _⟩, fun hl => ?_, fun hl => ?_, fun hl => ?_⟩
  · have hj4 : j ≠ 10 := fun e => by subst e; cases h1
    rw [updL_other _ _ _ _ (fun e => slL_ne j hj 10 (by omega) hj4 (by rw [e]; rfl))]
    rw [getD_set_ne false (fun e => hj4 e.symm)] at hl
    exact h.phi j hj h1 hl
  · rw [getD_set_ne false (by omega)] at hl
    obtain ⟨g, e, hr⟩ := h.m4 hl
    exact ⟨g, by rw [updL_other _ _ _ _ (by omega)]; exact e, hr.alloc _⟩
  · rw [getD_set_ne false (by omega)] at hl
    obtain ⟨g, x, y, z, u, e, hg, hr⟩ := h.al hl
    exact ⟨g, x, y, z, u, by rw [updL_other _ _ _ _ (by omega)]; exact e, hg, hr.alloc _⟩
  · rw [getD_set_ne false (by omega)] at hl
    obtain ⟨g, e, hg, hr⟩ := h.st hl
    exact ⟨g, by rw [updL_other _ _ _ _ (by omega)]; exact e, hg, hr.alloc _⟩
  · rw [getD_set_ne false (by omega)] at hl ⊢; exact h.ord hl
theorem DnL.new (h : DnL K M m1 m2 W listed v w) (hs : 13 < listed.size) (hnl : listed.getD 13 false = false) :
    DnL K M m1 m2 W (listed.setIfInBounds 13 true) (updL v 9 (.pointer (some ⟨w.heap.size, 0, none⟩))) (w.alloc (.cells #[.slice none 0 0, .string ⟨#[]⟩, .string ⟨#[]⟩, .slice none 0 0] tP)) := by
  refine ⟨h.low.alloc h.low.size _, fun j hj h1 hl => ?_, fun hl => ?_, fun hl => ?_, fun _ => ⟨w.heap.size, _, _, _, _, updL_same _ _ _, h.low.size, Row.fresh w tP _⟩, fun hl => ?_, fun hl => ?_⟩
  · have hj4 : j ≠ 13 := fun e => by subst e; cases h1
    rw [updL_other _ _ _ _ (fun e => slL_ne j hj 13 (by omega) hj4 (by rw [e]; rfl))]
    rw [getD_set_ne false (fun e => hj4 e.symm)] at hl
    exact h.phi j hj h1 hl
  · rw [getD_set_ne false (by omega)] at hl
    obtain ⟨g, e, hr⟩ := h.m4 hl
    exact ⟨g, by rw [updL_other _ _ _ _ (by omega)]; exact e, hr.alloc _⟩
  · rw [getD_set_ne false (by omega)] at hl
    obtain ⟨g, e, hr⟩ := h.m10 hl
    exact ⟨g, by rw [updL_other _ _ _ _ (by omega)]; exact e, hr.alloc _⟩
  · rw [getD_set_ne false (by omega)] at hl
    rw [h.ord hl] at hnl
    cases hnl
  · simp [hs]
theorem DnL.put (h : DnL K M m1 m2 W listed v w) {g : Nat} (hv : v 9 = .pointer (some ⟨g, 0, none⟩)) (hl13 : listed.getD 13 false = true) :
    DnL K M m1 m2 W (listed.setIfInBounds 14 true) v ((((w.setCell ⟨g, 0, none⟩ (.slice none 0 0)).setCell ⟨g, 1, none⟩ (zsV K)).setCell ⟨g, 2, none⟩ (zsV M)).setCell ⟨g, 3, none⟩ (.slice none 0 0)) := by
  obtain ⟨g', x, y, z, u, e, hg, hr⟩ := h.al hl13
  rw [hv] at e
  injection e with e
  injection e with e
  injection e with e
  subst e
  have hrow := (((hr.put 0 (.slice none 0 0)).put 1 (zsV K)).put 2 (zsV M)).put 3 (.slice none 0 0)
  have hoff : ∀ {b : Nat} {t : TypeId} {cs : List Value}, t ≠ tP → Row w b t cs → Row ((((w.setCell ⟨g, 0, none⟩ (.slice none 0 0)).setCell ⟨g, 1, none⟩ (zsV K)).setCell ⟨g, 2, none⟩ (zsV M)).setCell ⟨g, 3, none⟩ (.slice none 0 0)) b t cs := fun {b t cs} ht hb => by
    have hne : b ≠ g := fun e => by subst e; exact ht (hb.uniq hr).1
    exact (((hb.off hne _).off hne _).off hne _).off hne _
  refine ⟨below_put (below_put (below_put (below_put h.low hg _) hg _) hg _) hg _, fun j hj h1 hl => ?_, fun hl => ?_, fun hl => ?_, fun _ => ⟨g, _, _, _, _, hv, hg, hrow⟩, fun _ => ⟨g, hv, hg, hrow⟩, fun _ => ?_⟩
  · have hj4 : j ≠ 14 := fun e => by subst e; cases h1
    rw [getD_set_ne false (fun e => hj4 e.symm)] at hl
    exact h.phi j hj h1 hl
  · rw [getD_set_ne false (by omega)] at hl
    obtain ⟨b, e, hb⟩ := h.m4 hl
    exact ⟨b, e, hoff (by decide) hb⟩
  · rw [getD_set_ne false (by omega)] at hl
    obtain ⟨b, e, hb⟩ := h.m10 hl
    exact ⟨b, e, hoff (by decide) hb⟩
  · rw [getD_set_ne false (by omega)]
    exact hl13
end
set_option maxRecDepth 100000 in
set_option maxHeartbeats 8000000 in
theorem lim3_any {B : Code} (hB : B = (findL 3 (Tryd.f8.body.getD .skip)).getD .skip) {Q : Exit → Act → World → Prop} (W : World) (m1 m2 K M : Nat) (_h1 : m1 < 256) (_h2 : m2 < 256) (hK : K = 95 + m1 % 11) (hM : M = 995 + m2 % 11)
    (x0 x3 x4 x5 x6 x7 x8 x10 x11 x12 x13 x14 x15 x16 x17 x18 x19 x20 x34 x35 x36 x37 x38 x39 x40 x41 x42 x43 x44 x45 x46 x47 x48 x49 x50 x51 x52 x53 x54 x55 x56 x57 x58 x59 x60 x61 x62 x63 x64 x65 x66 x67 x68 x69 x70 x71 x72 x73 x74 x75 x76 x77 x78 x79 x80 x81 x82 x83 x84 x85 x86 x87 x88 x89 x90 x91 x92 x93 x94 : Value)
    (hQ : ∀ (v : Nat → Value) (g : Nat) (wz : World), v 9 = .pointer (some ⟨g, 0, none⟩) → W.heap.size ≤ g → Row wz g tP [.slice none 0 0, zsV K, zsV M, .slice none 0 0] → Below W.heap.size W wz → Q .normal { tmps := List.toArray (x0 :: .int .u8 (m1 : Int) :: .int .u8 (m2 : Int) :: x3 :: x4 :: x5 :: x6 :: x7 :: x8 :: v 9 :: x10 :: x11 :: x12 :: x13 :: x14 :: x15 :: x16 :: x17 :: x18 :: x19 :: x20 :: v 21 :: v 22 :: v 23 :: v 24 :: v 25 :: v 26 :: v 27 :: v 28 :: v 29 :: v 30 :: v 31 :: v 32 :: v 33 :: x34 :: x35 :: x36 :: x37 :: x38 :: x39 :: x40 :: x41 :: x42 :: x43 :: x44 :: x45 :: x46 :: x47 :: x48 :: x49 :: x50 :: x51 :: x52 :: x53 :: x54 :: x55 :: x56 :: x57 :: x58 :: x59 :: x60 :: x61 :: x62 :: x63 :: x64 :: x65 :: x66 :: x67 :: x68 :: x69 :: x70 :: x71 :: x72 :: x73 :: x74 :: x75 :: x76 :: x77 :: x78 :: x79 :: x80 :: x81 :: x82 :: x83 :: x84 :: x85 :: x86 :: x87 :: x88 :: x89 :: x90 :: x91 :: x92 :: x93 :: x94 :: []), defers := [] } wz) :
    B.wp Tryd.prog Q { tmps := List.toArray (x0 :: .int .u8 (m1 : Int) :: .int .u8 (m2 : Int) :: x3 :: x4 :: x5 :: x6 :: x7 :: x8 :: undef :: x10 :: x11 :: x12 :: x13 :: x14 :: x15 :: x16 :: x17 :: x18 :: x19 :: x20 :: undef :: undef :: undef :: undef :: undef :: undef :: undef :: undef :: undef :: undef :: undef :: undef :: undef :: x34 :: x35 :: x36 :: x37 :: x38 :: x39 :: x40 :: x41 :: x42 :: x43 :: x44 :: x45 :: x46 :: x47 :: x48 :: x49 :: x50 :: x51 :: x52 :: x53 :: x54 :: x55 :: x56 :: x57 :: x58 :: x59 :: x60 :: x61 :: x62 :: x63 :: x64 :: x65 :: x66 :: x67 :: x68 :: x69 :: x70 :: x71 :: x72 :: x73 :: x74 :: x75 :: x76 :: x77 :: x78 :: x79 :: x80 :: x81 :: x82 :: x83 :: x84 :: x85 :: x86 :: x87 :: x88 :: x89 :: x90 :: x91 :: x92 :: x93 :: x94 :: []), defers := [] } W := by
  have HK := hide hQ
  clear hQ
  have eK : 95 + (m1 : Int) % 11 = (K : Int) := by omega
  have eM : 995 + (m2 : Int) % 11 = (M : Int) := by omega
  have lK : K ≤ 105 := by omega
  have lM : M ≤ 1005 := by omega
  clear hK hM
  rw [hB]
  refine Rv.wp_region_once (fun listed a' w' => ∃ v, a' = { tmps := List.toArray (x0 :: .int .u8 (m1 : Int) :: .int .u8 (m2 : Int) :: x3 :: x4 :: x5 :: x6 :: x7 :: x8 :: v 9 :: x10 :: x11 :: x12 :: x13 :: x14 :: x15 :: x16 :: x17 :: x18 :: x19 :: x20 :: v 21 :: v 22 :: v 23 :: v 24 :: v 25 :: v 26 :: v 27 :: v 28 :: v 29 :: v 30 :: v 31 :: v 32 :: v 33 :: x34 :: x35 :: x36 :: x37 :: x38 :: x39 :: x40 :: x41 :: x42 :: x43 :: x44 :: x45 :: x46 :: x47 :: x48 :: x49 :: x50 :: x51 :: x52 :: x53 :: x54 :: x55 :: x56 :: x57 :: x58 :: x59 :: x60 :: x61 :: x62 :: x63 :: x64 :: x65 :: x66 :: x67 :: x68 :: x69 :: x70 :: x71 :: x72 :: x73 :: x74 :: x75 :: x76 :: x77 :: x78 :: x79 :: x80 :: x81 :: x82 :: x83 :: x84 :: x85 :: x86 :: x87 :: x88 :: x89 :: x90 :: x91 :: x92 :: x93 :: x94 :: []), defers := [] } ∧ DnL K M m1 m2 W listed v w') (by kernel_rfl) (by kernel_rfl) ?start ?step ?fin
  case start =>
    refine ⟨fun _ => undef, rfl, ⟨(Below.refl _ W).drew, fun k _ _ hl => ?_, fun hl => ?_, fun hl => ?_, fun hl => ?_, fun hl => ?_, fun hl => ?_⟩⟩ <;> (rw [repL_false] at hl; cases hl)
  case fin =>
    rintro listed a' w' ⟨v, rfl, hd⟩ hl
    obtain ⟨g, e, hg, hr⟩ := hd.st (hl 14 (by simp))
    exact HK.out v g w' e hg hr hd.low
  case step =>
    rintro listed a' w' i op ⟨v, rfl, hd⟩ hop hsz hnl hdep K' hK
    have hi : i < 15 := by have := (List.getElem?_eq_some_iff.1 hop).1; simpa using this
    have hsz2 : 13 < listed.size := by rw [hsz]; simp
    have HKK := hide (show ∀ k nv, k < 15 → rawL k = false → i = k → PhiL K M m1 m2 k nv → K' { tmps := List.toArray (x0 :: .int .u8 (m1 : Int) :: .int .u8 (m2 : Int) :: x3 :: x4 :: x5 :: x6 :: x7 :: x8 :: updL v (slL k) (nv) 9 :: x10 :: x11 :: x12 :: x13 :: x14 :: x15 :: x16 :: x17 :: x18 :: x19 :: x20 :: updL v (slL k) (nv) 21 :: updL v (slL k) (nv) 22 :: updL v (slL k) (nv) 23 :: updL v (slL k) (nv) 24 :: updL v (slL k) (nv) 25 :: updL v (slL k) (nv) 26 :: updL v (slL k) (nv) 27 :: updL v (slL k) (nv) 28 :: updL v (slL k) (nv) 29 :: updL v (slL k) (nv) 30 :: updL v (slL k) (nv) 31 :: updL v (slL k) (nv) 32 :: updL v (slL k) (nv) 33 :: x34 :: x35 :: x36 :: x37 :: x38 :: x39 :: x40 :: x41 :: x42 :: x43 :: x44 :: x45 :: x46 :: x47 :: x48 :: x49 :: x50 :: x51 :: x52 :: x53 :: x54 :: x55 :: x56 :: x57 :: x58 :: x59 :: x60 :: x61 :: x62 :: x63 :: x64 :: x65 :: x66 :: x67 :: x68 :: x69 :: x70 :: x71 :: x72 :: x73 :: x74 :: x75 :: x76 :: x77 :: x78 :: x79 :: x80 :: x81 :: x82 :: x83 :: x84 :: x85 :: x86 :: x87 :: x88 :: x89 :: x90 :: x91 :: x92 :: x93 :: x94 :: []), defers := [] } w' from
      fun k nv hk hr hik hph => hK _ _ ⟨_, rfl, by rw [hik]; exact hd.step k hk hr hph⟩)
    have Hd := hide hd
    have Hdep := hide hdep
    have HhK := hide hK
    have Hnl := hide hnl
    have Hsz := hide hsz2
    clear hd hdep hK hnl hsz hsz2
    have hcase : i = 0 ∨ i = 1 ∨ i = 2 ∨ i = 3 ∨ i = 4 ∨ i = 5 ∨ i = 6 ∨ i = 7 ∨ i = 8 ∨ i = 9 ∨ i = 10 ∨ i = 11 ∨ i = 12 ∨ i = 13 ∨ i = 14 := by omega
    rcases hcase with rfl | rfl | rfl | rfl | rfl | rfl | rfl | rfl | rfl | rfl | rfl | rfl | rfl | rfl | rfl
    · simp only [List.getElem?_cons_zero, Option.some.injEq] at hop
      subst hop
      go_simp
      have hk := HKK.out 0 (.int .u8 (m1 : Int)) (by omega) rfl rfl rfl
      simp only [slL, updL, List.getD_cons_zero, Nat.reduceEqDiff, ↓reduceIte] at hk
      exact hk
    · simp only [List.getElem?_cons_zero, List.getElem?_cons_succ, Option.some.injEq] at hop
      subst hop
      have e1 : v 21 = .int .u8 (m1 : Int) := Hd.out.phi 0 (by omega) rfl (Hdep.out 0 (by kernel_rfl))
      go_simp
      have hk := HKK.out 1 (.int .u8 ((m1 : Int) % 11)) (by omega) rfl rfl rfl
      simp only [slL, updL, List.getD_cons_zero, List.getD_cons_succ, Nat.reduceEqDiff, ↓reduceIte, e1] at hk
      exact hk
    · simp only [List.getElem?_cons_zero, List.getElem?_cons_succ, Option.some.injEq] at hop
      subst hop
      have e1 : v 22 = .int .u8 ((m1 : Int) % 11) := Hd.out.phi 1 (by omega) rfl (Hdep.out 1 (by kernel_rfl))
      go_simp
      have hw : IntKind.i64.wrap ((m1 : Int) % 11) = (m1 : Int) % 11 := IntWalk.i64_in _ (by omega)
      rw [hw]
      have hk := HKK.out 2 (.int .i64 ((m1 : Int) % 11)) (by omega) rfl rfl rfl
      simp only [slL, updL, List.getD_cons_zero, List.getD_cons_succ, Nat.reduceEqDiff, ↓reduceIte, e1] at hk
      exact hk
    · simp only [List.getElem?_cons_zero, List.getElem?_cons_succ, Option.some.injEq] at hop
      subst hop
      have e1 : v 23 = .int .i64 ((m1 : Int) % 11) := Hd.out.phi 2 (by omega) rfl (Hdep.out 2 (by kernel_rfl))
      go_simp
      have hw : IntKind.i64.wrap ((K : Int)) = (K : Int) := IntWalk.i64_in _ (by omega)
      rw [hw]
      have hk := HKK.out 3 (.int .i64 (K : Int)) (by omega) rfl rfl rfl
      simp only [slL, updL, List.getD_cons_zero, List.getD_cons_succ, Nat.reduceEqDiff, ↓reduceIte, e1] at hk
      exact hk
    · simp only [List.getElem?_cons_zero, List.getElem?_cons_succ, Option.some.injEq] at hop
      subst hop
      have e1 : v 24 = .int .i64 (K : Int) := Hd.out.phi 3 (by omega) rfl (Hdep.out 3 (by kernel_rfl))
      have hm := made_bytesL K (by omega) w'
      have hk := HhK.out { tmps := List.toArray (x0 :: .int .u8 (m1 : Int) :: .int .u8 (m2 : Int) :: x3 :: x4 :: x5 :: x6 :: x7 :: x8 :: updL v (25) (.slice (some ⟨w'.heap.size, 0, none⟩) K K) 9 :: x10 :: x11 :: x12 :: x13 :: x14 :: x15 :: x16 :: x17 :: x18 :: x19 :: x20 :: updL v (25) (.slice (some ⟨w'.heap.size, 0, none⟩) K K) 21 :: updL v (25) (.slice (some ⟨w'.heap.size, 0, none⟩) K K) 22 :: updL v (25) (.slice (some ⟨w'.heap.size, 0, none⟩) K K) 23 :: updL v (25) (.slice (some ⟨w'.heap.size, 0, none⟩) K K) 24 :: updL v (25) (.slice (some ⟨w'.heap.size, 0, none⟩) K K) 25 :: updL v (25) (.slice (some ⟨w'.heap.size, 0, none⟩) K K) 26 :: updL v (25) (.slice (some ⟨w'.heap.size, 0, none⟩) K K) 27 :: updL v (25) (.slice (some ⟨w'.heap.size, 0, none⟩) K K) 28 :: updL v (25) (.slice (some ⟨w'.heap.size, 0, none⟩) K K) 29 :: updL v (25) (.slice (some ⟨w'.heap.size, 0, none⟩) K K) 30 :: updL v (25) (.slice (some ⟨w'.heap.size, 0, none⟩) K K) 31 :: updL v (25) (.slice (some ⟨w'.heap.size, 0, none⟩) K K) 32 :: updL v (25) (.slice (some ⟨w'.heap.size, 0, none⟩) K K) 33 :: x34 :: x35 :: x36 :: x37 :: x38 :: x39 :: x40 :: x41 :: x42 :: x43 :: x44 :: x45 :: x46 :: x47 :: x48 :: x49 :: x50 :: x51 :: x52 :: x53 :: x54 :: x55 :: x56 :: x57 :: x58 :: x59 :: x60 :: x61 :: x62 :: x63 :: x64 :: x65 :: x66 :: x67 :: x68 :: x69 :: x70 :: x71 :: x72 :: x73 :: x74 :: x75 :: x76 :: x77 :: x78 :: x79 :: x80 :: x81 :: x82 :: x83 :: x84 :: x85 :: x86 :: x87 :: x88 :: x89 :: x90 :: x91 :: x92 :: x93 :: x94 :: []), defers := [] } _ ⟨_, rfl, Hd.out.made4⟩
      go_simp
      simp only [updL, Nat.reduceEqDiff, ↓reduceIte, e1] at hk
      exact hk
    · simp only [List.getElem?_cons_zero, List.getElem?_cons_succ, Option.some.injEq] at hop
      subst hop
      obtain ⟨g, e1, hr⟩ := Hd.out.m4 (Hdep.out 4 (by kernel_rfl))
      have hc := row_convL (List.replicate K 0) K g List.length_replicate (by omega) w' hr
      clear hr
      go_simp
      have hk := HKK.out 5 (zsV K) (by omega) rfl rfl rfl
      simp only [slL, updL, List.getD_cons_zero, List.getD_cons_succ, Nat.reduceEqDiff, ↓reduceIte, e1, zsV] at hk
      exact hk
    · simp only [List.getElem?_cons_zero, List.getElem?_cons_succ, Option.some.injEq] at hop
      subst hop
      go_simp
      have hk := HKK.out 6 (.int .u8 (m2 : Int)) (by omega) rfl rfl rfl
      simp only [slL, updL, List.getD_cons_zero, List.getD_cons_succ, Nat.reduceEqDiff, ↓reduceIte] at hk
      exact hk
    · simp only [List.getElem?_cons_zero, List.getElem?_cons_succ, Option.some.injEq] at hop
      subst hop
      have e1 : v 27 = .int .u8 (m2 : Int) := Hd.out.phi 6 (by omega) rfl (Hdep.out 6 (by kernel_rfl))
      go_simp
      have hk := HKK.out 7 (.int .u8 ((m2 : Int) % 11)) (by omega) rfl rfl rfl
      simp only [slL, updL, List.getD_cons_zero, List.getD_cons_succ, Nat.reduceEqDiff, ↓reduceIte, e1] at hk
      exact hk
    · simp only [List.getElem?_cons_zero, List.getElem?_cons_succ, Option.some.injEq] at hop
      subst hop
      have e1 : v 28 = .int .u8 ((m2 : Int) % 11) := Hd.out.phi 7 (by omega) rfl (Hdep.out 7 (by kernel_rfl))
      go_simp
      have hw : IntKind.i64.wrap ((m2 : Int) % 11) = (m2 : Int) % 11 := IntWalk.i64_in _ (by omega)
      rw [hw]
      have hk := HKK.out 8 (.int .i64 ((m2 : Int) % 11)) (by omega) rfl rfl rfl
      simp only [slL, updL, List.getD_cons_zero, List.getD_cons_succ, Nat.reduceEqDiff, ↓reduceIte, e1] at hk
      exact hk
    · simp only [List.getElem?_cons_zero, List.getElem?_cons_succ, Option.some.injEq] at hop
      subst hop
      have e1 : v 29 = .int .i64 ((m2 : Int) % 11) := Hd.out.phi 8 (by omega) rfl (Hdep.out 8 (by kernel_rfl))
      go_simp
      have hw : IntKind.i64.wrap ((M : Int)) = (M : Int) := IntWalk.i64_in _ (by omega)
      rw [hw]
      have hk := HKK.out 9 (.int .i64 (M : Int)) (by omega) rfl rfl rfl
      simp only [slL, updL, List.getD_cons_zero, List.getD_cons_succ, Nat.reduceEqDiff, ↓reduceIte, e1] at hk
      exact hk
    · simp only [List.getElem?_cons_zero, List.getElem?_cons_succ, Option.some.injEq] at hop
      subst hop
      have e1 : v 30 = .int .i64 (M : Int) := Hd.out.phi 9 (by omega) rfl (Hdep.out 9 (by kernel_rfl))
      have hm := made_bytesL M (by omega) w'
      have hk := HhK.out { tmps := List.toArray (x0 :: .int .u8 (m1 : Int) :: .int .u8 (m2 : Int) :: x3 :: x4 :: x5 :: x6 :: x7 :: x8 :: updL v (31) (.slice (some ⟨w'.heap.size, 0, none⟩) M M) 9 :: x10 :: x11 :: x12 :: x13 :: x14 :: x15 :: x16 :: x17 :: x18 :: x19 :: x20 :: updL v (31) (.slice (some ⟨w'.heap.size, 0, none⟩) M M) 21 :: updL v (31) (.slice (some ⟨w'.heap.size, 0, none⟩) M M) 22 :: updL v (31) (.slice (some ⟨w'.heap.size, 0, none⟩) M M) 23 :: updL v (31) (.slice (some ⟨w'.heap.size, 0, none⟩) M M) 24 :: updL v (31) (.slice (some ⟨w'.heap.size, 0, none⟩) M M) 25 :: updL v (31) (.slice (some ⟨w'.heap.size, 0, none⟩) M M) 26 :: updL v (31) (.slice (some ⟨w'.heap.size, 0, none⟩) M M) 27 :: updL v (31) (.slice (some ⟨w'.heap.size, 0, none⟩) M M) 28 :: updL v (31) (.slice (some ⟨w'.heap.size, 0, none⟩) M M) 29 :: updL v (31) (.slice (some ⟨w'.heap.size, 0, none⟩) M M) 30 :: updL v (31) (.slice (some ⟨w'.heap.size, 0, none⟩) M M) 31 :: updL v (31) (.slice (some ⟨w'.heap.size, 0, none⟩) M M) 32 :: updL v (31) (.slice (some ⟨w'.heap.size, 0, none⟩) M M) 33 :: x34 :: x35 :: x36 :: x37 :: x38 :: x39 :: x40 :: x41 :: x42 :: x43 :: x44 :: x45 :: x46 :: x47 :: x48 :: x49 :: x50 :: x51 :: x52 :: x53 :: x54 :: x55 :: x56 :: x57 :: x58 :: x59 :: x60 :: x61 :: x62 :: x63 :: x64 :: x65 :: x66 :: x67 :: x68 :: x69 :: x70 :: x71 :: x72 :: x73 :: x74 :: x75 :: x76 :: x77 :: x78 :: x79 :: x80 :: x81 :: x82 :: x83 :: x84 :: x85 :: x86 :: x87 :: x88 :: x89 :: x90 :: x91 :: x92 :: x93 :: x94 :: []), defers := [] } _ ⟨_, rfl, Hd.out.made10⟩
      go_simp
      simp only [updL, Nat.reduceEqDiff, ↓reduceIte, e1] at hk
      exact hk
    · simp only [List.getElem?_cons_zero, List.getElem?_cons_succ, Option.some.injEq] at hop
      subst hop
      obtain ⟨g, e1, hr⟩ := Hd.out.m10 (Hdep.out 10 (by kernel_rfl))
      have hc := row_convL (List.replicate M 0) M g List.length_replicate (by omega) w' hr
      clear hr
      go_simp
      have hk := HKK.out 11 (zsV M) (by omega) rfl rfl rfl
      simp only [slL, updL, List.getD_cons_zero, List.getD_cons_succ, Nat.reduceEqDiff, ↓reduceIte, e1, zsV] at hk
      exact hk
    · simp only [List.getElem?_cons_zero, List.getElem?_cons_succ, Option.some.injEq] at hop
      subst hop
      have e1 : v 26 = zsV K := Hd.out.phi 5 (by omega) rfl (Hdep.out 5 (by kernel_rfl))
      have e2 : v 32 = zsV M := Hd.out.phi 11 (by omega) rfl (Hdep.out 11 (by kernel_rfl))
      go_simp
      have hk := HKK.out 12 (.agg #[.slice none 0 0, zsV K, zsV M, .slice none 0 0]) (by omega) rfl rfl rfl
      simp only [slL, updL, List.getD_cons_zero, List.getD_cons_succ, Nat.reduceEqDiff, ↓reduceIte, e1, e2] at hk
      exact hk
    · simp only [List.getElem?_cons_zero, List.getElem?_cons_succ, Option.some.injEq] at hop
      subst hop
      have hnew := Hd.out.new Hsz.out Hnl.out
      have hk := HhK.out { tmps := List.toArray (x0 :: .int .u8 (m1 : Int) :: .int .u8 (m2 : Int) :: x3 :: x4 :: x5 :: x6 :: x7 :: x8 :: updL v (9) (.pointer (some ⟨w'.heap.size, 0, none⟩)) 9 :: x10 :: x11 :: x12 :: x13 :: x14 :: x15 :: x16 :: x17 :: x18 :: x19 :: x20 :: updL v (9) (.pointer (some ⟨w'.heap.size, 0, none⟩)) 21 :: updL v (9) (.pointer (some ⟨w'.heap.size, 0, none⟩)) 22 :: updL v (9) (.pointer (some ⟨w'.heap.size, 0, none⟩)) 23 :: updL v (9) (.pointer (some ⟨w'.heap.size, 0, none⟩)) 24 :: updL v (9) (.pointer (some ⟨w'.heap.size, 0, none⟩)) 25 :: updL v (9) (.pointer (some ⟨w'.heap.size, 0, none⟩)) 26 :: updL v (9) (.pointer (some ⟨w'.heap.size, 0, none⟩)) 27 :: updL v (9) (.pointer (some ⟨w'.heap.size, 0, none⟩)) 28 :: updL v (9) (.pointer (some ⟨w'.heap.size, 0, none⟩)) 29 :: updL v (9) (.pointer (some ⟨w'.heap.size, 0, none⟩)) 30 :: updL v (9) (.pointer (some ⟨w'.heap.size, 0, none⟩)) 31 :: updL v (9) (.pointer (some ⟨w'.heap.size, 0, none⟩)) 32 :: updL v (9) (.pointer (some ⟨w'.heap.size, 0, none⟩)) 33 :: x34 :: x35 :: x36 :: x37 :: x38 :: x39 :: x40 :: x41 :: x42 :: x43 :: x44 :: x45 :: x46 :: x47 :: x48 :: x49 :: x50 :: x51 :: x52 :: x53 :: x54 :: x55 :: x56 :: x57 :: x58 :: x59 :: x60 :: x61 :: x62 :: x63 :: x64 :: x65 :: x66 :: x67 :: x68 :: x69 :: x70 :: x71 :: x72 :: x73 :: x74 :: x75 :: x76 :: x77 :: x78 :: x79 :: x80 :: x81 :: x82 :: x83 :: x84 :: x85 :: x86 :: x87 :: x88 :: x89 :: x90 :: x91 :: x92 :: x93 :: x94 :: []), defers := [] } _ ⟨_, rfl, hnew⟩
      go_simp
      simp only [updL, Nat.reduceEqDiff, ↓reduceIte] at hk
      exact hk
    · simp only [List.getElem?_cons_zero, List.getElem?_cons_succ, Option.some.injEq] at hop
      subst hop
      have e1 : v 33 = .agg #[.slice none 0 0, zsV K, zsV M, .slice none 0 0] := Hd.out.phi 12 (by omega) rfl (Hdep.out 12 (by kernel_rfl))
      have hl13 := Hdep.out 13 (by kernel_rfl)
      obtain ⟨g, x, y, z, u, e2, _, hr⟩ := Hd.out.al hl13
      have c0 := hr.cell 0
      have c1 := hr.cell 1
      have c2 := hr.cell 2
      have c3 := hr.cell 3
      have f0 := hr.free 0
      have f1 := hr.free 1
      have f2 := hr.free 2
      have f3 := hr.free 3
      simp only [List.getElem?_cons_zero, List.getElem?_cons_succ] at c0 c1 c2 c3
      have hk := HhK.out { tmps := List.toArray (x0 :: .int .u8 (m1 : Int) :: .int .u8 (m2 : Int) :: x3 :: x4 :: x5 :: x6 :: x7 :: x8 :: v 9 :: x10 :: x11 :: x12 :: x13 :: x14 :: x15 :: x16 :: x17 :: x18 :: x19 :: x20 :: v 21 :: v 22 :: v 23 :: v 24 :: v 25 :: v 26 :: v 27 :: v 28 :: v 29 :: v 30 :: v 31 :: v 32 :: v 33 :: x34 :: x35 :: x36 :: x37 :: x38 :: x39 :: x40 :: x41 :: x42 :: x43 :: x44 :: x45 :: x46 :: x47 :: x48 :: x49 :: x50 :: x51 :: x52 :: x53 :: x54 :: x55 :: x56 :: x57 :: x58 :: x59 :: x60 :: x61 :: x62 :: x63 :: x64 :: x65 :: x66 :: x67 :: x68 :: x69 :: x70 :: x71 :: x72 :: x73 :: x74 :: x75 :: x76 :: x77 :: x78 :: x79 :: x80 :: x81 :: x82 :: x83 :: x84 :: x85 :: x86 :: x87 :: x88 :: x89 :: x90 :: x91 :: x92 :: x93 :: x94 :: []), defers := [] } _ ⟨_, rfl, Hd.out.put e2 hl13⟩
      simp only [e1, e2, zsV] at hk
      simp only [zsV] at e1
      clear hr
      go_simp
      exact hk
end Go.Proofs.YtabgkfkjnpcbkaaDoor.Tr
namespace Go.Proofs.YtabgkfkjnpcbkaaDoor.Tr
open Go Go.RowKit Kt Lw Li Lx Df Wr

theorem limId_len (k : Nat) : (limId k).length = 32 := by simp [limId]
theorem lim_set {k : Nat} (h : k < 256) : (u8s (List.replicate 32 0)).set 31 (.int .u8 (k : Int)) = u8s (limId k) := by
  rw [show (k : Int) = ((UInt8.ofNat k).toNat : Int) by simp; omega]
  rfl
set_option maxRecDepth 100000 in
theorem row_convI (x : Bs) (m g : Nat) (hm : x.length = m) (hl : m ≤ 1000000) (w : World) (hr : Row w g 5 (u8s x)) : (convert 28 tI (.slice (some ⟨g, 0, none⟩) m m)).run Tryd.prog w = .ok (.string ⟨x.toArray⟩) w := by
  subst hm
  have ho : Kt.Own w 0 5 (.slice (some ⟨g, 0, none⟩) x.length x.length) x :=
    ⟨by simp [u8s_len], .inr ⟨g, x.length, (u8s x).toArray, rfl, Nat.zero_le _, hr, Nat.le_refl _, by unfold maxLen; omega, by simp [u8s_len], by rw [Nat.mul_one]; exact List.take_of_length_le (by rw [u8s_len]; exact Nat.le_refl _)⟩⟩
  exact ho.text 28 tI 5 Tryd.underlying28 Tryd.underlying5 Tryd.underlying33
theorem lim_fit {n K M : Nat} (hn : n ≤ 20) (hK : K ≤ 105) (hM : M ≤ 1005) : fitP (lim n K M) :=
  ⟨by rw [show (lim n K M).ids.length = n from limIds_len n]; exact hn, by rw [show (lim n K M).author.length = K from List.length_replicate]; exact hK, by rw [show (lim n K M).note.length = M from List.length_replicate]; exact hM, Nat.zero_le _, igo_len (limIds_go n hn), fun c hc => by cases hc⟩
theorem lim_pin {w : World} {n K M : Nat} (hn : n ≤ 20) (hK : K ≤ 105) (hM : M ≤ 1005) {A : Option Addr} {c : Nat} (h : Vs w (fun _ => True) A c (texts (limIds n))) : PIn w (lim n K M) A none c 0 :=
  ⟨h, Chs.nil _ _ _, fun q hq => by have := igo_len (limIds_go n hn) q hq; omega, fun f hf => (by cases hf), by rw [show (lim n K M).ids.length = n from limIds_len n]; omega, by rw [show (lim n K M).author.length = K from List.length_replicate]; omega,
    by rw [show (lim n K M).note.length = M from List.length_replicate]; omega, Nat.zero_le _⟩
set_option maxRecDepth 100000 in
set_option maxHeartbeats 8000000 in
theorem lawLimits_any (m0 m1 m2 : Nat) (w : World) (hE : Env w) (_h0 : m0 < 256) (h1 : m1 < 256) (h2 : m2 < 256) :
    Calls Tryd.prog 8 #[.int .u8 (m0 : Int), .int .u8 (m1 : Int), .int .u8 (m2 : Int)] w fun y w' => y = .returned (.bool true) ∧ Below w.heap.size w w' := by
  obtain ⟨n, hn⟩ : ∃ n, n = m0 % 21 := ⟨_, rfl⟩
  obtain ⟨K, hK⟩ : ∃ K, K = 95 + m1 % 11 := ⟨_, rfl⟩
  obtain ⟨M, hM⟩ : ∃ M, M = 995 + m2 % 11 := ⟨_, rfl⟩
  have en : (m0 : Int) % 21 = (n : Int) := by omega
  have ln : n ≤ 20 := by omega
  have lK : K ≤ 105 := by omega
  have lM : M ≤ 1005 := by omega
  have H1 := hide h1
  have H2 := hide h2
  have HK := hide hK
  have HM := hide hM
  obtain ⟨X, hX⟩ : ∃ X, X = List.replicate K (0 : UInt8) := ⟨_, rfl⟩
  obtain ⟨Y, hY⟩ : ∃ Y, Y = List.replicate M (0 : UInt8) := ⟨_, rfl⟩
  have lX : X.length = K := by rw [hX]; exact List.length_replicate
  have lY : Y.length = M := by rw [hY]; exact List.length_replicate
  have hlim : lim n K M = ⟨limIds n, X, Y, []⟩ := by rw [hX, hY]; rfl
  have hPV : ∀ A c, PchV (lim n K M) A none c 0 = .agg #[.slice A n c, .string ⟨X.toArray⟩, .string ⟨Y.toArray⟩, .slice none 0 0] := fun A c => by rw [hlim]; unfold PchV; simp only [limIds_len]; rfl
  have hPW : ∀ A B c d, PchV (lim n K M) A B c d = .agg #[.slice A n c, .string ⟨X.toArray⟩, .string ⟨Y.toArray⟩, .slice B 0 d] := fun A B c d => by rw [hlim]; unfold PchV; simp only [limIds_len]; rfl
  have hFl : (pform (lim n K M)).length ≤ 10000000 := fit_short (lim_fit ln lK lM)
  obtain ⟨rt, hrt⟩ : ∃ rt, rt = (decide (n ≤ 16) && decide (K ≤ 100) && decide (M ≤ 1000)) := ⟨_, rfl⟩
  have HF := hide (fun (wz : World) A c (h : Vs wz (fun _ => True) A c (texts (limIds n))) => by
    have := rform_any (lim n K M) A none c 0 _ wz h (Chs.nil _ _ _) (lim_fit ln lK lM)
    rw [hPV] at this
    exact this)
  have HR := hide (fun (wz : World) A c (h : Vs wz (fun _ => True) A c (texts (limIds n))) (hE : Env wz) => by
    have := pright_any (lim n K M) A none c 0 wz (lim_pin ln lK lM h) hE.most
    rw [hPV, lim_right ln lK lM, ← hrt] at this
    exact this)
  have HDt := hide (fun (hr : rt = true) (wz : World) B d (h : Sl wz (fun _ => True) B d (pform (lim n K M))) (hE : Env wz) => show Calls Tryd.prog 19 #[.slice B (pform (lim n K M)).length d] wz fun y w' => ∃ Bi di Bc dc, y = .returned (.tuple #[.agg #[.slice Bi n di, .string ⟨X.toArray⟩, .string ⟨Y.toArray⟩, .slice Bc 0 dc], .int .i64 0]) ∧ PIn w' (lim n K M) Bi Bc di dc ∧ Below wz.heap.size wz w' from by
    have hd : pdecode (pform (lim n K M)) = (lim n K M, 0) := pdecode_form (by rw [lim_right ln lK lM, ← hrt]; exact hr)
    refine (pdecode_any (pform (lim n K M)) B d _ wz h hE.most (by omega)).mono ?_
    rw [hd]
    rintro y w' ⟨vi, vc, rfl, k1, k2, k3⟩
    obtain ⟨Bi, di, Bc, dc, rfl, rfl, hpin⟩ := dec_pin hd k1 k2
    exact ⟨Bi, di, Bc, dc, by rw [← hPW]; rfl, hpin, k3⟩)
  have HDf := hide (fun (hr : rt = false) (wz : World) B d (h : Sl wz (fun _ => True) B d (pform (lim n K M))) (hE : Env wz) => show Calls Tryd.prog 19 #[.slice B (pform (lim n K M)).length d] wz fun y w' => ∃ Bi di Bc dc, y = .returned (.tuple #[.agg #[.slice Bi 0 di, .string ⟨#[]⟩, .string ⟨#[]⟩, .slice Bc 0 dc], .int .i64 4]) ∧ Below wz.heap.size wz w' from by
    have hd : pdecode (pform (lim n K M)) = (noPch, 4) := by
      rw [lim_decode ln lK lM, if_neg]
      intro hc
      rw [hrt, decide_eq_true hc.1, decide_eq_true hc.2.1, decide_eq_true hc.2.2] at hr
      cases hr
    refine (pdecode_any (pform (lim n K M)) B d _ wz h hE.most (by omega)).mono ?_
    rw [hd]
    rintro y w' ⟨vi, vc, rfl, k1, k2, k3⟩
    obtain ⟨Bi, di, Bc, dc, rfl, rfl, hpin⟩ := dec_pin hd k1 k2
    exact ⟨Bi, di, Bc, dc, rfl, k3⟩)
  have HS := hide (fun (wz : World) A c Bi Bc di dc (h : Vs wz (fun _ => True) A c (texts (limIds n))) (h' : PIn wz (lim n K M) Bi Bc di dc) => by
    have := psame_any (lim n K M) (lim n K M) A none Bi Bc c 0 di dc _ _ wz h (Chs.nil _ _ _) h'.ids h'.chs (by rw [show (lim n K M).ids.length = n from limIds_len n]; omega) (Nat.zero_le _)
    rw [decide_eq_true rfl, hPV, hPW] at this
    exact this)
  obtain ⟨nf, hnf⟩ : ∃ x, x = (pform (lim n K M)).length := ⟨_, rfl⟩
  rw [← hnf] at HDt HDf
  have HNF := hide hnf
  generalize pform (lim n K M) = pf at *
  have HZK := hide (show zsV K = .string ⟨X.toArray⟩ by rw [hX]; rfl)
  have HZM := hide (show zsV M = .string ⟨Y.toArray⟩ by rw [hY]; rfl)
  have HRT := hide hrt
  have E_0 := hide hE
  have EW := hide hE
  have B_0 := hide (Below.refl w.heap.size w)
  clear hn hK hM _h0 h1 h2 hX hY hPV hPW hlim hFl hrt hnf hE
  go_enter Tryd.func8, Tryd.ntmps8
  go_wp2_with fail
  refine (pwake_any w E_0.out).mono ?_
  rintro y w1 ⟨rfl, hb1⟩
  have E_1 := hide (E_0.out.keep hb1)
  have B_1 := hide hb1
  clear hb1 E_0 B_0
  go_wp2_with fail
  refine lim3_any (by kernel_rfl) w1 m1 m2 K M H1.out H2.out HK.out HM.out _ _ _ _ _ _ _ _ _ _ _ _ _ _ _ _ _ _ _ _ _ _ _ _ _ _ _ _ _ _ _ _ _ _ _ _ _ _ _ _ _ _ _ _ _ _ _ _ _ _ _ _ _ _ _ _ _ _ _ _ _ _ _ _ _ _ _ _ _ _ _ _ _ _ _ _ _ _ _ ?_
  intro v g w2 e9 hg hrow hb2
  rw [e9]
  rw [HZK.out, HZM.out] at hrow
  have E_2 := hide (E_1.out.keep hb2)
  have B_2 := hide (B_1.out.trans (hb2.mono B_1.out.size))
  have HG := hide (show w.heap.size ≤ g from Nat.le_trans B_1.out.size hg)
  have R_2 := hide hrow
  clear e9 hg hrow hb2 E_1 B_1 HK HM H1 H2 HZK HZM
  go_wp2
  clear en
  go_loopw [10] (fun i wr => ∃ (k : Nat) (vi : Value), k ≤ n ∧ i = .int .i64 k ∧ OwT wr w.heap.size tI vi (limIds k) ∧ Row wr g tP [vi, .string ⟨X.toArray⟩, .string ⟨Y.toArray⟩, .slice none 0 0] ∧ Below w.heap.size w wr) (fun i _ => n - (intOf i).toNat)
  case atStart => exact ⟨0, _, Nat.zero_le _, rfl, OwT.nil _ _ _, R_2.out, B_2.out⟩
  case round =>
    obtain ⟨k, vi, hk, rfl, hown, hrow, hlow⟩ := hrel
    have Hown := hide hown
    have Hrow := hide hrow
    have Hlow := hide hlow
    clear hown hrow hlow R_2 B_2
    by_cases hlt : k < n
    · obtain ⟨g2, hg2⟩ : ∃ x, x = wr.heap.size := ⟨_, rfl⟩
      have hm : (Instr.makeSlice 28 (.int .i64 32) (.int .i64 32)).run Tryd.prog wr = _ := made_bytesL 32 (by omega) wr
      obtain ⟨w3, hw3⟩ : ∃ z, z = wr.alloc (.cells (u8s (List.replicate 32 0)).toArray 5) := ⟨_, rfl⟩
      have r3 : Row w3 g2 5 (u8s (List.replicate 32 0)) := by rw [hw3, hg2]; exact Row.fresh wr _ _
      have b3 : Below wr.heap.size wr w3 := by rw [hw3]; exact (Below.refl _ wr).alloc (Nat.le_refl _) _
      rw [← hw3, ← hg2] at hm
      have cA : w3.cell? ⟨g2, 31, none⟩ = some (.int .u8 0) := r3.cell 31
      have fA := r3.free 31
      obtain ⟨w4, hw4⟩ : ∃ z, z = w3.setCell ⟨g2, 31, none⟩ (.int .u8 (k : Int)) := ⟨_, rfl⟩
      have r4 : Row w4 g2 5 (u8s (limId k)) := by rw [hw4, ← lim_set (by omega)]; exact r3.put 31 _
      have b4 : Below wr.heap.size wr w4 := by rw [hw4]; exact below_put b3 (by rw [hg2]; exact Nat.le_refl _) _
      have c4 : w4.cell? ⟨g, 0, none⟩ = some vi := (Hrow.out.below b4 Hrow.out.lt).cell 0
      have hc4 := row_convI (limId k) 32 g2 (limId_len k) (by omega) w4 r4
      obtain ⟨q5, hq5⟩ : ∃ x, x = w4.heap.size := ⟨_, rfl⟩
      obtain ⟨w5, hw5⟩ : ∃ z, z = w4.alloc (.cells #[.string ⟨(limId k).toArray⟩] tI) := ⟨_, rfl⟩
      have hx := Vs.one w4 tI (limId k)
      rw [← hw5, ← hq5] at hx
      have b5 : Below wr.heap.size wr w5 := by rw [hw5]; exact b4.alloc b4.size _
      have HX := hide hx
      have Hown5 := hide (Hown.out.kept b5)
      have Hrow5 := hide (Hrow.out.below b5 Hrow.out.lt)
      have Hlow5 := hide (Hlow.out.trans (b5.mono Hlow.out.size))
      have W4 := hide hw4
      have W5 := hide hw5
      have Q5 := hide hq5
      have HLk := hide (limIds_len k)
      clear r3 b3 r4 b4 hx b5 hw3 hw4 hw5 hq5 hg2 Hown Hrow Hlow
      go_wp2_with (first | rw [← W4.out] | rw [← W5.out, ← Q5.out] | (at_builtin; go_loud (refine wpList_catT rfl (.tmp 45) (.tmp 48) 22 rfl Tryd.underlying22 infoId w.heap.size w vi (limIds k) [limId k] _ _ 1 rfl rfl Hown5.out HX.out (by rw [HLk.out]; simp; omega) Hlow5.out Hlow5.out.size ?_; intro v6 w6 hown6 hb6 hg6; obtain ⟨A6, c6, e6, _⟩ := hown6.vs; obtain ⟨n6, hn6⟩ : ∃ x, x = (limIds k ++ [limId k]).length := ⟨_, rfl⟩; rw [← hn6] at e6; subst e6; have hr6 := Hrow5.out.grown hg6 fun e => rw_ne Hrow5.out (by decide) Hown5.out g e.symm rfl; have c6' : w6.cell? ⟨g, 0, none⟩ = some vi := hr6.cell 0; have f6 := hr6.free 0; have HO6 := hide hown6; have HB6 := hide hb6; have HR6 := hide hr6; clear hg6 hown6 hb6 hr6 hn6)) | fail)
      have hown7 : OwT (w6.setCell ⟨g, 0, none⟩ (.slice A6 n6 c6)) w.heap.size tI (.slice A6 n6 c6) (limIds (k + 1)) := by
        rw [limIds_snoc]
        exact rw_put HO6.out (rw_ne HR6.out (by decide) HO6.out) _
      exact ⟨⟨k + 1, _, by omega, by go_num, hown7, HR6.out.put 0 _, below_put HB6.out HG.out _⟩, by simp [intOf]; omega⟩
    · obtain rfl : k = n := by omega
      obtain ⟨A, c, e, hv⟩ := Hown.out.vs
      rw [limIds_len] at e
      subst e
      have HQ := hide (show ∀ wz, Below wr.heap.size wr wz → wz.cell? ⟨g, 0, none⟩ = some (.slice A k c) ∧ wz.cell? ⟨g, 1, none⟩ = some (.string ⟨X.toArray⟩) ∧ wz.cell? ⟨g, 2, none⟩ = some (.string ⟨Y.toArray⟩) ∧ wz.cell? ⟨g, 3, none⟩ = some (.slice none 0 0) from fun wz hz => by
        have hr := Hrow.out.below hz Hrow.out.lt
        exact ⟨hr.cell 0, hr.cell 1, hr.cell 2, hr.cell 3⟩)
      have E_0 := hide (EW.out.keep Hlow.out)
      have B_0 := hide Hlow.out
      have V_0 := hide (show Vs wr (fun _ => True) A c (texts (limIds k)) from ⟨hv.1, fun h => by obtain ⟨b, oo, x1, _, x2⟩ := hv.2 h; exact ⟨b, oo, x1, trivial, x2⟩⟩)
      have Q_0 := hide (Below.refl wr.heap.size wr)
      clear hv Hown Hrow Hlow E_2 EW HG
      by_cases h16 : k ≤ 16
      · by_cases h100 : K ≤ 100
        · by_cases h1000 : M ≤ 1000
          · have g1 : decide ((k : Int) ≤ 16) = true := decide_eq_true (by omega)
            have g2 : decide ((K : Int) ≤ 100) = true := decide_eq_true (by omega)
            have g3 : decide ((M : Int) ≤ 1000) = true := decide_eq_true (by omega)
            have hrt : rt = true := by rw [HRT.out]; simp; omega
            clear h16 h100 h1000 lK lM ln hk hlt
            obtain ⟨k0, k1, k2, k3⟩ := HQ.out wr Q_0.out
            go_wp2_with fail
            refine (HF.out wr A c V_0.out).mono ?_
            rintro y w4 ⟨v4, rfl, hown4, hb4⟩
            obtain ⟨A4, c4, rfl, hs4⟩ := hown4.sl
            have E_4 := hide (E_0.out.keep hb4)
            have B_4 := hide (B_0.out.trans (hb4.mono B_0.out.size))
            have V_4 := hide (Lw.Vs.below V_0.out hb4)
            have Q_4 := hide (Q_0.out.trans (hb4.mono Q_0.out.size))
            have hs4t := hs4.imp (Q := fun _ => True) fun _ _ _ => trivial
            have HDd := hide (HDt.out hrt w4 A4 c4 hs4t E_4.out)
            rw [← HNF.out]
            clear hs4 hs4t hown4 hb4 k0 k1 k2 k3 HF HDt HDf E_0 B_0 V_0 Q_0
            go_wp2_with fail
            refine HDd.out.mono ?_
            rintro y w5 ⟨Bi, di, Bc, dc, rfl, hpin, hb5⟩
            have E_5 := hide (E_4.out.keep hb5)
            have B_5 := hide (B_4.out.trans (hb5.mono B_4.out.size))
            have V_5 := hide (Lw.Vs.below V_4.out hb5)
            have Q_5 := hide (Q_4.out.trans (hb5.mono Q_4.out.size))
            have P_5 := hide hpin
            clear hb5 HDd E_4 B_4 V_4 Q_4 hpin
            obtain ⟨qb, hqb⟩ : ∃ q, q = w5.heap.size := ⟨_, rfl⟩
            have hrw := Row.fresh w5 tP #[.slice Bi k di, .string ⟨X.toArray⟩, .string ⟨Y.toArray⟩, .slice Bc 0 dc]
            have hbP := (Below.refl w5.heap.size w5).alloc (Nat.le_refl _) (.cells #[.slice Bi k di, .string ⟨X.toArray⟩, .string ⟨Y.toArray⟩, .slice Bc 0 dc] tP)
            obtain ⟨w6, hwP⟩ : ∃ z, z = w5.alloc (.cells #[.slice Bi k di, .string ⟨X.toArray⟩, .string ⟨Y.toArray⟩, .slice Bc 0 dc] tP) := ⟨_, rfl⟩
            rw [← hwP] at hrw hbP
            rw [← hqb] at hrw
            have HT := hide (show ∀ wz, Below w6.heap.size w6 wz → wz.cell? ⟨qb, 0, none⟩ = some (.slice Bi k di) ∧ wz.cell? ⟨qb, 1, none⟩ = some (.string ⟨X.toArray⟩) ∧ wz.cell? ⟨qb, 2, none⟩ = some (.string ⟨Y.toArray⟩) ∧ wz.cell? ⟨qb, 3, none⟩ = some (.slice Bc 0 dc) from fun wz hz => by
              have hr := hrw.below hz hrw.lt
              exact ⟨hr.cell 0, hr.cell 1, hr.cell 2, hr.cell 3⟩)
            have Hwqb := hide hwP
            have Hqqb := hide hqb
            have E_6 := hide (E_5.out.keep hbP)
            have B_6 := hide (B_5.out.trans (hbP.mono B_5.out.size))
            have V_6 := hide (Lw.Vs.below V_5.out hbP)
            have Q_6 := hide (Q_5.out.trans (hbP.mono Q_5.out.size))
            have P_6 := hide (P_5.out.keep hbP)
            have T_6 := hide (Below.refl w6.heap.size w6)
            obtain ⟨k0, k1, k2, k3⟩ := HQ.out w6 Q_6.out
            clear hwP hqb hbP hrw E_5 B_5 V_5 Q_5 P_5
            go_wp2_with (first | rw [← Hwqb.out, ← Hqqb.out] | fail)
            refine (HR.out w6 A c V_6.out E_6.out).mono ?_
            rintro y w7 ⟨rfl, hb7⟩
            have E_7 := hide (E_6.out.keep hb7)
            have B_7 := hide (B_6.out.trans (hb7.mono B_6.out.size))
            have V_7 := hide (Lw.Vs.below V_6.out hb7)
            have Q_7 := hide (Q_6.out.trans (hb7.mono Q_6.out.size))
            have P_7 := hide (P_6.out.keep hb7)
            have T_7 := hide (T_6.out.trans (hb7.mono T_6.out.size))
            clear hb7 k0 k1 k2 k3 HR E_6 B_6 V_6 Q_6 P_6 T_6
            subst hrt
            obtain ⟨k0, k1, k2, k3⟩ := HQ.out w7 Q_7.out
            obtain ⟨t0, t1, t2, t3⟩ := HT.out w7 T_7.out
            go_wp2_with fail
            refine (HS.out w7 A c Bi Bc di dc V_7.out P_7.out).mono ?_
            rintro y w8 ⟨rfl, hb8⟩
            have B_8 := hide (B_7.out.trans (hb8.mono B_7.out.size))
            clear hb8 k0 k1 k2 k3 t0 t1 t2 t3 HS
            go_wp2
            go_ret
            exact ⟨rfl, B_8.out⟩
          · have g1 : decide ((k : Int) ≤ 16) = true := decide_eq_true (by omega)
            have g2 : decide ((K : Int) ≤ 100) = true := decide_eq_true (by omega)
            have g3 : decide ((M : Int) ≤ 1000) = false := decide_eq_false (by omega)
            have hrt : rt = false := by rw [HRT.out]; simp; omega
            clear h16 h100 h1000 lK lM ln hk hlt
            obtain ⟨k0, k1, k2, k3⟩ := HQ.out wr Q_0.out
            go_wp2_with fail
            refine (HF.out wr A c V_0.out).mono ?_
            rintro y w4 ⟨v4, rfl, hown4, hb4⟩
            obtain ⟨A4, c4, rfl, hs4⟩ := hown4.sl
            have E_4 := hide (E_0.out.keep hb4)
            have B_4 := hide (B_0.out.trans (hb4.mono B_0.out.size))
            have V_4 := hide (Lw.Vs.below V_0.out hb4)
            have Q_4 := hide (Q_0.out.trans (hb4.mono Q_0.out.size))
            have hs4t := hs4.imp (Q := fun _ => True) fun _ _ _ => trivial
            have HDd := hide (HDf.out hrt w4 A4 c4 hs4t E_4.out)
            rw [← HNF.out]
            clear hs4 hs4t hown4 hb4 k0 k1 k2 k3 HF HDt HDf E_0 B_0 V_0 Q_0
            go_wp2_with fail
            refine HDd.out.mono ?_
            rintro y w5 ⟨Bi, di, Bc, dc, rfl, hb5⟩
            have E_5 := hide (E_4.out.keep hb5)
            have B_5 := hide (B_4.out.trans (hb5.mono B_4.out.size))
            have V_5 := hide (Lw.Vs.below V_4.out hb5)
            have Q_5 := hide (Q_4.out.trans (hb5.mono Q_4.out.size))
            clear hb5 HDd E_4 B_4 V_4 Q_4
            obtain ⟨qb, hqb⟩ : ∃ q, q = w5.heap.size := ⟨_, rfl⟩
            have hrw := Row.fresh w5 tP #[.slice Bi 0 di, .string ⟨#[]⟩, .string ⟨#[]⟩, .slice Bc 0 dc]
            have hbP := (Below.refl w5.heap.size w5).alloc (Nat.le_refl _) (.cells #[.slice Bi 0 di, .string ⟨#[]⟩, .string ⟨#[]⟩, .slice Bc 0 dc] tP)
            obtain ⟨w6, hwP⟩ : ∃ z, z = w5.alloc (.cells #[.slice Bi 0 di, .string ⟨#[]⟩, .string ⟨#[]⟩, .slice Bc 0 dc] tP) := ⟨_, rfl⟩
            rw [← hwP] at hrw hbP
            rw [← hqb] at hrw
            have Hwqb := hide hwP
            have Hqqb := hide hqb
            have E_6 := hide (E_5.out.keep hbP)
            have B_6 := hide (B_5.out.trans (hbP.mono B_5.out.size))
            have V_6 := hide (Lw.Vs.below V_5.out hbP)
            have Q_6 := hide (Q_5.out.trans (hbP.mono Q_5.out.size))
            obtain ⟨k0, k1, k2, k3⟩ := HQ.out w6 Q_6.out
            clear hwP hqb hbP hrw E_5 B_5 V_5 Q_5
            go_wp2_with (first | rw [← Hwqb.out, ← Hqqb.out] | fail)
            refine (HR.out w6 A c V_6.out E_6.out).mono ?_
            rintro y w7 ⟨rfl, hb7⟩
            have E_7 := hide (E_6.out.keep hb7)
            have B_7 := hide (B_6.out.trans (hb7.mono B_6.out.size))
            have V_7 := hide (Lw.Vs.below V_6.out hb7)
            have Q_7 := hide (Q_6.out.trans (hb7.mono Q_6.out.size))
            clear hb7 k0 k1 k2 k3 HR E_6 B_6 V_6 Q_6
            subst hrt
            go_wp2
            go_ret
            exact ⟨rfl, B_7.out⟩
        · have g1 : decide ((k : Int) ≤ 16) = true := decide_eq_true (by omega)
          have g2 : decide ((K : Int) ≤ 100) = false := decide_eq_false (by omega)
          have hrt : rt = false := by rw [HRT.out]; simp; omega
          clear h16 h100 lK lM ln hk hlt
          obtain ⟨k0, k1, k2, k3⟩ := HQ.out wr Q_0.out
          go_wp2_with fail
          refine (HF.out wr A c V_0.out).mono ?_
          rintro y w4 ⟨v4, rfl, hown4, hb4⟩
          obtain ⟨A4, c4, rfl, hs4⟩ := hown4.sl
          have E_4 := hide (E_0.out.keep hb4)
          have B_4 := hide (B_0.out.trans (hb4.mono B_0.out.size))
          have V_4 := hide (Lw.Vs.below V_0.out hb4)
          have Q_4 := hide (Q_0.out.trans (hb4.mono Q_0.out.size))
          have hs4t := hs4.imp (Q := fun _ => True) fun _ _ _ => trivial
          have HDd := hide (HDf.out hrt w4 A4 c4 hs4t E_4.out)
          rw [← HNF.out]
          clear hs4 hs4t hown4 hb4 k0 k1 k2 k3 HF HDt HDf E_0 B_0 V_0 Q_0
          go_wp2_with fail
          refine HDd.out.mono ?_
          rintro y w5 ⟨Bi, di, Bc, dc, rfl, hb5⟩
          have E_5 := hide (E_4.out.keep hb5)
          have B_5 := hide (B_4.out.trans (hb5.mono B_4.out.size))
          have V_5 := hide (Lw.Vs.below V_4.out hb5)
          have Q_5 := hide (Q_4.out.trans (hb5.mono Q_4.out.size))
          clear hb5 HDd E_4 B_4 V_4 Q_4
          obtain ⟨qb, hqb⟩ : ∃ q, q = w5.heap.size := ⟨_, rfl⟩
          have hrw := Row.fresh w5 tP #[.slice Bi 0 di, .string ⟨#[]⟩, .string ⟨#[]⟩, .slice Bc 0 dc]
          have hbP := (Below.refl w5.heap.size w5).alloc (Nat.le_refl _) (.cells #[.slice Bi 0 di, .string ⟨#[]⟩, .string ⟨#[]⟩, .slice Bc 0 dc] tP)
          obtain ⟨w6, hwP⟩ : ∃ z, z = w5.alloc (.cells #[.slice Bi 0 di, .string ⟨#[]⟩, .string ⟨#[]⟩, .slice Bc 0 dc] tP) := ⟨_, rfl⟩
          rw [← hwP] at hrw hbP
          rw [← hqb] at hrw
          have Hwqb := hide hwP
          have Hqqb := hide hqb
          have E_6 := hide (E_5.out.keep hbP)
          have B_6 := hide (B_5.out.trans (hbP.mono B_5.out.size))
          have V_6 := hide (Lw.Vs.below V_5.out hbP)
          have Q_6 := hide (Q_5.out.trans (hbP.mono Q_5.out.size))
          obtain ⟨k0, k1, k2, k3⟩ := HQ.out w6 Q_6.out
          clear hwP hqb hbP hrw E_5 B_5 V_5 Q_5
          go_wp2_with (first | rw [← Hwqb.out, ← Hqqb.out] | fail)
          refine (HR.out w6 A c V_6.out E_6.out).mono ?_
          rintro y w7 ⟨rfl, hb7⟩
          have E_7 := hide (E_6.out.keep hb7)
          have B_7 := hide (B_6.out.trans (hb7.mono B_6.out.size))
          have V_7 := hide (Lw.Vs.below V_6.out hb7)
          have Q_7 := hide (Q_6.out.trans (hb7.mono Q_6.out.size))
          clear hb7 k0 k1 k2 k3 HR E_6 B_6 V_6 Q_6
          subst hrt
          go_wp2
          go_ret
          exact ⟨rfl, B_7.out⟩
      · have g1 : decide ((k : Int) ≤ 16) = false := decide_eq_false (by omega)
        have hrt : rt = false := by rw [HRT.out]; simp; omega
        clear h16 lK lM ln hk hlt
        obtain ⟨k0, k1, k2, k3⟩ := HQ.out wr Q_0.out
        go_wp2_with fail
        refine (HF.out wr A c V_0.out).mono ?_
        rintro y w4 ⟨v4, rfl, hown4, hb4⟩
        obtain ⟨A4, c4, rfl, hs4⟩ := hown4.sl
        have E_4 := hide (E_0.out.keep hb4)
        have B_4 := hide (B_0.out.trans (hb4.mono B_0.out.size))
        have V_4 := hide (Lw.Vs.below V_0.out hb4)
        have Q_4 := hide (Q_0.out.trans (hb4.mono Q_0.out.size))
        have hs4t := hs4.imp (Q := fun _ => True) fun _ _ _ => trivial
        have HDd := hide (HDf.out hrt w4 A4 c4 hs4t E_4.out)
        rw [← HNF.out]
        clear hs4 hs4t hown4 hb4 k0 k1 k2 k3 HF HDt HDf E_0 B_0 V_0 Q_0
        go_wp2_with fail
        refine HDd.out.mono ?_
        rintro y w5 ⟨Bi, di, Bc, dc, rfl, hb5⟩
        have E_5 := hide (E_4.out.keep hb5)
        have B_5 := hide (B_4.out.trans (hb5.mono B_4.out.size))
        have V_5 := hide (Lw.Vs.below V_4.out hb5)
        have Q_5 := hide (Q_4.out.trans (hb5.mono Q_4.out.size))
        clear hb5 HDd E_4 B_4 V_4 Q_4
        obtain ⟨qb, hqb⟩ : ∃ q, q = w5.heap.size := ⟨_, rfl⟩
        have hrw := Row.fresh w5 tP #[.slice Bi 0 di, .string ⟨#[]⟩, .string ⟨#[]⟩, .slice Bc 0 dc]
        have hbP := (Below.refl w5.heap.size w5).alloc (Nat.le_refl _) (.cells #[.slice Bi 0 di, .string ⟨#[]⟩, .string ⟨#[]⟩, .slice Bc 0 dc] tP)
        obtain ⟨w6, hwP⟩ : ∃ z, z = w5.alloc (.cells #[.slice Bi 0 di, .string ⟨#[]⟩, .string ⟨#[]⟩, .slice Bc 0 dc] tP) := ⟨_, rfl⟩
        rw [← hwP] at hrw hbP
        rw [← hqb] at hrw
        have Hwqb := hide hwP
        have Hqqb := hide hqb
        have E_6 := hide (E_5.out.keep hbP)
        have B_6 := hide (B_5.out.trans (hbP.mono B_5.out.size))
        have V_6 := hide (Lw.Vs.below V_5.out hbP)
        have Q_6 := hide (Q_5.out.trans (hbP.mono Q_5.out.size))
        obtain ⟨k0, k1, k2, k3⟩ := HQ.out w6 Q_6.out
        clear hwP hqb hbP hrw E_5 B_5 V_5 Q_5
        go_wp2_with (first | rw [← Hwqb.out, ← Hqqb.out] | fail)
        refine (HR.out w6 A c V_6.out E_6.out).mono ?_
        rintro y w7 ⟨rfl, hb7⟩
        have E_7 := hide (E_6.out.keep hb7)
        have B_7 := hide (B_6.out.trans (hb7.mono B_6.out.size))
        have V_7 := hide (Lw.Vs.below V_6.out hb7)
        have Q_7 := hide (Q_6.out.trans (hb7.mono Q_6.out.size))
        clear hb7 k0 k1 k2 k3 HR E_6 B_6 V_6 Q_6
        subst hrt
        go_wp2
        go_ret
        exact ⟨rfl, B_7.out⟩
end Go.Proofs.YtabgkfkjnpcbkaaDoor.Tr
