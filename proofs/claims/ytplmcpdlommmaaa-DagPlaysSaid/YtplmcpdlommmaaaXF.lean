/-
  Rows of ids: copied, compacted, and made of a map's keys.
-/
import Derived.BigQuiet
import Derived.Test.YtplmcpdlommmaaaQRegF
import Derived.Test.YtplmcpdlommmaaaQXE
namespace Go.Proofs.Ytplmcpdlommmaaa.Dq
open Go Go.RowKit Go.Maps Kt Kg Lw Tr
attribute [local go_sem] Oper.semAt_some

theorem infoId : (Try.prog.info? tId).map (fun i => (i.zero, i.size, i.bytes)) = some (some (.string ⟨#[]⟩), 1, 16) := by kernel_rfl
theorem texts_snoc' (l : List Bs) (x : Bs) : texts (l ++ [x]) = texts l ++ [encStr x] := by simp [texts]
theorem below_drew1 {B : Nat} {a w : World} (h : Below B a w) : Below B a w.drew := ⟨h.os, h.tape, h.output, h.size, h.block⟩
/-- slices.Clone at ids -/
theorem clone_ids {w : World} {S : Nat → Prop} {A : Option Addr} {c : Nat} {l : List Bs} (h : Vs w S A c (texts l)) (hl : l.length ≤ 1000000) :
    Calls Try.prog 41 #[.slice A l.length c] w fun y w' => ∃ v, y = .returned v ∧ OwT w' w.heap.size tId v l ∧ Below w.heap.size w w' := by
  by_cases h0 : l = []
  · subst h0
    cases A with
    | none =>
      refine Calls.mono (AnyG.slices_Clone_string_nil Try.cloneI 0 c w) ?_
      rintro y w' ⟨rfl, rfl⟩
      exact ⟨_, rfl, OwT.nil _ _ _, Below.refl _ _⟩
    | some a =>
      refine Calls.mono (AnyG.slices_Clone_string_zero Try.cloneI a c w) ?_
      rintro y w' ⟨v, rfl, h1, _, h3⟩
      exact ⟨v, rfl, h1, h3⟩
  · obtain ⟨b, o, rfl, _, hc⟩ := h.2 (by rw [texts_len]; exact List.length_pos_iff.2 h0)
    have hz : (l.map fun x => (⟨x.toArray⟩ : ByteArray)).length = l.length := List.length_map _
    refine Calls.mono (AnyG.slices_Clone_string Try.cloneI b o l.length c (l.map fun x => ⟨x.toArray⟩) w (by rw [hz]; exact Nat.le_refl _) (by omega) (fun j hj => ?_)) ?_
    · rw [hz] at hj
      have := hc j _ (texts_at l j hj)
      rw [this, List.getD_eq_getElem?_getD, List.getD_eq_getElem?_getD, List.getElem?_map, List.getElem?_eq_getElem hj]
      rfl
    · rintro y w' ⟨v, rfl, h1, _, h3⟩
      refine ⟨v, rfl, ?_, h3⟩
      rw [List.take_of_length_le (by rw [hz]; exact Nat.le_refl _), List.map_map] at h1
      exact h1
/-- slices.Compact at ids -/
theorem compact_ids {w : World} {B : Nat} {v : Value} {l : List Bs} (h : OwT w B tId v l) (hl : l.length ≤ 1000000) :
    Calls Try.prog 43 #[v] w fun y w' => ∃ v', y = .returned v' ∧ OwT w' B tId v' (Lib.compact l) ∧ w.grownBy w' v.ownBlock ∧ v'.ownBlock = v.ownBlock := by
  by_cases h0 : l = []
  · subst h0
    have hv : ∃ p c, v = .slice p 0 c := by
      rcases h.2 with ⟨h1, _⟩ | ⟨g, cap, cur, hv, _⟩
      · exact ⟨_, _, h1⟩
      · exact ⟨_, _, hv⟩
    obtain ⟨p, c, rfl⟩ := hv
    refine Calls.mono (AnyG.slices_Compact_string_empty Try.compactI p c w) ?_
    rintro y w' ⟨rfl, rfl⟩
    exact ⟨_, rfl, by rw [show Lib.compact ([] : List Bs) = [] from rfl]; exact h, ⟨rfl, rfl, rfl, Nat.le_refl _, fun _ _ _ => rfl⟩, rfl⟩
  · have hv : ∃ g c, v = .slice (some ⟨g, 0, none⟩) l.length c := by
      rcases h.2 with ⟨_, h2⟩ | ⟨g, cap, cur, hv, _⟩
      · exact absurd (List.eq_nil_of_length_eq_zero h2) h0
      · exact ⟨_, _, hv⟩
    obtain ⟨g, c, rfl⟩ := hv
    obtain ⟨k1, k2, k3, _⟩ := row_holds h
    refine Calls.mono (AnyG.slices_Compact_string Try.compactI g 0 c l w k1 (by omega) k3) ?_
    rintro y w' ⟨rfl, n, rfl⟩
    have hle := Lib.compact_length_le l
    have hlen : (Lib.compact l ++ List.replicate (l.length - (Lib.compact l).length) []).length = l.length := by rw [List.length_append, List.length_replicate]; omega
    obtain ⟨q1, q2⟩ := row_put (l' := Lib.compact l ++ List.replicate (l.length - (Lib.compact l).length) []) h hlen n #[]
    rw [Go.Sort.grow_empty] at q1 q2
    refine ⟨_, rfl, ?_, q2, rfl⟩
    have := OwT.cut q1 (m := (Lib.compact l).length) (by rw [hlen]; exact hle)
    rwa [List.take_left] at this
set_option maxRecDepth 100000 in
set_option maxHeartbeats 2000000 in
/-- slices.AppendSeq at ids: what an iterator gives, behind a row that is empty -/
theorem aseq_any {w : World} {B : Nat} {v0 : Value} (h0 : OwT w B tId v0 []) (hB : B ≤ w.heap.size) {gf : Nat} {lb : Array Value} (eg : ∀ args w, (callFunc gf args).run Try.prog w = .ok (.enter gf args) w)
    {S Sp : List Bs → Prop} {N : Nat} (hN : N ≤ 1000000) (hseq : SeqStops Fence.wide 8 Try.prog gf lb encStr S Sp N w) :
    Calls Try.prog 71 #[v0, .func (.func gf) #[] lb] w fun y w' => ∃ v ss, y = .returned v ∧ S ss ∧ OwT w' B tId v ss ∧ Below B w w' := by
  obtain ⟨i0, hi, hz0, hz1, hz2⟩ := info_parts infoId
  obtain ⟨A0, c0, rfl⟩ : ∃ A c, v0 = .slice A 0 c := by
    obtain ⟨A, c, e, _⟩ := h0.vs
    exact ⟨A, c, e⟩
  refine (callsIn_wide (n := 9)).1 ?_
  refine callsIn_of_wp_marks Try.func71 rfl trivial ?_ rfl
  simp only [Try.ntmps71, List.size_toArray, List.length_cons, List.length_nil, Nat.reduceAdd, Nat.reduceSub, Array.replicate_succ, Array.replicate_zero, List.push_toArray, List.append_toArray, List.nil_append, List.cons_append]
  gi_wp2
  have bO := Boxed.new w 31 (.slice A0 0 c0)
  have hBw : Below w.heap.size w (w.alloc (.cells #[.slice A0 0 c0] 31)) := (Below.refl _ w).alloc (Nat.le_refl _) _
  have hB0 : Below B w (w.alloc (.cells #[.slice A0 0 c0] 31)) := (Below.refl _ w).alloc hB _
  refine wpIn_rangeFunc_ownG rfl (by omega) (gf := gf) (lb := lb) rfl trivial eg
    (encs := fun x : Bs => #[encStr x]) (Kp := KeepsWalks) hseq walksK_t walksK_b hBw (fun _ => rfl)
    (fun pre W => (∃ v, Boxed W w.heap.size 31 v ∧ W.ownsRow B tId 1 v pre.length (texts pre) ∧ True) ∧ Below B w W)
    (fun _ _ _ => False)
    (OwnFrom.and (Own.from (holdsRow_own B w.heap.size 31 tId 1 (fun pre => pre.length) (fun pre => texts pre) (fun _ _ => True)) _) (ownFrom_below hB (by simp; omega)))
    (fun _ _ _ _ _ hs _ _ => hs)
    ⟨⟨_, bO, OwT.alloc h0 _, trivial⟩, hB0⟩
    (fun x => { tmps := #[.slice A0 0 c0, .func (.func gf) #[] lb, .pointer (some ⟨w.heap.size, 0, none⟩), undef, .slice none 0 0, encStr x, .func (.func gf) #[] lb, encStr x, undef, undef, undef, undef, undef], defers := [] }) ?assign ?body ?done ?stop
  case assign =>
    intro l x W K hK
    gi_wp2
    exact hK
  case body =>
    rintro l pre x W ⟨⟨v, hv, hrow, _⟩, hBW⟩ hlt
    have hc := hv.cell
    have hsz := hBW.size
    gi_wp2_with (gi_at_builtin; refine wpListIn_append_own _ rfl _ _ 31 rfl B tId i0 (.string ⟨#[]⟩) 1 16 Try.underlying31 hi hz0 hz1 hz2 rfl (by decide) _ _ _ rfl (hrow.alloc _) ⟨W.heap.size, 0, none⟩ 1 1 [encStr x] rfl rfl (cell_one_new _ _ _) (by simp [Value.oneCell']) (by unfold maxLen; omega) (by omega) (by simp; omega) ?_; intro v' w1 hown' hgrow _; obtain ⟨g', cap', rfl⟩ := ownsRow_succ hown'; obtain ⟨hv1, hv2, hr2, hk2, hb2⟩ := hv.appended (by decide) hrow (Nat.le_trans hB hBW.size) hB hown' hgrow; have hc1 := hv1.cell; have hf1 := hv1.frozen)
    exact ⟨hk2.from _, hk2.walks, ⟨_, hv2, by rw [texts_snoc', List.length_append]; exact hr2, trivial⟩, hBW.trans hb2⟩
  case done =>
    rintro D ys W hD hS ⟨⟨v, hv, hrow, _⟩, hBW⟩ hK
    have hc := hv.cell
    gi_wp2
    refine ⟨by simp, .inl ⟨_, _, rfl, run_takeDeferred hK, ?_⟩⟩
    exact ⟨_, results_tmp rfl _ _ _, v, ys, rfl, hS, ownsRow_putObj hrow _ hK rfl, hBW.trans (belowK_b (w := w) hB W D _ _ (by simp at hD; omega) hK rfl rfl)⟩
  case stop =>
    rintro D c pre W _ _ h _
    exact h.elim

theorem made_ids (N : Nat) (hN : N ≤ 1000) : ∃ C : Array Value, (∀ w : World, (Instr.makeSlice 31 (.int .i64 0) (.int .i64 (N : Int))).run Try.prog w = .ok (.slice (some ⟨w.heap.size, 0, none⟩) 0 N) (w.alloc (.cells C tId))) ∧ C.size = N := by
  obtain ⟨i0, hi0, hz0, hz1, hz2⟩ := info_parts infoId
  refine ⟨madeCells #[.string ⟨#[]⟩] N, fun w => ?_, by rw [size_madeCells]⟩
  have hr := run_makeSlice (P := Try.prog) w 31 tId i0 (.string ⟨#[]⟩) Try.underlying31 hi0 hz0 .i64 .i64 0 (N : Int) (Int.le_refl _) (by omega) (by rw [hz1]; simp; omega) (by rw [hz2]; omega) (by omega)
  rw [hz1, Int.toNat_natCast, Nat.mul_one] at hr
  exact hr

/-! ### What holds while dag.rising's operations are done, in whatever order -/
def PhiR (b n : Nat) (_kf : Nat) (B : Nat) (L : List Bs) : Nat → Value → World → Prop
  | 0, v, _ => v = .map (some b)
  | 1, v, _ => v = .int .i64 (n : Int)
  | 3, v, _ => v = .map (some b)
  | 5, v, w => ∃ ss, OwT w B tId v ss ∧ srt ss = srt L ∧ ss.length ≤ 1000
  | _, _, _ => True
def PhiS (b : Nat) (kf B : Nat) (v6 v8 : Value) (x2 x4 : Prop) (w : World) : Prop :=
  (x2 → OwT w B tId v6 []) ∧ (x4 → ∃ Bm, v8 = .func (.func kf) #[] #[.pointer (some ⟨Bm, 0, none⟩)] ∧ Bm < w.heap.size ∧ w.cell? ⟨Bm, 0, none⟩ = some (.map (some b)))
theorem PhiR.keep {b n kf B : Nat} {L : List Bs} {k : Nat} {v : Value} {w w' : World} (h : PhiR b n kf B L k v w) (hb : Below w.heap.size w w') : PhiR b n kf B L k v w' := by
  unfold PhiR at h ⊢
  split at h
  · exact h
  · exact h
  · exact h
  · obtain ⟨ss, h1, h2⟩ := h
    exact ⟨ss, h1.kept hb, h2⟩
  · exact h
theorem PhiS.keep {b kf B : Nat} {v6 v8 : Value} {x2 x4 : Prop} {w w' : World} (h : PhiS b kf B v6 v8 x2 x4 w) (hb : Below w.heap.size w w') : PhiS b kf B v6 v8 x2 x4 w' := by
  refine ⟨fun x => (h.1 x).kept hb, fun x => ?_⟩
  obtain ⟨Bm, e, h1, h2⟩ := h.2 x
  exact ⟨Bm, e, Nat.lt_of_lt_of_le h1 hb.size, (hb.cell (p := ⟨Bm, 0, none⟩) h1).trans h2⟩
def frR (b : Nat) (v : Nat → Value) : Act := { tmps := List.toArray (.map (some b) :: undef :: .slice none 0 0 :: v 6 :: v 0 :: v 1 :: v 2 :: v 3 :: v 4 :: v 5 :: undef :: undef :: undef :: []), defers := [] }
/-- what holds of all that is done so far -/
structure DnR (b n kf B : Nat) (L : List Bs) (w0 : World) (listed : Array Bool) (v : Nat → Value) (w : World) : Prop where
  low : Below w0.heap.size w0 w
  base : B = w0.heap.size
  phi : ∀ k, k < 6 → listed.getD k false = true → PhiR b n kf B L k (v k) w
  own : listed.getD 5 false = false → PhiS b kf B (v 2) (v 4) (listed.getD 2 false = true) (listed.getD 4 false = true) w
  fin : listed.getD 6 false = true → PhiR b n kf B L 5 (v 6) w
  wait : listed.getD 6 false = true → listed.getD 5 false = true
theorem DnR.start {b n kf B : Nat} {L : List Bs} {w0 : World} (hB : B = w0.heap.size) : DnR b n kf B L w0 (Array.replicate 7 false) (fun _ => undef) w0.drew := by
  refine ⟨below_drew1 (Below.refl _ _), hB, fun k _ h => ?_, fun _ => ⟨fun h => ?_, fun h => ?_⟩, fun h => ?_, fun h => ?_⟩ <;> (rw [Rw.repV_false] at h; cases h)
theorem DnR.step {b n kf B : Nat} {L : List Bs} {w0 : World} {listed : Array Bool} {v : Nat → Value} {w : World} (h : DnR b n kf B L w0 listed v w) (k : Nat) (hk : k < 5) {nv : Value} {w' : World} (hb : Below w.heap.size w w')
    (hn : PhiR b n kf B L k nv w') (h2 : k = 2 → OwT w' B tId nv []) (h4 : k = 4 → ∃ Bm, nv = .func (.func kf) #[] #[.pointer (some ⟨Bm, 0, none⟩)] ∧ Bm < w'.heap.size ∧ w'.cell? ⟨Bm, 0, none⟩ = some (.map (some b))) :
    DnR b n kf B L w0 (listed.setIfInBounds k true) (Rw.updV v k nv) w' := by
  refine ⟨h.low.trans (hb.mono h.low.size), h.base, fun j hj hl => ?_, fun hl => ?_, fun hl => ?_, fun hl => by rw [getD_set_ne false (by omega)] at hl ⊢; exact h.wait hl⟩
  · by_cases e : j = k
    · subst e; rw [Rw.updV_same]; exact hn
    · rw [Rw.updV_other _ _ _ _ e]
      rw [getD_set_ne false (fun h => e h.symm)] at hl
      exact (h.phi j hj hl).keep hb
  · rw [getD_set_ne false (by omega)] at hl
    have ho := (h.own hl).keep hb
    refine ⟨fun x => ?_, fun x => ?_⟩
    · by_cases e : (2 : Nat) = k
      · subst e; rw [Rw.updV_same]; exact h2 rfl
      · rw [Rw.updV_other _ _ _ _ e]
        rw [getD_set_ne false (fun h => e h.symm)] at x
        exact ho.1 x
    · by_cases e : (4 : Nat) = k
      · subst e; rw [Rw.updV_same]; exact h4 rfl
      · rw [Rw.updV_other _ _ _ _ e]
        rw [getD_set_ne false (fun h => e h.symm)] at x
        exact ho.2 x
  · rw [getD_set_ne false (by omega)] at hl
    rw [Rw.updV_other _ _ _ _ (by omega)]
    exact (h.fin hl).keep hb
theorem DnR.call {b n kf B : Nat} {L : List Bs} {w0 : World} {listed : Array Bool} {v : Nat → Value} {w : World} (h : DnR b n kf B L w0 listed v w) (hs : listed.size = 7) (h6 : listed.getD 6 false = false) {nv : Value} {w' : World} (hb : Below w0.heap.size w0 w') (hn : PhiR b n kf B L 5 nv w') :
    DnR b n kf B L w0 (listed.setIfInBounds 5 true) (Rw.updV v 5 nv) w' := by
  refine ⟨hb, h.base, fun j hj hl => ?_, fun hl => ?_, fun hl => ?_, fun hl => by rw [getD_set_ne false (by omega), h6] at hl; cases hl⟩
  · by_cases e : j = 5
    · subst e; rw [Rw.updV_same]; exact hn
    · rw [Rw.updV_other _ _ _ _ e]
      rw [getD_set_ne false (fun h => e h.symm)] at hl
      have := h.phi j hj hl
      unfold PhiR at this ⊢
      split at this
      · exact this
      · exact this
      · exact this
      · exact absurd rfl e
      · exact this
  · exfalso
    have : (listed.setIfInBounds 5 true).getD 5 false = true := by
      unfold Array.getD
      rw [dif_pos (by simp; omega)]
      simp
    rw [this] at hl; cases hl
  · rw [getD_set_ne false (by omega), h6] at hl
    cases hl
theorem DnR.last {b n kf B : Nat} {L : List Bs} {w0 : World} {listed : Array Bool} {v : Nat → Value} {w : World} (h : DnR b n kf B L w0 listed v w) (h5 : listed.getD 5 false = true) : DnR b n kf B L w0 (listed.setIfInBounds 6 true) (Rw.updV v 6 (v 5)) w := by
  refine ⟨h.low, h.base, fun j hj hl => ?_, fun hl => ?_, fun _ => ?_, fun _ => by rw [getD_set_ne false (by omega)]; exact h5⟩
  · rw [getD_set_ne false (by omega)] at hl
    rw [Rw.updV_other _ _ _ _ (by omega)]
    exact h.phi j hj hl
  · rw [getD_set_ne false (by omega), h5] at hl
    cases hl
  · rw [Rw.updV_same]; exact h.phi 5 (by omega) h5

/-- maps.Keys at a map of nodes -/
theorem keysN_any (mb : Option Nat) (w : World) : Calls Try.prog 72 #[.map mb] w fun y w' => y = .returned (.func (.func 93) #[] #[.pointer (some ⟨w.heap.size, 0, none⟩)]) ∧ w' = w.alloc (.cells #[.map mb] 57) :=
  (callsIn_wide (n := 9)).1 (AnyZ.keys_in Try.keysN Fence.wide 9 trivial rfl mb w)
theorem keysN_stops (Bm b nn : Nat) (D0 : DataW Value) (w : World) (hBm : Bm < w.heap.size) (hm : w.cell? ⟨Bm, 0, none⟩ = some (.map (some b))) (hown : w.ownsMap Try.prog tId RR b nn D0) :
    SeqStops Fence.wide 8 Try.prog 93 #[.pointer (some ⟨Bm, 0, none⟩)] encStr (fun ss => ss.Perm (strKeys D0) ∧ ∀ x, x ∈ ss ↔ Maps.has D0 (.string x) = true) (fun pre => pre.Nodup ∧ ∀ x ∈ pre, Maps.has D0 (.string x) = true) (Maps.size D0) w :=
  AnyZ.keys_stops (ρ := Try.keysN_ren) { Try.keysN with } Fence.wide 8 trivial rfl (by omega) Bm b nn D0 w hBm hm hown
set_option maxRecDepth 100000 in
set_option maxHeartbeats 4000000 in
/-- dag.rising at a map of nodes: its keys, rising -/
theorem risingN_any {w : World} {b : Nat} {f : Bs → Option Value} (h : Mp w b f) (L : List Bs) (hn : L.Nodup) (hL : ∀ k, k ∈ L ↔ (f k).isSome = true) (hs : ∀ k ∈ L, k.length ≤ 1000000) (hl : L.length ≤ 1000) :
    Calls Try.prog 48 #[.map (some b)] w fun y w' => ∃ v, y = .returned v ∧ OwT w' w.heap.size tId v (srt L) ∧ Below w.heap.size w w' := by
  obtain ⟨D0, hown, hhas, hsize, hnd⟩ := h.owns (P := Try.prog) (K := tId) Try.underlying23 L (fun k hk => ⟨(hL k).2 hk, hs k ((hL k).2 hk)⟩) (by omega)
  have hbl := h.lt
  have HLen := hide (show ∀ W, Below w.heap.size w W → ∀ ty, (Builtin.len_ #[57] ty #[.map (some b)]).run Try.prog W = .ok (.int .i64 (L.length : Int)) W from
    fun W hb => (h.move (hb.block b hbl)).len (P := Try.prog) (T := 57) (K := tId) Try.underlying57 L hn hL)
  have HMk := hide (made_ids L.length hl)
  have HOwn := hide hown
  have HH := hide hhas
  have HS := hide hsize
  have HN := hide hnd
  have HL := hide hL
  have HNd := hide hn
  clear hown hhas hsize hnd hL hn h hs
  obtain ⟨B, hB⟩ : ∃ B, B = w.heap.size := ⟨_, rfl⟩
  -- the call of AppendSeq, in any world behind this one
  have HA := hide (show ∀ (W : World) (Bm : Nat) (v0 : Value), Below w.heap.size w W → Bm < W.heap.size → W.cell? ⟨Bm, 0, none⟩ = some (.map (some b)) → OwT W B tId v0 [] →
      Calls Try.prog 71 #[v0, .func (.func 93) #[] #[.pointer (some ⟨Bm, 0, none⟩)]] W fun y w' => ∃ v, y = .returned v ∧ Hid (∃ ss, OwT w' B tId v ss ∧ srt ss = srt L ∧ ss.length ≤ 1000) ∧ Hid (Below w.heap.size w w') from by
    intro W Bm v0 hb hBm hm h0
    have hownW : W.ownsMap Try.prog tId RR b L.length D0 := by
      obtain ⟨es, clock, h1, h2, h3, h4⟩ := HOwn.out
      exact ⟨es, clock, (hb.block b hbl).trans h1, h2, h3, h4⟩
    refine (aseq_any h0 (by rw [hB]; exact hb.size) (enters_of Try.func93 (by kernel_rfl) rfl) (by have := HS.out; omega) (keysN_stops Bm b _ D0 W hBm hm hownW)).mono ?_
    rintro y w' ⟨v, ss, rfl, ⟨hp, hm2⟩, h1, h2⟩
    have hnd : ss.Nodup := hp.nodup_iff.2 HN.out
    have e : srt ss = srt L := srt_is hnd (srt_up HNd.out) fun x => by rw [srt_mem, hm2, HH.out, HL.out]
    have hle : ss.length ≤ 1000 := by
      have h5 := congrArg List.length e
      rw [srt_len, srt_len] at h5
      omega
    rw [hB] at h2
    exact ⟨v, rfl, hide ⟨ss, h1, e, hle⟩, hide (hb.trans h2)⟩)
  clear HOwn HH HS HN HL HNd hbl
  obtain ⟨n, hnl⟩ : ∃ n, n = L.length := ⟨_, rfl⟩
  rw [← hnl] at HLen HMk
  have HNle := hide (show n ≤ 1000 by omega)
  clear hl hnl
  have HB := hide hB
  clear hB
  go_enter Try.func48, Try.ntmps48
  go_wp2_with fail
  refine Rw.wp_region_once (fun listed a' w' => ∃ v, a' = frR b v ∧ DnR b n 93 B L w listed v w') (by kernel_rfl) (by kernel_rfl) ?start ?step ?fin
  case start => exact ⟨fun _ => undef, rfl, DnR.start HB.out⟩
  case fin =>
    rintro listed a' w' ⟨v, rfl, hd⟩ hl
    obtain ⟨ss, h1, h2, h3⟩ := hd.fin (hl 6 (by simp))
    have HS := hide (sort_any h1 (by omega))
    have HE := hide h2
    have HLo := hide hd.low
    clear hd hl h1 h2 h3 HA HLen HMk
    unfold frR
    generalize v 0 = u0 at *
    generalize v 1 = u1 at *
    generalize v 2 = u2 at *
    generalize v 3 = u3 at *
    generalize v 4 = u4 at *
    generalize v 5 = u5 at *
    generalize v 6 = u6 at *
    go_wp2_with fail
    refine HS.out.mono ?_
    rintro y w2 ⟨rfl, h1, h2⟩
    have h3 := HLo.out.grown h2 HLo.out.size (fun k e => by have := (World.ownsRow.lt h1 k e).1; have := HB.out; omega)
    rw [HE.out] at h1
    have H1 := hide h1
    have H3 := hide h3
    clear h1 h2 h3 HLo HS HE
    go_wp2
    go_ret
    exact ⟨_, rfl, by rw [← HB.out]; exact H1.out, H3.out⟩
  case step =>
    rintro listed a' w' i op ⟨v, rfl, hd⟩ hop hsz hnl hdep K hK
    have hi : i < 7 := by have := (List.getElem?_eq_some_iff.1 hop).1; simpa using this
    have HK := hide (show ∀ k nv wz, k < 5 → i = k → Below w'.heap.size w' wz → PhiR b n 93 B L k nv wz → (k = 2 → OwT wz B tId nv []) →
        (k = 4 → ∃ Bm, nv = .func (.func 93) #[] #[.pointer (some ⟨Bm, 0, none⟩)] ∧ Bm < wz.heap.size ∧ wz.cell? ⟨Bm, 0, none⟩ = some (.map (some b))) → K (frR b (Rw.updV v k nv)) wz from
      fun k nv wz hk hik hbz hph h2 h4 => hK _ _ ⟨_, rfl, by rw [hik]; exact hd.step k hk hbz hph h2 h4⟩)
    have Hd := hide hd
    have Hdep := hide hdep
    have HhK := hide hK
    have Hnl := hide hnl
    have Hsz := hide hsz
    clear hd hdep hK hnl hsz
    have hcase : i = 0 ∨ i = 1 ∨ i = 2 ∨ i = 3 ∨ i = 4 ∨ i = 5 ∨ i = 6 := by omega
    rcases hcase with rfl | rfl | rfl | rfl | rfl | rfl | rfl
    · simp only [List.getElem?_cons_zero, Option.some.injEq] at hop
      subst hop
      unfold frR
      go_simp
      exact HK.out 0 (.map (some b)) _ (by omega) rfl (Below.refl _ _) rfl (fun h => by cases h) (fun h => by cases h)
    · simp only [List.getElem?_cons_zero, List.getElem?_cons_succ, Option.some.injEq] at hop
      subst hop
      have h0 : v 0 = .map (some b) := Hd.out.phi 0 (by omega) (Hdep.out 0 (by kernel_rfl))
      have hlen := HLen.out w' Hd.out.low
      unfold frR
      rw [h0]
      go_simp
      have hk := HK.out 1 (.int .i64 (n : Int)) _ (by omega) rfl (Below.refl _ _) rfl (fun h => by cases h) (fun h => by cases h)
      simp only [frR, Rw.updV, Nat.reduceEqDiff, ↓reduceIte, h0, reduceCtorEq] at hk
      exact hk
    · simp only [List.getElem?_cons_zero, List.getElem?_cons_succ, Option.some.injEq] at hop
      subst hop
      have h1 : v 1 = .int .i64 (n : Int) := Hd.out.phi 1 (by omega) (Hdep.out 1 (by kernel_rfl))
      obtain ⟨C, hmk, hC⟩ := HMk.out
      have HC := hide hC
      clear hC
      unfold frR
      rw [h1]
      go_simp
      have hk := HK.out 2 (.slice (some ⟨w'.heap.size, 0, none⟩) 0 n) _ (by omega) rfl ((Below.refl _ w').alloc (Nat.le_refl _) (.cells C tId)) trivial (fun _ => World.ownsRow_made w' C n (by have := HB.out; have := Hd.out.low.size; omega) (by have := HNle.out; unfold maxLen; omega) (by have := HC.out; omega)) (fun h => by cases h)
      simp only [frR, Rw.updV, Nat.reduceEqDiff, ↓reduceIte, h1, reduceCtorEq] at hk
      exact hk
    · simp only [List.getElem?_cons_zero, List.getElem?_cons_succ, Option.some.injEq] at hop
      subst hop
      unfold frR
      go_simp
      exact HK.out 3 (.map (some b)) _ (by omega) rfl (Below.refl _ _) rfl (fun h => by cases h) (fun h => by cases h)
    · simp only [List.getElem?_cons_zero, List.getElem?_cons_succ, Option.some.injEq] at hop
      subst hop
      have h3 : v 3 = .map (some b) := Hd.out.phi 3 (by omega) (Hdep.out 3 (by kernel_rfl))
      unfold frR
      rw [h3]
      go_simp
      refine (keysN_any _ _).mono ?_
      rintro y w1 ⟨rfl, rfl⟩
      have hk := HK.out 4 (.func (.func 93) #[] #[.pointer (some ⟨w'.heap.size, 0, none⟩)]) _ (by omega) rfl ((Below.refl _ w').alloc (Nat.le_refl _) (.cells #[.map (some b)] 57)) trivial (fun h => by cases h)
        (fun _ => ⟨w'.heap.size, rfl, by simp, by have := (Row.fresh w' 57 #[Value.map (some b)]).cell 0; simp⟩)
      simp only [frR, Rw.updV, Nat.reduceEqDiff, ↓reduceIte, h3, reduceCtorEq] at hk
      exact hk
    · simp only [List.getElem?_cons_zero, List.getElem?_cons_succ, Option.some.injEq] at hop
      subst hop
      have ho := Hd.out.own Hnl.out
      have h2 := ho.1 (Hdep.out 2 (by kernel_rfl))
      obtain ⟨Bm, e4, h4, h5⟩ := ho.2 (Hdep.out 4 (by kernel_rfl))
      have HC := hide (HA.out w' Bm (v 2) Hd.out.low h4 h5 h2)
      have h6 : listed.getD 6 false = false := by
        cases h : listed.getD 6 false with
        | false => rfl
        | true => have := Hd.out.wait h; rw [Hnl.out] at this; cases this
      clear ho h2 h4 h5
      unfold frR
      rw [e4]
      go_simp
      refine HC.out.mono ?_
      rintro y w1 ⟨v9, rfl, H1, H2⟩
      have hk := HhK.out _ _ ⟨_, rfl, Hd.out.call Hsz.out h6 H2.out H1.out⟩
      simp only [frR, Rw.updV, Nat.reduceEqDiff, ↓reduceIte, e4, reduceCtorEq] at hk
      exact hk
    · simp only [List.getElem?_cons_zero, List.getElem?_cons_succ, Option.some.injEq] at hop
      subst hop
      have hk := HhK.out _ _ ⟨_, rfl, Hd.out.last (Hdep.out 5 (by kernel_rfl))⟩
      simp only [frR, Rw.updV, Nat.reduceEqDiff, ↓reduceIte, reduceCtorEq] at hk
      unfold frR
      generalize v 5 = u5 at *
      go_simp
      exact hk

/-- maps.Keys at a map of those that wait -/
theorem keysW_any (mb : Option Nat) (w : World) : Calls Try.prog 73 #[.map mb] w fun y w' => y = .returned (.func (.func 94) #[] #[.pointer (some ⟨w.heap.size, 0, none⟩)]) ∧ w' = w.alloc (.cells #[.map mb] 59) :=
  (callsIn_wide (n := 9)).1 (AnyZ.keys_in Try.keysW Fence.wide 9 trivial rfl mb w)
theorem keysW_stops (Bm b nn : Nat) (D0 : DataW Value) (w : World) (hBm : Bm < w.heap.size) (hm : w.cell? ⟨Bm, 0, none⟩ = some (.map (some b))) (hown : w.ownsMap Try.prog tId RR b nn D0) :
    SeqStops Fence.wide 8 Try.prog 94 #[.pointer (some ⟨Bm, 0, none⟩)] encStr (fun ss => ss.Perm (strKeys D0) ∧ ∀ x, x ∈ ss ↔ Maps.has D0 (.string x) = true) (fun pre => pre.Nodup ∧ ∀ x ∈ pre, Maps.has D0 (.string x) = true) (Maps.size D0) w :=
  AnyZ.keys_stops (ρ := Try.keysW_ren) { Try.keysW with } Fence.wide 8 trivial rfl (by omega) Bm b nn D0 w hBm hm hown
set_option maxRecDepth 100000 in
set_option maxHeartbeats 4000000 in
/-- dag.rising at a map of those that wait: its keys, rising -/
theorem risingW_any {w : World} {b : Nat} {f : Bs → Option Value} (h : Mp w b f) (L : List Bs) (hn : L.Nodup) (hL : ∀ k, k ∈ L ↔ (f k).isSome = true) (hs : ∀ k ∈ L, k.length ≤ 1000000) (hl : L.length ≤ 1000) :
    Calls Try.prog 49 #[.map (some b)] w fun y w' => ∃ v, y = .returned v ∧ OwT w' w.heap.size tId v (srt L) ∧ Below w.heap.size w w' := by
  obtain ⟨D0, hown, hhas, hsize, hnd⟩ := h.owns (P := Try.prog) (K := tId) Try.underlying23 L (fun k hk => ⟨(hL k).2 hk, hs k ((hL k).2 hk)⟩) (by omega)
  have hbl := h.lt
  have HLen := hide (show ∀ W, Below w.heap.size w W → ∀ ty, (Builtin.len_ #[59] ty #[.map (some b)]).run Try.prog W = .ok (.int .i64 (L.length : Int)) W from
    fun W hb => (h.move (hb.block b hbl)).len (P := Try.prog) (T := 59) (K := tId) Try.underlying59 L hn hL)
  have HMk := hide (made_ids L.length hl)
  have HOwn := hide hown
  have HH := hide hhas
  have HS := hide hsize
  have HN := hide hnd
  have HL := hide hL
  have HNd := hide hn
  clear hown hhas hsize hnd hL hn h hs
  obtain ⟨B, hB⟩ : ∃ B, B = w.heap.size := ⟨_, rfl⟩
  -- the call of AppendSeq, in any world behind this one
  have HA := hide (show ∀ (W : World) (Bm : Nat) (v0 : Value), Below w.heap.size w W → Bm < W.heap.size → W.cell? ⟨Bm, 0, none⟩ = some (.map (some b)) → OwT W B tId v0 [] →
      Calls Try.prog 71 #[v0, .func (.func 94) #[] #[.pointer (some ⟨Bm, 0, none⟩)]] W fun y w' => ∃ v, y = .returned v ∧ Hid (∃ ss, OwT w' B tId v ss ∧ srt ss = srt L ∧ ss.length ≤ 1000) ∧ Hid (Below w.heap.size w w') from by
    intro W Bm v0 hb hBm hm h0
    have hownW : W.ownsMap Try.prog tId RR b L.length D0 := by
      obtain ⟨es, clock, h1, h2, h3, h4⟩ := HOwn.out
      exact ⟨es, clock, (hb.block b hbl).trans h1, h2, h3, h4⟩
    refine (aseq_any h0 (by rw [hB]; exact hb.size) (enters_of Try.func94 (by kernel_rfl) rfl) (by have := HS.out; omega) (keysW_stops Bm b _ D0 W hBm hm hownW)).mono ?_
    rintro y w' ⟨v, ss, rfl, ⟨hp, hm2⟩, h1, h2⟩
    have hnd : ss.Nodup := hp.nodup_iff.2 HN.out
    have e : srt ss = srt L := srt_is hnd (srt_up HNd.out) fun x => by rw [srt_mem, hm2, HH.out, HL.out]
    have hle : ss.length ≤ 1000 := by
      have h5 := congrArg List.length e
      rw [srt_len, srt_len] at h5
      omega
    rw [hB] at h2
    exact ⟨v, rfl, hide ⟨ss, h1, e, hle⟩, hide (hb.trans h2)⟩)
  clear HOwn HH HS HN HL HNd hbl
  obtain ⟨n, hnl⟩ : ∃ n, n = L.length := ⟨_, rfl⟩
  rw [← hnl] at HLen HMk
  have HNle := hide (show n ≤ 1000 by omega)
  clear hl hnl
  have HB := hide hB
  clear hB
  go_enter Try.func49, Try.ntmps49
  go_wp2_with fail
  refine Rw.wp_region_once (fun listed a' w' => ∃ v, a' = frR b v ∧ DnR b n 94 B L w listed v w') (by kernel_rfl) (by kernel_rfl) ?start ?step ?fin
  case start => exact ⟨fun _ => undef, rfl, DnR.start HB.out⟩
  case fin =>
    rintro listed a' w' ⟨v, rfl, hd⟩ hl
    obtain ⟨ss, h1, h2, h3⟩ := hd.fin (hl 6 (by simp))
    have HS := hide (sort_any h1 (by omega))
    have HE := hide h2
    have HLo := hide hd.low
    clear hd hl h1 h2 h3 HA HLen HMk
    unfold frR
    generalize v 0 = u0 at *
    generalize v 1 = u1 at *
    generalize v 2 = u2 at *
    generalize v 3 = u3 at *
    generalize v 4 = u4 at *
    generalize v 5 = u5 at *
    generalize v 6 = u6 at *
    go_wp2_with fail
    refine HS.out.mono ?_
    rintro y w2 ⟨rfl, h1, h2⟩
    have h3 := HLo.out.grown h2 HLo.out.size (fun k e => by have := (World.ownsRow.lt h1 k e).1; have := HB.out; omega)
    rw [HE.out] at h1
    have H1 := hide h1
    have H3 := hide h3
    clear h1 h2 h3 HLo HS HE
    go_wp2
    go_ret
    exact ⟨_, rfl, by rw [← HB.out]; exact H1.out, H3.out⟩
  case step =>
    rintro listed a' w' i op ⟨v, rfl, hd⟩ hop hsz hnl hdep K hK
    have hi : i < 7 := by have := (List.getElem?_eq_some_iff.1 hop).1; simpa using this
    have HK := hide (show ∀ k nv wz, k < 5 → i = k → Below w'.heap.size w' wz → PhiR b n 94 B L k nv wz → (k = 2 → OwT wz B tId nv []) →
        (k = 4 → ∃ Bm, nv = .func (.func 94) #[] #[.pointer (some ⟨Bm, 0, none⟩)] ∧ Bm < wz.heap.size ∧ wz.cell? ⟨Bm, 0, none⟩ = some (.map (some b))) → K (frR b (Rw.updV v k nv)) wz from
      fun k nv wz hk hik hbz hph h2 h4 => hK _ _ ⟨_, rfl, by rw [hik]; exact hd.step k hk hbz hph h2 h4⟩)
    have Hd := hide hd
    have Hdep := hide hdep
    have HhK := hide hK
    have Hnl := hide hnl
    have Hsz := hide hsz
    clear hd hdep hK hnl hsz
    have hcase : i = 0 ∨ i = 1 ∨ i = 2 ∨ i = 3 ∨ i = 4 ∨ i = 5 ∨ i = 6 := by omega
    rcases hcase with rfl | rfl | rfl | rfl | rfl | rfl | rfl
    · simp only [List.getElem?_cons_zero, Option.some.injEq] at hop
      subst hop
      unfold frR
      go_simp
      exact HK.out 0 (.map (some b)) _ (by omega) rfl (Below.refl _ _) rfl (fun h => by cases h) (fun h => by cases h)
    · simp only [List.getElem?_cons_zero, List.getElem?_cons_succ, Option.some.injEq] at hop
      subst hop
      have h0 : v 0 = .map (some b) := Hd.out.phi 0 (by omega) (Hdep.out 0 (by kernel_rfl))
      have hlen := HLen.out w' Hd.out.low
      unfold frR
      rw [h0]
      go_simp
      have hk := HK.out 1 (.int .i64 (n : Int)) _ (by omega) rfl (Below.refl _ _) rfl (fun h => by cases h) (fun h => by cases h)
      simp only [frR, Rw.updV, Nat.reduceEqDiff, ↓reduceIte, h0, reduceCtorEq] at hk
      exact hk
    · simp only [List.getElem?_cons_zero, List.getElem?_cons_succ, Option.some.injEq] at hop
      subst hop
      have h1 : v 1 = .int .i64 (n : Int) := Hd.out.phi 1 (by omega) (Hdep.out 1 (by kernel_rfl))
      obtain ⟨C, hmk, hC⟩ := HMk.out
      have HC := hide hC
      clear hC
      unfold frR
      rw [h1]
      go_simp
      have hk := HK.out 2 (.slice (some ⟨w'.heap.size, 0, none⟩) 0 n) _ (by omega) rfl ((Below.refl _ w').alloc (Nat.le_refl _) (.cells C tId)) trivial (fun _ => World.ownsRow_made w' C n (by have := HB.out; have := Hd.out.low.size; omega) (by have := HNle.out; unfold maxLen; omega) (by have := HC.out; omega)) (fun h => by cases h)
      simp only [frR, Rw.updV, Nat.reduceEqDiff, ↓reduceIte, h1, reduceCtorEq] at hk
      exact hk
    · simp only [List.getElem?_cons_zero, List.getElem?_cons_succ, Option.some.injEq] at hop
      subst hop
      unfold frR
      go_simp
      exact HK.out 3 (.map (some b)) _ (by omega) rfl (Below.refl _ _) rfl (fun h => by cases h) (fun h => by cases h)
    · simp only [List.getElem?_cons_zero, List.getElem?_cons_succ, Option.some.injEq] at hop
      subst hop
      have h3 : v 3 = .map (some b) := Hd.out.phi 3 (by omega) (Hdep.out 3 (by kernel_rfl))
      unfold frR
      rw [h3]
      go_simp
      refine (keysW_any _ _).mono ?_
      rintro y w1 ⟨rfl, rfl⟩
      have hk := HK.out 4 (.func (.func 94) #[] #[.pointer (some ⟨w'.heap.size, 0, none⟩)]) _ (by omega) rfl ((Below.refl _ w').alloc (Nat.le_refl _) (.cells #[.map (some b)] 59)) trivial (fun h => by cases h)
        (fun _ => ⟨w'.heap.size, rfl, by simp, by have := (Row.fresh w' 59 #[Value.map (some b)]).cell 0; simp⟩)
      simp only [frR, Rw.updV, Nat.reduceEqDiff, ↓reduceIte, h3, reduceCtorEq] at hk
      exact hk
    · simp only [List.getElem?_cons_zero, List.getElem?_cons_succ, Option.some.injEq] at hop
      subst hop
      have ho := Hd.out.own Hnl.out
      have h2 := ho.1 (Hdep.out 2 (by kernel_rfl))
      obtain ⟨Bm, e4, h4, h5⟩ := ho.2 (Hdep.out 4 (by kernel_rfl))
      have HC := hide (HA.out w' Bm (v 2) Hd.out.low h4 h5 h2)
      have h6 : listed.getD 6 false = false := by
        cases h : listed.getD 6 false with
        | false => rfl
        | true => have := Hd.out.wait h; rw [Hnl.out] at this; cases this
      clear ho h2 h4 h5
      unfold frR
      rw [e4]
      go_simp
      refine HC.out.mono ?_
      rintro y w1 ⟨v9, rfl, H1, H2⟩
      have hk := HhK.out _ _ ⟨_, rfl, Hd.out.call Hsz.out h6 H2.out H1.out⟩
      simp only [frR, Rw.updV, Nat.reduceEqDiff, ↓reduceIte, e4, reduceCtorEq] at hk
      exact hk
    · simp only [List.getElem?_cons_zero, List.getElem?_cons_succ, Option.some.injEq] at hop
      subst hop
      have hk := HhK.out _ _ ⟨_, rfl, Hd.out.last (Hdep.out 5 (by kernel_rfl))⟩
      simp only [frR, Rw.updV, Nat.reduceEqDiff, ↓reduceIte, reduceCtorEq] at hk
      unfold frR
      generalize v 5 = u5 at *
      go_simp
      exact hk

/-- maps.Keys at a map of nothing -/
theorem keysU_any (mb : Option Nat) (w : World) : Calls Try.prog 63 #[.map mb] w fun y w' => y = .returned (.func (.func 79) #[] #[.pointer (some ⟨w.heap.size, 0, none⟩)]) ∧ w' = w.alloc (.cells #[.map mb] 58) :=
  (callsIn_wide (n := 9)).1 (AnyZ.keys_in Try.keysU Fence.wide 9 trivial rfl mb w)
theorem keysU_stops (Bm b nn : Nat) (D0 : DataW Value) (w : World) (hBm : Bm < w.heap.size) (hm : w.cell? ⟨Bm, 0, none⟩ = some (.map (some b))) (hown : w.ownsMap Try.prog tId RR b nn D0) :
    SeqStops Fence.wide 8 Try.prog 79 #[.pointer (some ⟨Bm, 0, none⟩)] encStr (fun ss => ss.Perm (strKeys D0) ∧ ∀ x, x ∈ ss ↔ Maps.has D0 (.string x) = true) (fun pre => pre.Nodup ∧ ∀ x ∈ pre, Maps.has D0 (.string x) = true) (Maps.size D0) w :=
  AnyZ.keys_stops (ρ := Try.keysU_ren) { Try.keysU with } Fence.wide 8 trivial rfl (by omega) Bm b nn D0 w hBm hm hown
set_option maxRecDepth 100000 in
set_option maxHeartbeats 4000000 in
/-- dag.rising at a map of nothing: its keys, rising -/
theorem risingU_any {w : World} {b : Nat} {f : Bs → Option Value} (h : Mp w b f) (L : List Bs) (hn : L.Nodup) (hL : ∀ k, k ∈ L ↔ (f k).isSome = true) (hs : ∀ k ∈ L, k.length ≤ 1000000) (hl : L.length ≤ 1000) :
    Calls Try.prog 50 #[.map (some b)] w fun y w' => ∃ v, y = .returned v ∧ OwT w' w.heap.size tId v (srt L) ∧ Below w.heap.size w w' := by
  obtain ⟨D0, hown, hhas, hsize, hnd⟩ := h.owns (P := Try.prog) (K := tId) Try.underlying23 L (fun k hk => ⟨(hL k).2 hk, hs k ((hL k).2 hk)⟩) (by omega)
  have hbl := h.lt
  have HLen := hide (show ∀ W, Below w.heap.size w W → ∀ ty, (Builtin.len_ #[58] ty #[.map (some b)]).run Try.prog W = .ok (.int .i64 (L.length : Int)) W from
    fun W hb => (h.move (hb.block b hbl)).len (P := Try.prog) (T := 58) (K := tId) Try.underlying58 L hn hL)
  have HMk := hide (made_ids L.length hl)
  have HOwn := hide hown
  have HH := hide hhas
  have HS := hide hsize
  have HN := hide hnd
  have HL := hide hL
  have HNd := hide hn
  clear hown hhas hsize hnd hL hn h hs
  obtain ⟨B, hB⟩ : ∃ B, B = w.heap.size := ⟨_, rfl⟩
  -- the call of AppendSeq, in any world behind this one
  have HA := hide (show ∀ (W : World) (Bm : Nat) (v0 : Value), Below w.heap.size w W → Bm < W.heap.size → W.cell? ⟨Bm, 0, none⟩ = some (.map (some b)) → OwT W B tId v0 [] →
      Calls Try.prog 71 #[v0, .func (.func 79) #[] #[.pointer (some ⟨Bm, 0, none⟩)]] W fun y w' => ∃ v, y = .returned v ∧ Hid (∃ ss, OwT w' B tId v ss ∧ srt ss = srt L ∧ ss.length ≤ 1000) ∧ Hid (Below w.heap.size w w') from by
    intro W Bm v0 hb hBm hm h0
    have hownW : W.ownsMap Try.prog tId RR b L.length D0 := by
      obtain ⟨es, clock, h1, h2, h3, h4⟩ := HOwn.out
      exact ⟨es, clock, (hb.block b hbl).trans h1, h2, h3, h4⟩
    refine (aseq_any h0 (by rw [hB]; exact hb.size) (enters_of Try.func79 (by kernel_rfl) rfl) (by have := HS.out; omega) (keysU_stops Bm b _ D0 W hBm hm hownW)).mono ?_
    rintro y w' ⟨v, ss, rfl, ⟨hp, hm2⟩, h1, h2⟩
    have hnd : ss.Nodup := hp.nodup_iff.2 HN.out
    have e : srt ss = srt L := srt_is hnd (srt_up HNd.out) fun x => by rw [srt_mem, hm2, HH.out, HL.out]
    have hle : ss.length ≤ 1000 := by
      have h5 := congrArg List.length e
      rw [srt_len, srt_len] at h5
      omega
    rw [hB] at h2
    exact ⟨v, rfl, hide ⟨ss, h1, e, hle⟩, hide (hb.trans h2)⟩)
  clear HOwn HH HS HN HL HNd hbl
  obtain ⟨n, hnl⟩ : ∃ n, n = L.length := ⟨_, rfl⟩
  rw [← hnl] at HLen HMk
  have HNle := hide (show n ≤ 1000 by omega)
  clear hl hnl
  have HB := hide hB
  clear hB
  go_enter Try.func50, Try.ntmps50
  go_wp2_with fail
  refine Rw.wp_region_once (fun listed a' w' => ∃ v, a' = frR b v ∧ DnR b n 79 B L w listed v w') (by kernel_rfl) (by kernel_rfl) ?start ?step ?fin
  case start => exact ⟨fun _ => undef, rfl, DnR.start HB.out⟩
  case fin =>
    rintro listed a' w' ⟨v, rfl, hd⟩ hl
    obtain ⟨ss, h1, h2, h3⟩ := hd.fin (hl 6 (by simp))
    have HS := hide (sort_any h1 (by omega))
    have HE := hide h2
    have HLo := hide hd.low
    clear hd hl h1 h2 h3 HA HLen HMk
    unfold frR
    generalize v 0 = u0 at *
    generalize v 1 = u1 at *
    generalize v 2 = u2 at *
    generalize v 3 = u3 at *
    generalize v 4 = u4 at *
    generalize v 5 = u5 at *
    generalize v 6 = u6 at *
    go_wp2_with fail
    refine HS.out.mono ?_
    rintro y w2 ⟨rfl, h1, h2⟩
    have h3 := HLo.out.grown h2 HLo.out.size (fun k e => by have := (World.ownsRow.lt h1 k e).1; have := HB.out; omega)
    rw [HE.out] at h1
    have H1 := hide h1
    have H3 := hide h3
    clear h1 h2 h3 HLo HS HE
    go_wp2
    go_ret
    exact ⟨_, rfl, by rw [← HB.out]; exact H1.out, H3.out⟩
  case step =>
    rintro listed a' w' i op ⟨v, rfl, hd⟩ hop hsz hnl hdep K hK
    have hi : i < 7 := by have := (List.getElem?_eq_some_iff.1 hop).1; simpa using this
    have HK := hide (show ∀ k nv wz, k < 5 → i = k → Below w'.heap.size w' wz → PhiR b n 79 B L k nv wz → (k = 2 → OwT wz B tId nv []) →
        (k = 4 → ∃ Bm, nv = .func (.func 79) #[] #[.pointer (some ⟨Bm, 0, none⟩)] ∧ Bm < wz.heap.size ∧ wz.cell? ⟨Bm, 0, none⟩ = some (.map (some b))) → K (frR b (Rw.updV v k nv)) wz from
      fun k nv wz hk hik hbz hph h2 h4 => hK _ _ ⟨_, rfl, by rw [hik]; exact hd.step k hk hbz hph h2 h4⟩)
    have Hd := hide hd
    have Hdep := hide hdep
    have HhK := hide hK
    have Hnl := hide hnl
    have Hsz := hide hsz
    clear hd hdep hK hnl hsz
    have hcase : i = 0 ∨ i = 1 ∨ i = 2 ∨ i = 3 ∨ i = 4 ∨ i = 5 ∨ i = 6 := by omega
    rcases hcase with rfl | rfl | rfl | rfl | rfl | rfl | rfl
    · simp only [List.getElem?_cons_zero, Option.some.injEq] at hop
      subst hop
      unfold frR
      go_simp
      exact HK.out 0 (.map (some b)) _ (by omega) rfl (Below.refl _ _) rfl (fun h => by cases h) (fun h => by cases h)
    · simp only [List.getElem?_cons_zero, List.getElem?_cons_succ, Option.some.injEq] at hop
      subst hop
      have h0 : v 0 = .map (some b) := Hd.out.phi 0 (by omega) (Hdep.out 0 (by kernel_rfl))
      have hlen := HLen.out w' Hd.out.low
      unfold frR
      rw [h0]
      go_simp
      have hk := HK.out 1 (.int .i64 (n : Int)) _ (by omega) rfl (Below.refl _ _) rfl (fun h => by cases h) (fun h => by cases h)
      simp only [frR, Rw.updV, Nat.reduceEqDiff, ↓reduceIte, h0, reduceCtorEq] at hk
      exact hk
    · simp only [List.getElem?_cons_zero, List.getElem?_cons_succ, Option.some.injEq] at hop
      subst hop
      have h1 : v 1 = .int .i64 (n : Int) := Hd.out.phi 1 (by omega) (Hdep.out 1 (by kernel_rfl))
      obtain ⟨C, hmk, hC⟩ := HMk.out
      have HC := hide hC
      clear hC
      unfold frR
      rw [h1]
      go_simp
      have hk := HK.out 2 (.slice (some ⟨w'.heap.size, 0, none⟩) 0 n) _ (by omega) rfl ((Below.refl _ w').alloc (Nat.le_refl _) (.cells C tId)) trivial (fun _ => World.ownsRow_made w' C n (by have := HB.out; have := Hd.out.low.size; omega) (by have := HNle.out; unfold maxLen; omega) (by have := HC.out; omega)) (fun h => by cases h)
      simp only [frR, Rw.updV, Nat.reduceEqDiff, ↓reduceIte, h1, reduceCtorEq] at hk
      exact hk
    · simp only [List.getElem?_cons_zero, List.getElem?_cons_succ, Option.some.injEq] at hop
      subst hop
      unfold frR
      go_simp
      exact HK.out 3 (.map (some b)) _ (by omega) rfl (Below.refl _ _) rfl (fun h => by cases h) (fun h => by cases h)
    · simp only [List.getElem?_cons_zero, List.getElem?_cons_succ, Option.some.injEq] at hop
      subst hop
      have h3 : v 3 = .map (some b) := Hd.out.phi 3 (by omega) (Hdep.out 3 (by kernel_rfl))
      unfold frR
      rw [h3]
      go_simp
      refine (keysU_any _ _).mono ?_
      rintro y w1 ⟨rfl, rfl⟩
      have hk := HK.out 4 (.func (.func 79) #[] #[.pointer (some ⟨w'.heap.size, 0, none⟩)]) _ (by omega) rfl ((Below.refl _ w').alloc (Nat.le_refl _) (.cells #[.map (some b)] 58)) trivial (fun h => by cases h)
        (fun _ => ⟨w'.heap.size, rfl, by simp, by have := (Row.fresh w' 58 #[Value.map (some b)]).cell 0; simp⟩)
      simp only [frR, Rw.updV, Nat.reduceEqDiff, ↓reduceIte, h3, reduceCtorEq] at hk
      exact hk
    · simp only [List.getElem?_cons_zero, List.getElem?_cons_succ, Option.some.injEq] at hop
      subst hop
      have ho := Hd.out.own Hnl.out
      have h2 := ho.1 (Hdep.out 2 (by kernel_rfl))
      obtain ⟨Bm, e4, h4, h5⟩ := ho.2 (Hdep.out 4 (by kernel_rfl))
      have HC := hide (HA.out w' Bm (v 2) Hd.out.low h4 h5 h2)
      have h6 : listed.getD 6 false = false := by
        cases h : listed.getD 6 false with
        | false => rfl
        | true => have := Hd.out.wait h; rw [Hnl.out] at this; cases this
      clear ho h2 h4 h5
      unfold frR
      rw [e4]
      go_simp
      refine HC.out.mono ?_
      rintro y w1 ⟨v9, rfl, H1, H2⟩
      have hk := HhK.out _ _ ⟨_, rfl, Hd.out.call Hsz.out h6 H2.out H1.out⟩
      simp only [frR, Rw.updV, Nat.reduceEqDiff, ↓reduceIte, e4, reduceCtorEq] at hk
      exact hk
    · simp only [List.getElem?_cons_zero, List.getElem?_cons_succ, Option.some.injEq] at hop
      subst hop
      have hk := HhK.out _ _ ⟨_, rfl, Hd.out.last (Hdep.out 5 (by kernel_rfl))⟩
      simp only [frR, Rw.updV, Nat.reduceEqDiff, ↓reduceIte, reduceCtorEq] at hk
      unfold frR
      generalize v 5 = u5 at *
      go_simp
      exact hk
end Go.Proofs.Ytplmcpdlommmaaa.Dq
