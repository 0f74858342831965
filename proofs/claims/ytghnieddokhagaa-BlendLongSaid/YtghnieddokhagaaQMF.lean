/-
  What tells a clash's lines, with marks: the third closure of merge.tellers.
-/
import Derived.Test.YtghnieddokhagaaQLC
import Derived.Test.YtghnieddokhagaaQJO
import Derived.Test.YtghnieddokhagaaQReg
import Derived.MapKept
import Derived.RangeFuncRecord
import Derived.Carry
import Derived.BigQuiet
import Derived.Test.YtghnieddokhagaaQJH
import Derived.Test.YtghnieddokhagaaQLA
import Derived.Test.YtghnieddokhagaaQTA
namespace Go.Proofs.Ytghnieddokhagaa.Al
open Go Go.RowKit Kt Lw Li Df

/-- what a clash's lines are told of -/
structure Cx where
  o : Ls
  a : Ls
  b : Ls
  Ao : Option Addr
  Aa : Option Addr
  Ab : Option Addr
  no : Nat
  na : Nat
  nb : Nat
  co : Nat
  ca : Nat
  cb : Nat
  x0 : Nat
  m0 : Nat
  x1 : Nat
  m1 : Nat
  x2 : Nat
  m2 : Nat
  q : Nat
  B : Nat
def Cx.parts (X : Cx) : List Ls := [[mk7 60], (cut X.a X.x1 X.m1).map shut, [mk7 124], (cut X.o X.x0 X.m0).map shut, [mk7 61], (cut X.b X.x2 X.m2).map shut, [mk7 62]]
theorem Cx.flat (X : Cx) : X.parts.flatten = mgX (cut X.o X.x0 X.m0) (cut X.a X.x1 X.m1) (cut X.b X.x2 X.m2) := by
  simp [Cx.parts, mgX]
/-- what holds of an operation's value once it is done -/
def Phi (X : Cx) : Nat → Value → World → Prop
  | 0, v, w => IsT w v [mk7 60]
  | 1, v, _ => v = .slice X.Aa X.na X.ca
  | 2, v, _ => v = .pointer (some ⟨X.q, 3, none⟩)
  | 3, v, _ => v = .agg #[.int .i64 X.x1, .int .i64 X.m1]
  | 4, v, w => IsT w v (cut X.a X.x1 X.m1)
  | 5, v, w => IsT w v ((cut X.a X.x1 X.m1).map shut)
  | 6, v, w => IsT w v [mk7 124]
  | 7, v, _ => v = .slice X.Ao X.no X.co
  | 8, v, _ => v = .pointer (some ⟨X.q, 1, none⟩)
  | 9, v, _ => v = .agg #[.int .i64 X.x0, .int .i64 X.m0]
  | 10, v, w => IsT w v (cut X.o X.x0 X.m0)
  | 11, v, w => IsT w v ((cut X.o X.x0 X.m0).map shut)
  | 12, v, w => IsT w v [mk7 61]
  | 13, v, _ => v = .slice X.Ab X.nb X.cb
  | 14, v, _ => v = .pointer (some ⟨X.q, 5, none⟩)
  | 15, v, _ => v = .agg #[.int .i64 X.x2, .int .i64 X.m2]
  | 16, v, w => IsT w v (cut X.b X.x2 X.m2)
  | 17, v, w => IsT w v ((cut X.b X.x2 X.m2).map shut)
  | 18, v, w => IsT w v [mk7 62]
  | 19, v, w => ∃ g vs, v = .slice (some ⟨g, 0, none⟩) 7 7 ∧ Row w g 25 vs ∧ vs.length = 7 ∧ ∀ k, k < 7 → IsT w (vs.getD k (.bool false)) (X.parts.getD k [])
  | 20, v, w => ∃ n c, v = .slice n X.parts.flatten.length c ∧ OwT w X.B 9 v X.parts.flatten
  | _, _, _ => True
theorem Phi.keep {X : Cx} {k : Nat} {v : Value} {w w' : World} (h : Phi X k v w) (hb : Below w.heap.size w w') : Phi X k v w' := by
  unfold Phi at h ⊢
  split at h <;> first | exact h | exact h.below hb | skip
  · obtain ⟨g, vs, e, hr, hl, hi⟩ := h
    exact ⟨g, vs, e, hr.below hb hr.lt, hl, fun k hk => (hi k hk).below hb⟩
  · obtain ⟨n, c, e, ho⟩ := h
    exact ⟨n, c, e, ho.kept hb⟩
def upd (v : Nat → Value) (k : Nat) (x : Value) : Nat → Value := fun j => if j = k then x else v j
theorem upd_same (v : Nat → Value) (k : Nat) (x : Value) : upd v k x k = x := if_pos rfl
theorem upd_other (v : Nat → Value) (k : Nat) (x : Value) (j : Nat) (h : j ≠ k) : upd v k x j = v j := if_neg h
def fr3 (r p1 p2 p3 p4 x5 : Value) (v : Nat → Value) : Act := { tmps := List.toArray (r :: p1 :: p2 :: p3 :: p4 :: x5 :: v 6 :: v 7 :: v 8 :: v 9 :: v 10 :: v 11 :: v 12 :: v 13 :: v 14 :: v 15 :: v 16 :: v 17 :: v 18 :: v 19 :: v 20 :: v 21 :: v 22 :: v 23 :: v 24 :: v 25 :: v 26 :: []), defers := [] }
/-- what holds of all that is done so far -/
structure Dn3 (X : Cx) (w1 : World) (listed : Array Bool) (v : Nat → Value) (x5 : Value) (w : World) : Prop where
  low : Below w1.heap.size w1 w
  phi : ∀ k, k < 21 → listed.getD k false = true → Phi X k (v (k + 6)) w
  fin : listed.getD 21 false = true → ∃ n c, x5 = .slice n X.parts.flatten.length c ∧ OwT w X.B 9 x5 X.parts.flatten
theorem Dn3.step {X : Cx} {w1 : World} {listed : Array Bool} {v : Nat → Value} {x5 : Value} {w : World} (h : Dn3 X w1 listed v x5 w) (k : Nat) (hk : k < 21) {nv : Value} {w' : World} (hb : Below w.heap.size w w') (hn : Phi X k nv w') :
    Dn3 X w1 (listed.setIfInBounds k true) (upd v (k + 6) nv) x5 w' := by
  refine ⟨h.low.trans (hb.mono h.low.size), fun j hj hl => ?_, fun hl => ?_⟩
  · by_cases e : j = k
    · subst e; rw [upd_same]; exact hn
    · rw [upd_other _ _ _ _ (by omega)]
      rw [getD_set_ne false (fun h => e h.symm)] at hl
      exact (h.phi j hj hl).keep hb
  · rw [getD_set_ne false (by omega)] at hl
    obtain ⟨n, c, e, ho⟩ := h.fin hl
    exact ⟨n, c, e, ho.kept hb⟩
theorem Dn3.last {X : Cx} {w1 : World} {listed : Array Bool} {v : Nat → Value} {x5 : Value} {w : World} (h : Dn3 X w1 listed v x5 w) {nv : Value} (hn : ∃ n c, nv = .slice n X.parts.flatten.length c ∧ OwT w X.B 9 nv X.parts.flatten) :
    Dn3 X w1 (listed.setIfInBounds 21 true) v nv w :=
  ⟨h.low, fun j hj hl => h.phi j hj (by rw [getD_set_ne false (by omega)] at hl; exact hl), fun _ => hn⟩
theorem IsT.of {w : World} {P : Nat → Prop} {A : Option Addr} {c n : Nat} {l : Ls} (h : Vs w P A c (texts l)) (hn : l.length = n) : IsT w (.slice A n c) l :=
  ⟨A, c, by rw [hn], h.1, fun hp => by
    obtain ⟨b, o, e, _, hc⟩ := h.2 hp
    exact ⟨b, o, e, trivial, hc⟩⟩
theorem OwT.based {w : World} {B B' : Nat} {E : TypeId} {v : Value} {l : Ls} (h : OwT w B E v l) (hb : B' ≤ B) : OwT w B' E v l :=
  ⟨h.1, h.2.imp id fun ⟨g, cap, cur, hv, h1, h2⟩ => ⟨g, cap, cur, hv, Nat.le_trans hb h1, h2⟩⟩
theorem rep_false (n k : Nat) : (Array.replicate n false).getD k false = false := by
  unfold Array.getD
  split
  · simp
  · rfl
set_option maxRecDepth 100000 in
set_option maxHeartbeats 8000000 in
theorem tell3_any (k0 : Int) (x0 m0 x1 m1 x2 m2 go ga gb : Nat) {Ao Aa Ab : Option Addr} {co ca cb : Nat} {o a b : Ls} (w : World) (ht : Trio w Ao Aa Ab co ca cb o a b) (fo : Fit o) (fa : Fit a) (fb : Fit b)
    (ho : w.cell? ⟨go, 0, none⟩ = some (.slice Ao o.length co)) (ha : w.cell? ⟨ga, 0, none⟩ = some (.slice Aa a.length ca)) (hb : w.cell? ⟨gb, 0, none⟩ = some (.slice Ab b.length cb)) (h0 : x0 + m0 ≤ o.length) (h1 : x1 + m1 ≤ a.length) (h2 : x2 + m2 ≤ b.length) :
    Calls Try.prog 53 #[.agg #[.int .i64 k0, .int .i64 x0, .int .i64 m0, .int .i64 x1, .int .i64 m1, .int .i64 x2, .int .i64 m2], .pointer (some ⟨ga, 0, none⟩), .pointer (some ⟨go, 0, none⟩), .pointer (some ⟨gb, 0, none⟩)] w fun y w' =>
      ∃ v, y = .returned v ∧ OwT w' w.heap.size 9 v (mgX (cut o x0 m0) (cut a x1 m1) (cut b x2 m2)) ∧ Below w.heap.size w w' := by
  obtain ⟨q, hq⟩ : ∃ q, q = w.heap.size := ⟨_, rfl⟩
  obtain ⟨w1, hw1⟩ : ∃ w1, w1 = w.alloc (.cells #[.int .i64 k0, .int .i64 x0, .int .i64 m0, .int .i64 x1, .int .i64 m1, .int .i64 x2, .int .i64 m2] tR) := ⟨_, rfl⟩
  have hb1 : Below w.heap.size w w1 := by rw [hw1]; exact (Below.refl _ w).alloc (Nat.le_refl _) _
  have hlt1 : w1.heap.size = q + 1 := by rw [hw1, hq]; simp
  have hrow := Row.fresh w tR #[.int .i64 k0, .int .i64 x0, .int .i64 m0, .int .i64 x1, .int .i64 m1, .int .i64 x2, .int .i64 m2]
  rw [← hw1, ← hq] at hrow
  obtain ⟨X, hX⟩ : ∃ X : Cx, X = ⟨o, a, b, Ao, Aa, Ab, o.length, a.length, b.length, co, ca, cb, x0, m0, x1, m1, x2, m2, q, q⟩ := ⟨_, rfl⟩
  have HO := hide (fun (wz : World) (hz : Below w1.heap.size w1 wz) => mcut_any o x0 m0 Ao co _ wz (Lw.Vs.below ht.o_ (hb1.trans (hz.mono hb1.size))) h0 (by have := ht.lo_; omega))
  have HA := hide (fun (wz : World) (hz : Below w1.heap.size w1 wz) => mcut_any a x1 m1 Aa ca _ wz (Lw.Vs.below ht.a_ (hb1.trans (hz.mono hb1.size))) h1 (by have := ht.la_; omega))
  have HB := hide (fun (wz : World) (hz : Below w1.heap.size w1 wz) => mcut_any b x2 m2 Ab cb _ wz (Lw.Vs.below ht.b_ (hb1.trans (hz.mono hb1.size))) h2 (by have := ht.lb_; omega))
  have lO : (cut o x0 m0).length = m0 := cut_len rfl rfl h0
  have lA : (cut a x1 m1).length = m1 := cut_len rfl rfl h1
  have lB : (cut b x2 m2).length = m2 := cut_len rfl rfl h2
  have hlo := ht.lo_
  have hla := ht.la_
  have hlb := ht.lb_
  have HCO := hide (fun (wz : World) A c (hs : Vs wz (fun _ => True) A c (texts (cut o x0 m0))) => mclosed_any _ A c _ wz hs (by omega) (fo.cut x0 m0))
  have HCA := hide (fun (wz : World) A c (hs : Vs wz (fun _ => True) A c (texts (cut a x1 m1))) => mclosed_any _ A c _ wz hs (by omega) (fa.cut x1 m1))
  have HCB := hide (fun (wz : World) A c (hs : Vs wz (fun _ => True) A c (texts (cut b x2 m2))) => mclosed_any _ A c _ wz hs (by omega) (fb.cut x2 m2))
  have hfl : X.parts.flatten.length ≤ 10000000000 := by
    rw [X.flat, hX]
    unfold mgX
    simp only [List.length_append, List.length_map, List.length_cons, List.length_nil, lO, lA, lB]
    omega
  have Hfl := hide hfl
  have HQ := hide (show ∀ wz, Below w1.heap.size w1 wz → wz.cell? ⟨go, 0, none⟩ = some (.slice Ao o.length co) ∧ wz.cell? ⟨ga, 0, none⟩ = some (.slice Aa a.length ca) ∧ wz.cell? ⟨gb, 0, none⟩ = some (.slice Ab b.length cb) ∧
      wz.cell? ⟨q, 1, none⟩ = some (.int .i64 x0) ∧ wz.cell? ⟨q, 2, none⟩ = some (.int .i64 m0) ∧ wz.cell? ⟨q, 3, none⟩ = some (.int .i64 x1) ∧ wz.cell? ⟨q, 4, none⟩ = some (.int .i64 m1) ∧ wz.cell? ⟨q, 5, none⟩ = some (.int .i64 x2) ∧ wz.cell? ⟨q, 6, none⟩ = some (.int .i64 m2) from fun wz hz => by
    have hbz := hb1.trans (hz.mono hb1.size)
    have hr := hrow.below hz hrow.lt
    exact ⟨agree ho hbz, agree ha hbz, agree hb hbz, hr.cell 1, hr.cell 2, hr.cell 3, hr.cell 4, hr.cell 5, hr.cell 6⟩)
  have HF := hide (show ∀ v wz, OwT wz X.B 9 v X.parts.flatten → Below w1.heap.size w1 wz → OwT wz w.heap.size 9 v (mgX (cut o x0 m0) (cut a x1 m1) (cut b x2 m2)) ∧ Below w.heap.size w wz from fun v wz h1 h2 => by
    refine ⟨?_, hb1.trans (h2.mono hb1.size)⟩
    rw [X.flat, hX] at h1
    rw [← hq]
    exact h1)
  have hXB : X.B = q := by rw [hX]
  have HXB := hide (show X.B ≤ w1.heap.size by rw [hXB, hlt1]; omega)
  have HXP := hide (show X.parts = [[mk7 60], (cut a x1 m1).map shut, [mk7 124], (cut o x0 m0).map shut, [mk7 61], (cut b x2 m2).map shut, [mk7 62]] by rw [hX]; rfl)
  obtain ⟨no, hno⟩ : ∃ z, z = o.length := ⟨_, rfl⟩
  obtain ⟨na, hna⟩ : ∃ z, z = a.length := ⟨_, rfl⟩
  obtain ⟨nb, hnb⟩ : ∃ z, z = b.length := ⟨_, rfl⟩
  rw [← hno] at HO HQ
  rw [← hna] at HA HQ
  rw [← hnb] at HB HQ
  rw [← hno, ← hna, ← hnb] at hX
  have P1 : ∀ v w, Phi X 1 v w = (v = .slice Aa na ca) := fun v w => by rw [hX]; rfl
  have P2 : ∀ v w, Phi X 2 v w = (v = .pointer (some ⟨q, 3, none⟩)) := fun v w => by rw [hX]; rfl
  have P3 : ∀ v w, Phi X 3 v w = (v = .agg #[.int .i64 x1, .int .i64 m1]) := fun v w => by rw [hX]; rfl
  have P4 : ∀ v w, Phi X 4 v w = IsT w v (cut a x1 m1) := fun v w => by rw [hX]; rfl
  have P5 : ∀ v w, Phi X 5 v w = IsT w v ((cut a x1 m1).map shut) := fun v w => by rw [hX]; rfl
  have P7 : ∀ v w, Phi X 7 v w = (v = .slice Ao no co) := fun v w => by rw [hX]; rfl
  have P8 : ∀ v w, Phi X 8 v w = (v = .pointer (some ⟨q, 1, none⟩)) := fun v w => by rw [hX]; rfl
  have P9 : ∀ v w, Phi X 9 v w = (v = .agg #[.int .i64 x0, .int .i64 m0]) := fun v w => by rw [hX]; rfl
  have P10 : ∀ v w, Phi X 10 v w = IsT w v (cut o x0 m0) := fun v w => by rw [hX]; rfl
  have P11 : ∀ v w, Phi X 11 v w = IsT w v ((cut o x0 m0).map shut) := fun v w => by rw [hX]; rfl
  have P13 : ∀ v w, Phi X 13 v w = (v = .slice Ab nb cb) := fun v w => by rw [hX]; rfl
  have P14 : ∀ v w, Phi X 14 v w = (v = .pointer (some ⟨q, 5, none⟩)) := fun v w => by rw [hX]; rfl
  have P15 : ∀ v w, Phi X 15 v w = (v = .agg #[.int .i64 x2, .int .i64 m2]) := fun v w => by rw [hX]; rfl
  have P16 : ∀ v w, Phi X 16 v w = IsT w v (cut b x2 m2) := fun v w => by rw [hX]; rfl
  have P17 : ∀ v w, Phi X 17 v w = IsT w v ((cut b x2 m2).map shut) := fun v w => by rw [hX]; rfl
  have HP := hide (show _ ∧ _ ∧ _ ∧ _ ∧ _ ∧ _ ∧ _ ∧ _ ∧ _ ∧ _ ∧ _ ∧ _ ∧ _ ∧ _ ∧ _ from ⟨P1, P2, P3, P4, P5, P7, P8, P9, P10, P11, P13, P14, P15, P16, P17⟩)
  have HL := hide (show _ ∧ _ ∧ _ from ⟨lO, lA, lB⟩)
  have Hw1 := hide hw1
  have Hq := hide hq
  have Hqq := hide (show w1.heap.size = q + 1 from hlt1)
  clear ht fo fa fb ho ha hb h0 h1 h2 hb1 hrow hX lO lA lB hlo hla hlb hfl hno hna hnb hXB P1 P2 P3 P4 P5 P7 P8 P9 P10 P11 P13 P14 P15 P16 P17 hw1 hq hlt1
  go_enter Try.func53, Try.ntmps53
  go_wp2_with (rw [← Hw1.out, ← Hq.out])
  refine Rv.wp_region_inv (fun listed a' w' => ∃ v x5, a' = fr3 (.agg #[.int .i64 k0, .int .i64 x0, .int .i64 m0, .int .i64 x1, .int .i64 m1, .int .i64 x2, .int .i64 m2]) (.pointer (some ⟨ga, 0, none⟩)) (.pointer (some ⟨go, 0, none⟩)) (.pointer (some ⟨gb, 0, none⟩)) (.pointer (some ⟨q, 0, none⟩)) x5 v ∧ Dn3 X w1 listed v x5 w') (by kernel_rfl) (by kernel_rfl) ?start ?step ?fin
  case start =>
    refine ⟨fun _ => undef, _, rfl, ⟨(Below.refl _ w1).drew, fun k hk hl => ?_, fun hl => ?_⟩⟩
    · rw [rep_false] at hl; cases hl
    · rw [rep_false] at hl; cases hl
  case fin =>
    rintro listed a' w' ⟨v, x5, rfl, hd⟩ hl
    obtain ⟨n, c, rfl, hown⟩ := hd.fin (hl 21 (by simp))
    have Hown := hide hown
    have Hd := hide hd
    clear hown hd hl
    unfold fr3
    go_wp2
    go_ret
    exact ⟨_, rfl, HF.out _ _ Hown.out Hd.out.low⟩
  case step =>
    rintro listed a' w' i op ⟨v, x5, rfl, hd⟩ hop hsz hdep K hK
    have hi : i < 22 := by have := (List.getElem?_eq_some_iff.1 hop).1; simpa using this
    have HK := hide (show ∀ k nv wz, k < 21 → i = k → Below w'.heap.size w' wz → Phi X k nv wz → K (fr3 (.agg #[.int .i64 k0, .int .i64 x0, .int .i64 m0, .int .i64 x1, .int .i64 m1, .int .i64 x2, .int .i64 m2]) (.pointer (some ⟨ga, 0, none⟩)) (.pointer (some ⟨go, 0, none⟩)) (.pointer (some ⟨gb, 0, none⟩)) (.pointer (some ⟨q, 0, none⟩)) x5 (upd v (k + 6) nv)) wz from
      fun k nv wz hk hik hbz hph => hK _ _ ⟨_, _, rfl, by rw [hik]; exact hd.step k hk hbz hph⟩)
    obtain ⟨c0, c1, c2, q1, q2, q3, q4, q5, q6⟩ := HQ.out w' hd.low
    obtain ⟨P1, P2, P3, P4, P5, P7, P8, P9, P10, P11, P13, P14, P15, P16, P17⟩ := HP.out
    have HP1 := hide P1; have HP2 := hide P2; have HP3 := hide P3; have HP4 := hide P4; have HP5 := hide P5; have HP7 := hide P7; have HP8 := hide P8; have HP9 := hide P9; have HP10 := hide P10; have HP11 := hide P11; have HP13 := hide P13; have HP14 := hide P14; have HP15 := hide P15; have HP16 := hide P16; have HP17 := hide P17
    clear P1 P2 P3 P4 P5 P7 P8 P9 P10 P11 P13 P14 P15 P16 P17
    have Hd := hide hd
    have Hdep := hide hdep
    have HhK := hide hK
    clear hd hdep hK
    have hcase : i = 0 ∨ i = 1 ∨ i = 2 ∨ i = 3 ∨ i = 4 ∨ i = 5 ∨ i = 6 ∨ i = 7 ∨ i = 8 ∨ i = 9 ∨ i = 10 ∨ i = 11 ∨ i = 12 ∨ i = 13 ∨ i = 14 ∨ i = 15 ∨ i = 16 ∨ i = 17 ∨ i = 18 ∨ i = 19 ∨ i = 20 ∨ i = 21 := by omega
    rcases hcase with rfl | rfl | rfl | rfl | rfl | rfl | rfl | rfl | rfl | rfl | rfl | rfl | rfl | rfl | rfl | rfl | rfl | rfl | rfl | rfl | rfl | rfl
    · simp only [List.getElem?_cons_zero, Option.some.injEq] at hop
      subst hop
      unfold fr3
      go_simp
      exact HK.out 0 (.slice (some ⟨w'.heap.size, 0, none⟩) 1 1) _ (by omega) rfl ((Below.refl _ _).alloc (Nat.le_refl _) _) (show IsT _ _ [mk7 60] from ⟨_, _, rfl, Vs.one w' _ (mk7 60)⟩)
    · simp only [List.getElem?_cons_zero, List.getElem?_cons_succ, Option.some.injEq] at hop
      subst hop
      unfold fr3
      go_simp
      exact HK.out 1 (.slice Aa na ca) _ (by omega) rfl (Below.refl _ _) (by rw [HP1.out])
    · simp only [List.getElem?_cons_zero, List.getElem?_cons_succ, Option.some.injEq] at hop
      subst hop
      unfold fr3
      go_simp
      exact HK.out 2 (.pointer (some ⟨q, 3, none⟩)) _ (by omega) rfl (Below.refl _ _) (by rw [HP2.out])
    · simp only [List.getElem?_cons_zero, List.getElem?_cons_succ, Option.some.injEq] at hop
      subst hop
      have h2 := Hd.out.phi 2 (by omega) (Hdep.out 2 (by kernel_rfl))
      rw [HP2.out] at h2
      simp only [Nat.reduceAdd] at h2
      unfold fr3
      go_simp
      have hk := HK.out 3 (.agg #[.int .i64 x1, .int .i64 m1]) _ (by omega) rfl (Below.refl _ _) (by rw [HP3.out])
      simp only [fr3, upd, Nat.reduceAdd, Nat.reduceEqDiff, ↓reduceIte, h2] at hk
      exact hk
    · simp only [List.getElem?_cons_zero, List.getElem?_cons_succ, Option.some.injEq] at hop
      subst hop
      have h1 := Hd.out.phi 1 (by omega) (Hdep.out 1 (by kernel_rfl))
      have h3 := Hd.out.phi 3 (by omega) (Hdep.out 3 (by kernel_rfl))
      rw [HP1.out] at h1
      rw [HP3.out] at h3
      simp only [Nat.reduceAdd] at h1 h3
      unfold fr3
      go_simp
      refine (HA.out w' Hd.out.low).mono ?_
      rintro y w2 ⟨A2, c2, rfl, hv2, hb2⟩
      have hk := HK.out 4 (.slice A2 m1 c2) _ (by omega) rfl hb2 (by rw [HP4.out]; exact IsT.of hv2 HL.out.2.1)
      simp only [fr3, upd, Nat.reduceAdd, Nat.reduceEqDiff, ↓reduceIte, h1, h3] at hk
      exact hk
    · simp only [List.getElem?_cons_zero, List.getElem?_cons_succ, Option.some.injEq] at hop
      subst hop
      have h4 := Hd.out.phi 4 (by omega) (Hdep.out 4 (by kernel_rfl))
      rw [HP4.out] at h4
      simp only [Nat.reduceAdd] at h4
      obtain ⟨A4, c4, e4, hs4⟩ := h4
      have hc4 := HCA.out w' A4 c4 hs4
      generalize hgl : List.length _ = n4 at e4 hc4
      clear hgl
      unfold fr3
      go_simp
      refine hc4.mono ?_
      rintro y w2 ⟨v2, rfl, hown2, hb2⟩
      have hk := HK.out 5 (v2) _ (by omega) rfl hb2 (by rw [HP5.out]; exact IsT.own hown2)
      simp only [fr3, upd, Nat.reduceAdd, Nat.reduceEqDiff, ↓reduceIte, e4] at hk
      exact hk
    · simp only [List.getElem?_cons_zero, List.getElem?_cons_succ, Option.some.injEq] at hop
      subst hop
      unfold fr3
      go_simp
      exact HK.out 6 (.slice (some ⟨w'.heap.size, 0, none⟩) 1 1) _ (by omega) rfl ((Below.refl _ _).alloc (Nat.le_refl _) _) (show IsT _ _ [mk7 124] from ⟨_, _, rfl, Vs.one w' _ (mk7 124)⟩)
    · simp only [List.getElem?_cons_zero, List.getElem?_cons_succ, Option.some.injEq] at hop
      subst hop
      unfold fr3
      go_simp
      exact HK.out 7 (.slice Ao no co) _ (by omega) rfl (Below.refl _ _) (by rw [HP7.out])
    · simp only [List.getElem?_cons_zero, List.getElem?_cons_succ, Option.some.injEq] at hop
      subst hop
      unfold fr3
      go_simp
      exact HK.out 8 (.pointer (some ⟨q, 1, none⟩)) _ (by omega) rfl (Below.refl _ _) (by rw [HP8.out])
    · simp only [List.getElem?_cons_zero, List.getElem?_cons_succ, Option.some.injEq] at hop
      subst hop
      have h8 := Hd.out.phi 8 (by omega) (Hdep.out 8 (by kernel_rfl))
      rw [HP8.out] at h8
      simp only [Nat.reduceAdd] at h8
      unfold fr3
      go_simp
      have hk := HK.out 9 (.agg #[.int .i64 x0, .int .i64 m0]) _ (by omega) rfl (Below.refl _ _) (by rw [HP9.out])
      simp only [fr3, upd, Nat.reduceAdd, Nat.reduceEqDiff, ↓reduceIte, h8] at hk
      exact hk
    · simp only [List.getElem?_cons_zero, List.getElem?_cons_succ, Option.some.injEq] at hop
      subst hop
      have h7 := Hd.out.phi 7 (by omega) (Hdep.out 7 (by kernel_rfl))
      have h9 := Hd.out.phi 9 (by omega) (Hdep.out 9 (by kernel_rfl))
      rw [HP7.out] at h7
      rw [HP9.out] at h9
      simp only [Nat.reduceAdd] at h7 h9
      unfold fr3
      go_simp
      refine (HO.out w' Hd.out.low).mono ?_
      rintro y w2 ⟨A2, c2, rfl, hv2, hb2⟩
      have hk := HK.out 10 (.slice A2 m0 c2) _ (by omega) rfl hb2 (by rw [HP10.out]; exact IsT.of hv2 HL.out.1)
      simp only [fr3, upd, Nat.reduceAdd, Nat.reduceEqDiff, ↓reduceIte, h7, h9] at hk
      exact hk
    · simp only [List.getElem?_cons_zero, List.getElem?_cons_succ, Option.some.injEq] at hop
      subst hop
      have h10 := Hd.out.phi 10 (by omega) (Hdep.out 10 (by kernel_rfl))
      rw [HP10.out] at h10
      simp only [Nat.reduceAdd] at h10
      obtain ⟨A4, c4, e4, hs4⟩ := h10
      have hc4 := HCO.out w' A4 c4 hs4
      generalize hgl : List.length _ = n4 at e4 hc4
      clear hgl
      unfold fr3
      go_simp
      refine hc4.mono ?_
      rintro y w2 ⟨v2, rfl, hown2, hb2⟩
      have hk := HK.out 11 (v2) _ (by omega) rfl hb2 (by rw [HP11.out]; exact IsT.own hown2)
      simp only [fr3, upd, Nat.reduceAdd, Nat.reduceEqDiff, ↓reduceIte, e4] at hk
      exact hk
    · simp only [List.getElem?_cons_zero, List.getElem?_cons_succ, Option.some.injEq] at hop
      subst hop
      unfold fr3
      go_simp
      exact HK.out 12 (.slice (some ⟨w'.heap.size, 0, none⟩) 1 1) _ (by omega) rfl ((Below.refl _ _).alloc (Nat.le_refl _) _) (show IsT _ _ [mk7 61] from ⟨_, _, rfl, Vs.one w' _ (mk7 61)⟩)
    · simp only [List.getElem?_cons_zero, List.getElem?_cons_succ, Option.some.injEq] at hop
      subst hop
      unfold fr3
      go_simp
      exact HK.out 13 (.slice Ab nb cb) _ (by omega) rfl (Below.refl _ _) (by rw [HP13.out])
    · simp only [List.getElem?_cons_zero, List.getElem?_cons_succ, Option.some.injEq] at hop
      subst hop
      unfold fr3
      go_simp
      exact HK.out 14 (.pointer (some ⟨q, 5, none⟩)) _ (by omega) rfl (Below.refl _ _) (by rw [HP14.out])
    · simp only [List.getElem?_cons_zero, List.getElem?_cons_succ, Option.some.injEq] at hop
      subst hop
      have h14 := Hd.out.phi 14 (by omega) (Hdep.out 14 (by kernel_rfl))
      rw [HP14.out] at h14
      simp only [Nat.reduceAdd] at h14
      unfold fr3
      go_simp
      have hk := HK.out 15 (.agg #[.int .i64 x2, .int .i64 m2]) _ (by omega) rfl (Below.refl _ _) (by rw [HP15.out])
      simp only [fr3, upd, Nat.reduceAdd, Nat.reduceEqDiff, ↓reduceIte, h14] at hk
      exact hk
    · simp only [List.getElem?_cons_zero, List.getElem?_cons_succ, Option.some.injEq] at hop
      subst hop
      have h13 := Hd.out.phi 13 (by omega) (Hdep.out 13 (by kernel_rfl))
      have h15 := Hd.out.phi 15 (by omega) (Hdep.out 15 (by kernel_rfl))
      rw [HP13.out] at h13
      rw [HP15.out] at h15
      simp only [Nat.reduceAdd] at h13 h15
      unfold fr3
      go_simp
      refine (HB.out w' Hd.out.low).mono ?_
      rintro y w2 ⟨A2, c2, rfl, hv2, hb2⟩
      have hk := HK.out 16 (.slice A2 m2 c2) _ (by omega) rfl hb2 (by rw [HP16.out]; exact IsT.of hv2 HL.out.2.2)
      simp only [fr3, upd, Nat.reduceAdd, Nat.reduceEqDiff, ↓reduceIte, h13, h15] at hk
      exact hk
    · simp only [List.getElem?_cons_zero, List.getElem?_cons_succ, Option.some.injEq] at hop
      subst hop
      have h16 := Hd.out.phi 16 (by omega) (Hdep.out 16 (by kernel_rfl))
      rw [HP16.out] at h16
      simp only [Nat.reduceAdd] at h16
      obtain ⟨A4, c4, e4, hs4⟩ := h16
      have hc4 := HCB.out w' A4 c4 hs4
      generalize hgl : List.length _ = n4 at e4 hc4
      clear hgl
      unfold fr3
      go_simp
      refine hc4.mono ?_
      rintro y w2 ⟨v2, rfl, hown2, hb2⟩
      have hk := HK.out 17 (v2) _ (by omega) rfl hb2 (by rw [HP17.out]; exact IsT.own hown2)
      simp only [fr3, upd, Nat.reduceAdd, Nat.reduceEqDiff, ↓reduceIte, e4] at hk
      exact hk
    · simp only [List.getElem?_cons_zero, List.getElem?_cons_succ, Option.some.injEq] at hop
      subst hop
      unfold fr3
      go_simp
      exact HK.out 18 (.slice (some ⟨w'.heap.size, 0, none⟩) 1 1) _ (by omega) rfl ((Below.refl _ _).alloc (Nat.le_refl _) _) (show IsT _ _ [mk7 62] from ⟨_, _, rfl, Vs.one w' _ (mk7 62)⟩)
    · simp only [List.getElem?_cons_zero, List.getElem?_cons_succ, Option.some.injEq] at hop
      subst hop
      have h0 := Hd.out.phi 0 (by omega) (Hdep.out 0 (by kernel_rfl))
      have h5 := Hd.out.phi 5 (by omega) (Hdep.out 5 (by kernel_rfl))
      have h6 := Hd.out.phi 6 (by omega) (Hdep.out 6 (by kernel_rfl))
      have h11 := Hd.out.phi 11 (by omega) (Hdep.out 11 (by kernel_rfl))
      have h12 := Hd.out.phi 12 (by omega) (Hdep.out 12 (by kernel_rfl))
      have h17 := Hd.out.phi 17 (by omega) (Hdep.out 17 (by kernel_rfl))
      have h18 := Hd.out.phi 18 (by omega) (Hdep.out 18 (by kernel_rfl))
      rw [HP5.out] at h5
      rw [HP11.out] at h11
      rw [HP17.out] at h17
      replace h0 : IsT w' _ [mk7 60] := h0
      replace h6 : IsT w' _ [mk7 124] := h6
      replace h12 : IsT w' _ [mk7 61] := h12
      replace h18 : IsT w' _ [mk7 62] := h18
      simp only [Nat.reduceAdd] at h0 h5 h6 h11 h12 h17 h18
      have I0 := hide h0
      obtain ⟨A0, c0, e0, _⟩ := h0
      generalize List.length _ = n0 at e0
      have I5 := hide h5
      obtain ⟨A5, c5, e5, _⟩ := h5
      generalize List.length _ = n5 at e5
      have I6 := hide h6
      obtain ⟨A6, c6, e6, _⟩ := h6
      generalize List.length _ = n6 at e6
      have I11 := hide h11
      obtain ⟨A11, c11, e11, _⟩ := h11
      generalize List.length _ = n11 at e11
      have I12 := hide h12
      obtain ⟨A12, c12, e12, _⟩ := h12
      generalize List.length _ = n12 at e12
      have I17 := hide h17
      obtain ⟨A17, c17, e17, _⟩ := h17
      generalize List.length _ = n17 at e17
      have I18 := hide h18
      obtain ⟨A18, c18, e18, _⟩ := h18
      generalize List.length _ = n18 at e18
      unfold fr3
      go_simp
      have hbz : Below w'.heap.size w' (w'.alloc (.cells #[.slice A0 n0 c0, .slice A5 n5 c5, .slice A6 n6 c6, .slice A11 n11 c11, .slice A12 n12 c12, .slice A17 n17 c17, .slice A18 n18 c18] 25)) := (Below.refl _ w').alloc (Nat.le_refl _) _
      have HI : ∀ k, k < 7 → IsT (w'.alloc (.cells #[.slice A0 n0 c0, .slice A5 n5 c5, .slice A6 n6 c6, .slice A11 n11 c11, .slice A12 n12 c12, .slice A17 n17 c17, .slice A18 n18 c18] 25)) (List.getD [.slice A0 n0 c0, .slice A5 n5 c5, .slice A6 n6 c6, .slice A11 n11 c11, .slice A12 n12 c12, .slice A17 n17 c17, .slice A18 n18 c18] k (.bool false)) (X.parts.getD k []) := by
        intro k hk
        rw [HXP.out]
        have hk7 : k = 0 ∨ k = 1 ∨ k = 2 ∨ k = 3 ∨ k = 4 ∨ k = 5 ∨ k = 6 := by omega
        rcases hk7 with rfl | rfl | rfl | rfl | rfl | rfl | rfl
        · have := I0.out.below hbz; rw [e0] at this; exact this
        · have := I5.out.below hbz; rw [e5] at this; exact this
        · have := I6.out.below hbz; rw [e6] at this; exact this
        · have := I11.out.below hbz; rw [e11] at this; exact this
        · have := I12.out.below hbz; rw [e12] at this; exact this
        · have := I17.out.below hbz; rw [e17] at this; exact this
        · have := I18.out.below hbz; rw [e18] at this; exact this
      have hk := HK.out 19 (.slice (some ⟨w'.heap.size, 0, none⟩) 7 7) _ (by omega) rfl hbz ⟨w'.heap.size, [.slice A0 n0 c0, .slice A5 n5 c5, .slice A6 n6 c6, .slice A11 n11 c11, .slice A12 n12 c12, .slice A17 n17 c17, .slice A18 n18 c18], rfl, Row.fresh w' _ _, rfl, HI⟩
      simp only [fr3, upd, Nat.reduceAdd, Nat.reduceEqDiff, ↓reduceIte, e0, e5, e6, e11, e12, e17, e18] at hk
      exact hk
    · simp only [List.getElem?_cons_zero, List.getElem?_cons_succ, Option.some.injEq] at hop
      subst hop
      have h19 := Hd.out.phi 19 (by omega) (Hdep.out 19 (by kernel_rfl))
      obtain ⟨g, vs, e19, hr19, hl19, hi19⟩ := h19
      simp only [Nat.reduceAdd] at e19
      have hc20 := concatT_any X.parts vs g 7 w' (by rw [hl19, HXP.out]; rfl) hr19 (by omega) (by omega) (fun k hk => hi19 k (by rw [HXP.out] at hk; exact hk)) Hfl.out
      rw [hl19] at hc20
      have Hc20 := hide hc20
      clear hc20 hi19 hr19
      unfold fr3
      go_simp
      refine Hc20.out.mono ?_
      rintro y w2 ⟨v2, rfl, hown2, hb2⟩
      obtain ⟨A2, c2, e2, _⟩ := hown2.vs
      have hk := HK.out 20 (v2) _ (by omega) rfl hb2 ⟨A2, c2, e2, OwT.based hown2 (Nat.le_trans HXB.out Hd.out.low.size)⟩
      simp only [fr3, upd, Nat.reduceAdd, Nat.reduceEqDiff, ↓reduceIte, e19] at hk
      exact hk
    · simp only [List.getElem?_cons_zero, List.getElem?_cons_succ, Option.some.injEq] at hop
      subst hop
      have h20 := Hd.out.phi 20 (by omega) (Hdep.out 20 (by kernel_rfl))
      have H20 := hide h20
      obtain ⟨A2, c2, e2, _⟩ := h20
      simp only [Nat.reduceAdd] at e2
      obtain ⟨n2, hn2⟩ : ∃ n, n = X.parts.flatten.length := ⟨_, rfl⟩
      rw [← hn2] at e2
      have Hn2 := hide hn2
      clear hn2
      unfold fr3
      go_simp
      refine HhK.out _ _ ⟨v, .slice A2 n2 c2, ?_, Hd.out.last ?_⟩
      · unfold fr3; rw [e2]
      · have h := H20.out; simp only [Nat.reduceAdd, Phi] at h; rw [e2] at h; exact h
end Go.Proofs.Ytghnieddokhagaa.Al
namespace Go.Proofs.Ytghnieddokhagaa.Al
open Go Go.RowKit Kt Lw Li Df

abbrev tM : TypeId := 62
abbrev tLs : TypeId := 25
def te1 (ga : Nat) : Value := .func (.func 50) #[] #[.pointer (some ⟨ga, 0, none⟩)]
def te2 (gb : Nat) : Value := .func (.func 52) #[] #[.pointer (some ⟨gb, 0, none⟩)]
def te3 (go ga gb : Nat) : Value := .func (.func 53) #[] #[.pointer (some ⟨ga, 0, none⟩), .pointer (some ⟨go, 0, none⟩), .pointer (some ⟨gb, 0, none⟩)]
def teE (go ga gb : Nat) : Array MapEntry := #[⟨.int .i64 0, te1 ga, 0⟩, ⟨.int .i64 1, te1 ga, 1⟩, ⟨.int .i64 2, te2 gb, 2⟩, ⟨.int .i64 3, te1 ga, 3⟩, ⟨.int .i64 4, te3 go ga gb, 4⟩]
def teF (go ga gb : Nat) (k : Int) : Value := if k = 4 then te3 go ga gb else if k = 2 then te2 gb else te1 ga
theorem ins_any (w : World) (g n : Nat) (es : Array MapEntry) (k : Int) (x : Value) (hb : w.heap[g]? = some (.map es n)) (hf : Instr.findNow (.int .i64) (.int .i64 k) es.toList 0 = some none) :
    (Instr.mapUpdate tM (.map (some g)) (.int .i64 k) x).run Try.prog w = .ok () (w.putObj g (.map (es.push ⟨.int .i64 k, x, n⟩) (n + 1))) := by
  unfold Instr.mapUpdate
  simp only [Sem.run_bind, run_underlying Try.underlying62, Result.andThen_ok, MapKept.run_getObj_map hb]
  rw [MapKept.run_checkKey Try.underlying3 (show MapKept.IsKey (.int .i64) (.int .i64 k) from rfl)]
  simp only [Result.andThen_ok, MapKept.run_findKey Try.underlying3 hf]
  rw [MapKept.run_setObj_map _ hb]
  rfl
theorem look_any (w : World) (g go ga gb : Nat) (k : Int) (hb : w.heap[g]? = some (.map (teE go ga gb) 5)) (hk : k = 0 ∨ k = 1 ∨ k = 2 ∨ k = 3 ∨ k = 4) :
    (Instr.lookup tM (.map (some g)) (.int .i64 k) false).run Try.prog w = .ok (teF go ga gb k) w := by
  have hf : ∃ i, Instr.findNow (.int .i64) (.int .i64 k) (teE go ga gb).toList 0 = some (some (i, teF go ga gb k)) := by
    rcases hk with rfl | rfl | rfl | rfl | rfl
    · exact ⟨0, rfl⟩
    · exact ⟨1, rfl⟩
    · exact ⟨2, rfl⟩
    · exact ⟨3, rfl⟩
    · exact ⟨4, rfl⟩
  obtain ⟨i, hf⟩ := hf
  unfold Instr.lookup
  simp only [Sem.run_bind, run_underlying Try.underlying62, Result.andThen_ok, MapKept.run_getObj_map hb, Sem.run_pure]
  rw [MapKept.run_checkKey Try.underlying3 (show MapKept.IsKey (.int .i64) (.int .i64 k) from rfl)]
  simp only [Result.andThen_ok, MapKept.run_findKey Try.underlying3 hf]
  rfl
/-- what tells the lines is there -/
structure Tel (w : World) (B g go ga gb : Nat) (Ao Aa Ab : Option Addr) (no na nb co ca cb : Nat) : Prop where
  map : w.heap[g]? = some (.map (teE go ga gb) 5)
  out : B ≤ g
  o_ : w.cell? ⟨go, 0, none⟩ = some (.slice Ao no co)
  a_ : w.cell? ⟨ga, 0, none⟩ = some (.slice Aa na ca)
  b_ : w.cell? ⟨gb, 0, none⟩ = some (.slice Ab nb cb)
theorem Tel.keep {w w' : World} {B g go ga gb : Nat} {Ao Aa Ab : Option Addr} {no na nb co ca cb : Nat} (h : Tel w B g go ga gb Ao Aa Ab no na nb co ca cb) (hb : Below w.heap.size w w') : Tel w' B g go ga gb Ao Aa Ab no na nb co ca cb :=
  ⟨(hb.block g (Array.getElem?_eq_some_iff.1 h.map).1).trans h.map, h.out, agree h.o_ hb, agree h.a_ hb, agree h.b_ hb⟩
theorem below_putObj {B : Nat} {a w : World} (h : Below B a w) {g : Nat} (hp : B ≤ g) (o : Obj) : Below B a (w.putObj g o) :=
  ⟨h.os, h.tape, h.output, by rw [World.putObj_size]; exact h.size, fun k hk => (World.putObj_heap_other (by omega)).trans (h.block k hk)⟩
set_option maxRecDepth 100000 in
set_option maxHeartbeats 4000000 in
theorem tellers_any (Ao Aa Ab : Option Addr) (no na nb co ca cb : Nat) (w : World) :
    Calls Try.prog 39 #[.slice Ao no co, .slice Aa na ca, .slice Ab nb cb] w fun y w' => ∃ g go ga gb, y = .returned (.map (some g)) ∧ Tel w' w.heap.size g go ga gb Ao Aa Ab no na nb co ca cb ∧ Below w.heap.size w w' := by
  obtain ⟨go, hgo⟩ : ∃ q, q = w.heap.size := ⟨_, rfl⟩
  obtain ⟨w1, hw1⟩ : ∃ w1, w1 = w.alloc (.cells #[.slice Ao no co] tLs) := ⟨_, rfl⟩
  obtain ⟨ga, hga⟩ : ∃ q, q = w1.heap.size := ⟨_, rfl⟩
  obtain ⟨w2, hw2⟩ : ∃ w2, w2 = w1.alloc (.cells #[.slice Aa na ca] tLs) := ⟨_, rfl⟩
  obtain ⟨gb, hgb⟩ : ∃ q, q = w2.heap.size := ⟨_, rfl⟩
  obtain ⟨w3, hw3⟩ : ∃ w3, w3 = w2.alloc (.cells #[.slice Ab nb cb] tLs) := ⟨_, rfl⟩
  obtain ⟨g, hg⟩ : ∃ q, q = w3.heap.size := ⟨_, rfl⟩
  obtain ⟨w4, hw4⟩ : ∃ w4, w4 = w3.alloc (.map #[] 0) := ⟨_, rfl⟩
  have hmk : (Instr.makeMap tM none).run Try.prog w3 = .ok (.map (some g)) w4 := by rw [run_makeMap, hg, hw4]
  obtain ⟨w5, hw5⟩ : ∃ w5, w5 = w4.putObj g (.map #[⟨.int .i64 0, te1 ga, 0⟩] 1) := ⟨_, rfl⟩
  obtain ⟨w6, hw6⟩ : ∃ w6, w6 = w5.putObj g (.map #[⟨.int .i64 0, te1 ga, 0⟩, ⟨.int .i64 1, te1 ga, 1⟩] 2) := ⟨_, rfl⟩
  obtain ⟨w7, hw7⟩ : ∃ w7, w7 = w6.putObj g (.map #[⟨.int .i64 0, te1 ga, 0⟩, ⟨.int .i64 1, te1 ga, 1⟩, ⟨.int .i64 2, te2 gb, 2⟩] 3) := ⟨_, rfl⟩
  obtain ⟨w8, hw8⟩ : ∃ w8, w8 = w7.putObj g (.map #[⟨.int .i64 0, te1 ga, 0⟩, ⟨.int .i64 1, te1 ga, 1⟩, ⟨.int .i64 2, te2 gb, 2⟩, ⟨.int .i64 3, te1 ga, 3⟩] 4) := ⟨_, rfl⟩
  obtain ⟨w9, hw9⟩ : ∃ w9, w9 = w8.putObj g (.map (teE go ga gb) 5) := ⟨_, rfl⟩
  have s4 : w4.heap.size = g + 1 := by rw [hw4, hg]; simp
  have s5 : w5.heap.size = g + 1 := by rw [hw5, World.putObj_size, s4]
  have s6 : w6.heap.size = g + 1 := by rw [hw6, World.putObj_size, s5]
  have s7 : w7.heap.size = g + 1 := by rw [hw7, World.putObj_size, s6]
  have s8 : w8.heap.size = g + 1 := by rw [hw8, World.putObj_size, s7]
  have m4 : w4.heap[g]? = some (.map #[] 0) := by rw [hw4, hg]; exact World.alloc_heap_new _ _
  have m5 : w5.heap[g]? = some (.map #[⟨.int .i64 0, te1 ga, 0⟩] 1) := by rw [hw5]; exact World.putObj_heap_same (by omega)
  have m6 : w6.heap[g]? = some (.map #[⟨.int .i64 0, te1 ga, 0⟩, ⟨.int .i64 1, te1 ga, 1⟩] 2) := by rw [hw6]; exact World.putObj_heap_same (by omega)
  have m7 : w7.heap[g]? = some (.map #[⟨.int .i64 0, te1 ga, 0⟩, ⟨.int .i64 1, te1 ga, 1⟩, ⟨.int .i64 2, te2 gb, 2⟩] 3) := by rw [hw7]; exact World.putObj_heap_same (by omega)
  have m8 : w8.heap[g]? = some (.map #[⟨.int .i64 0, te1 ga, 0⟩, ⟨.int .i64 1, te1 ga, 1⟩, ⟨.int .i64 2, te2 gb, 2⟩, ⟨.int .i64 3, te1 ga, 3⟩] 4) := by rw [hw8]; exact World.putObj_heap_same (by omega)
  have m9 : w9.heap[g]? = some (.map (teE go ga gb) 5) := by rw [hw9]; exact World.putObj_heap_same (by omega)
  have r4 : (Instr.mapUpdate tM (.map (some g)) (.int .i64 0) (.func (.func 50) #[] #[.pointer (some ⟨ga, 0, none⟩)])).run Try.prog w4 = .ok () w5 := by rw [hw5]; exact ins_any w4 g 0 _ 0 (te1 ga) m4 rfl
  have r5 : (Instr.mapUpdate tM (.map (some g)) (.int .i64 1) (.func (.func 50) #[] #[.pointer (some ⟨ga, 0, none⟩)])).run Try.prog w5 = .ok () w6 := by rw [hw6]; exact ins_any w5 g 1 _ 1 (te1 ga) m5 rfl
  have r6 : (Instr.mapUpdate tM (.map (some g)) (.int .i64 2) (.func (.func 52) #[] #[.pointer (some ⟨gb, 0, none⟩)])).run Try.prog w6 = .ok () w7 := by rw [hw7]; exact ins_any w6 g 2 _ 2 (te2 gb) m6 rfl
  have r7 : (Instr.mapUpdate tM (.map (some g)) (.int .i64 3) (.func (.func 50) #[] #[.pointer (some ⟨ga, 0, none⟩)])).run Try.prog w7 = .ok () w8 := by rw [hw8]; exact ins_any w7 g 3 _ 3 (te1 ga) m7 rfl
  have r8 : (Instr.mapUpdate tM (.map (some g)) (.int .i64 4) (.func (.func 53) #[] #[.pointer (some ⟨ga, 0, none⟩), .pointer (some ⟨go, 0, none⟩), .pointer (some ⟨gb, 0, none⟩)])).run Try.prog w8 = .ok () w9 := by rw [hw9]; exact ins_any w8 g 4 _ 4 (te3 go ga gb) m8 rfl
  have hbs : Below w.heap.size w w9 := by
    have h1 : Below w.heap.size w w1 := by rw [hw1]; exact (Below.refl _ w).alloc (Nat.le_refl _) _
    have h2 : Below w.heap.size w w2 := by rw [hw2]; exact h1.alloc h1.size _
    have h3 : Below w.heap.size w w3 := by rw [hw3]; exact h2.alloc h2.size _
    have h4 : Below w.heap.size w w4 := by rw [hw4]; exact h3.alloc h3.size _
    have hgB : w.heap.size ≤ g := by rw [hg]; exact h3.size
    have h5 : Below w.heap.size w w5 := by rw [hw5]; exact below_putObj h4 hgB _
    have h6 : Below w.heap.size w w6 := by rw [hw6]; exact below_putObj h5 hgB _
    have h7 : Below w.heap.size w w7 := by rw [hw7]; exact below_putObj h6 hgB _
    have h8 : Below w.heap.size w w8 := by rw [hw8]; exact below_putObj h7 hgB _
    rw [hw9]; exact below_putObj h8 hgB _
  have hh : ∀ k, k < g → w9.heap[k]? = w3.heap[k]? := fun k hk => by
    rw [hw9, World.putObj_heap_other (by omega), hw8, World.putObj_heap_other (by omega), hw7, World.putObj_heap_other (by omega), hw6, World.putObj_heap_other (by omega), hw5, World.putObj_heap_other (by omega), hw4]
    exact Below.heap_alloc w3 _ k (by omega)
  have c1 : Row w3 go tLs [.slice Ao no co] := by
    rw [hw3, hw2, hw1, hgo]; exact ((Row.fresh w tLs #[.slice Ao no co]).alloc _).alloc _
  have c2 : Row w3 ga tLs [.slice Aa na ca] := by
    rw [hw3, hw2, hga]; exact (Row.fresh w1 tLs #[.slice Aa na ca]).alloc _
  have c3 : Row w3 gb tLs [.slice Ab nb cb] := by
    rw [hw3, hgb]; exact Row.fresh w2 tLs #[.slice Ab nb cb]
  have HT := hide (show Tel w9 w.heap.size g go ga gb Ao Aa Ab no na nb co ca cb from
    ⟨m9, by rw [hg]; have h1 : w.heap.size ≤ w1.heap.size := (by rw [hw1]; simp); have h2 : w1.heap.size ≤ w2.heap.size := (by rw [hw2]; simp); have h3 : w2.heap.size ≤ w3.heap.size := (by rw [hw3]; simp); omega,
      (World.cell?_of_block (a := ⟨go, 0, none⟩) (hh go (by rw [hg]; exact c1.lt))).trans (c1.cell 0), (World.cell?_of_block (a := ⟨ga, 0, none⟩) (hh ga (by rw [hg]; exact c2.lt))).trans (c2.cell 0), (World.cell?_of_block (a := ⟨gb, 0, none⟩) (hh gb (by rw [hg]; exact c3.lt))).trans (c3.cell 0)⟩)
  have Hbs := hide hbs
  have Hw1 := hide hw1; have Hw2 := hide hw2; have Hw3 := hide hw3; have Hgo := hide hgo; have Hga := hide hga; have Hgb := hide hgb
  clear hw1 hw2 hw3 hw4 hw5 hw6 hw7 hw8 hw9 hgo hga hgb hg s4 s5 s6 s7 s8 m4 m5 m6 m7 m8 m9 hbs hh c1 c2 c3
  go_enter Try.func39, Try.ntmps39
  go_wp2_with (first | rw [← Hw1.out, ← Hgo.out] | rw [← Hw2.out, ← Hga.out] | rw [← Hw3.out, ← Hgb.out])
  go_ret
  exact ⟨_, _, _, _, rfl, HT.out, Hbs.out⟩
end Go.Proofs.Ytghnieddokhagaa.Al
namespace Go.Proofs.Ytghnieddokhagaa.Al
open Go Go.RowKit Kt Kg Lw Li Df

theorem take_snocR (L : List Rg) (k : Nat) (r : Rg) (h : L[k]? = some r) : L.take (k + 1) = L.take k ++ [r] := by
  obtain ⟨hk, e⟩ := List.getElem?_eq_some_iff.1 h
  rw [List.take_succ_eq_append_getElem hk, e]
theorem Trio.keep {w w' : World} {Ao Aa Ab : Option Addr} {co ca cb : Nat} {o a b : Ls} (h : Trio w Ao Aa Ab co ca cb o a b) (hb : Below w.heap.size w w') : Trio w' Ao Aa Ab co ca cb o a b :=
  ⟨(Lw.Vs.below h.o_ hb).bound, (Lw.Vs.below h.a_ hb).bound, (Lw.Vs.below h.b_ hb).bound, h.lo_, h.la_, h.lb_⟩
theorem kinds_of {o a b : Ls} {r : Rg} {O ON A AN B BN : Nat} (h : Spn o a b r O ON A AN B BN) : r.kind = 0 ∨ r.kind = 1 ∨ r.kind = 2 ∨ r.kind = 3 ∨ r.kind = 4 := by
  rcases holdsK_cases h.hk with ⟨k, _⟩ | ⟨k, _⟩ | ⟨k, _⟩ | ⟨k, _⟩ | k
  · exact .inl k
  · exact .inr (.inl k)
  · exact .inr (.inr (.inl k))
  · exact .inr (.inr (.inr (.inl k)))
  · exact .inr (.inr (.inr (.inr k)))
abbrev Told (w : World) (y : Ending) (w' : World) (l : Ls) (n : Nat) : Prop := ∃ A c, y = .returned (.slice A n c) ∧ Vs w' (fun _ => True) A c (texts l) ∧ Below w.heap.size w w'
theorem vs_true {w : World} {P : Nat → Prop} {A : Option Addr} {c : Nat} {vs : List Value} (h : Vs w P A c vs) : Vs w (fun _ => True) A c vs :=
  ⟨h.1, fun hp => by
    obtain ⟨b, o, e, _, hc⟩ := h.2 hp
    exact ⟨b, o, e, trivial, hc⟩⟩
set_option maxRecDepth 100000 in
set_option maxHeartbeats 4000000 in
theorem mlines_any {w : World} {Ao Aa Ab : Option Addr} {co ca cb : Nat} {o a b : Ls} (ht : Trio w Ao Aa Ab co ca cb o a b) (fo : Fit o) (fa : Fit a) (fb : Fit b) :
    Calls Try.prog 30 #[.slice Ao o.length co, .slice Aa a.length ca, .slice Ab b.length cb] w fun y w' => ∃ v, y = .returned (.tuple #[v, .int .i64 (mgN o a b : Nat)]) ∧ OwT w' w.heap.size 9 v (mgL o a b) ∧ Below w.heap.size w w' := by
  have HT1 := hide (tellers_any Ao Aa Ab o.length a.length b.length co ca cb w)
  have HR := hide (fun (w1 : World) (hb : Below w.heap.size w w1) => regions_any (ht.keep hb))
  obtain ⟨no, hno⟩ : ∃ z, z = o.length := ⟨_, rfl⟩
  obtain ⟨na, hna⟩ : ∃ z, z = a.length := ⟨_, rfl⟩
  obtain ⟨nb, hnb⟩ : ∃ z, z = b.length := ⟨_, rfl⟩
  have Ht := hide ht
  have Hf := hide (show Fit o ∧ Fit a ∧ Fit b from ⟨fo, fa, fb⟩)
  rw [← hno, ← hna, ← hnb] at HT1 HR ⊢
  have Hno := hide hno
  have Hna := hide hna
  have Hnb := hide hnb
  clear ht fo fa fb hno hna hnb
  go_enter Try.func30, Try.ntmps30
  go_wp2_with fail
  refine HT1.out.mono ?_
  rintro y w2 ⟨g, go, ga, gb, rfl, htel, hb2⟩
  have Htel := hide htel
  have Hb2 := hide hb2
  clear htel hb2
  go_wp2_with fail
  refine (HR.out w2 Hb2.out).mono ?_
  rintro y w3 ⟨vR, rfl, hownR, hb3⟩
  obtain ⟨AR, cR, rfl, hrgs⟩ := hownR.rgs
  have Hrgs := hide hrgs
  have Htel3 := hide (Htel.out.keep hb3)
  have Hb3 := hide (Hb2.out.trans (hb3.mono Hb2.out.size))
  have hcnt := regs_count o a b
  have hSp := Spn.regs o a b
  have hLn := fun k => mg_lens Ht.out.lo_ Ht.out.la_ Ht.out.lb_ k
  have HL := hide (show mgL o a b = mgF o a b (regs o a b) from rfl)
  have HN := hide (show mgN o a b = mgC (regs o a b) from rfl)
  have hlen : (regs o a b).length ≤ 3000 := by have := Ht.out.lo_; have := Ht.out.la_; have := Ht.out.lb_; omega
  generalize regs o a b = L at *
  obtain ⟨N, hN⟩ : ∃ N, N = L.length := ⟨_, rfl⟩
  rw [← hN] at hlen ⊢
  have HNL := hide hN
  have HSp := hide hSp
  have HLn := hide hLn
  have Hlen := hide hlen
  clear hownR hrgs hb3 hcnt hSp hLn hN HT1 HR Hb2 Htel hlen
  go_wp2_with fail
  go_loopw [9, 10, 22] (fun s n i wr => ∃ (k : Nat) (v0 : Value), v0 = s ∧ k ≤ N ∧ i = .int .i64 k ∧ n = .int .i64 (mgC (L.take k) : Nat) ∧ OwT wr w3.heap.size 9 v0 (mgF o a b (L.take k)) ∧ Below w3.heap.size w3 wr) (fun _ _ i _ => N - (intOf i).toNat)
  case atStart => exact ⟨0, _, rfl, Nat.zero_le _, rfl, rfl, OwT.nil _ _ _, Below.refl _ _⟩
  case round =>
    obtain ⟨k, v, rfl, hk, rfl, rfl, hown, hb⟩ := hrel
    have Hown := hide hown
    have Hb := hide hb
    clear hown hb
    by_cases hlt : k < N
    · obtain ⟨b0, o0, r, rfl, hbl, hLk, hdrop, d0, d1, d2, d3, d4, d5, d6⟩ := Hrgs.out.at (w' := wr) Hb.out (k := k) (by have := HNL.out; omega)
      obtain ⟨x0, m0, x1, m1, x2, m2, sp⟩ := HSp.out r (List.mem_of_getElem? hLk)
      have hkc := kinds_of sp
      have Hsn := hide (take_snocR L k r hLk)
      have hmc := mgC_le (L.take k)
      have hmk : (L.take k).length ≤ 3000 := by have := Hlen.out; have := HNL.out; rw [List.length_take]; omega
      have Hl1 := hide (HLn.out k)
      have Hl2 := hide (HLn.out (k + 1))
      rw [Hsn.out, mgF_snoc, List.length_append] at Hl2
      have HF := hide (show mgF o a b (L.take (k + 1)) = mgF o a b (L.take k) ++ mgR o a b r by rw [Hsn.out, mgF_snoc])
      have HC := hide (show mgC (L.take (k + 1)) = mgC (L.take k) + (if r.kind = 4 then 1 else 0) by rw [Hsn.out, mgC_snoc])
      rw [sp.o0] at d1
      rw [sp.on] at d2
      rw [sp.a0] at d3
      rw [sp.an] at d4
      rw [sp.b0] at d5
      rw [sp.bn] at d6
      have htr := fun (wz : World) (hz : Below w3.heap.size w3 wz) => Ht.out.keep (Hb3.out.trans (hz.mono Hb3.out.size))
      have hte := fun (wz : World) (hz : Below w3.heap.size w3 wz) => Htel3.out.keep hz
      have hRm : mgR o a b r = if r.kind = 4 then mgX (cut o x0 m0) (cut a x1 m1) (cut b x2 m2) else if r.kind = 2 then cut b x2 m2 else cut a x1 m1 := by
        unfold mgR; rw [sp.o0, sp.on, sp.a0, sp.an, sp.b0, sp.bn]
      have hsp := And.intro sp.oo (And.intro sp.aa sp.bb)
      obtain ⟨T, hT⟩ : ∃ T, T = mgR o a b r := ⟨_, rfl⟩
      obtain ⟨kd, hkd⟩ : ∃ kd, kd = r.kind := ⟨_, rfl⟩
      rw [← hT] at HF hRm Hl2
      rw [← hkd] at hkc hRm d0 HC
      obtain ⟨nt, hnt⟩ : ∃ z, z = T.length := ⟨_, rfl⟩
      have Hnt := hide hnt
      have Hla := hide (show o.length ≤ 1000 ∧ a.length ≤ 1000 ∧ b.length ≤ 1000 from ⟨Ht.out.lo_, Ht.out.la_, Ht.out.lb_⟩)
      generalize mgF o a b (L.take k) = F at *
      obtain ⟨cc, hcc⟩ : ∃ z, z = mgC (L.take k) := ⟨_, rfl⟩
      rw [← hcc] at hmc HC ⊢
      have hcc3 : cc ≤ 3000 := by omega
      have Hcc := hide hcc
      clear hsp hT hkd hnt hcc hmc hmk hLk hdrop hbl
      obtain ⟨q, hq⟩ : ∃ q, q = wr.heap.size := ⟨_, rfl⟩
      obtain ⟨w5, hw5⟩ : ∃ w5, w5 = wr.alloc (.cells #[.int .i64 kd, .int .i64 x0, .int .i64 m0, .int .i64 x1, .int .i64 m1, .int .i64 x2, .int .i64 m2] tR) := ⟨_, rfl⟩
      have hb5 : Below wr.heap.size wr w5 := by rw [hw5]; exact (Below.refl _ wr).alloc (Nat.le_refl _) _
      have hrow5 : Row w5 q tR [.int .i64 kd, .int .i64 x0, .int .i64 m0, .int .i64 x1, .int .i64 m1, .int .i64 x2, .int .i64 m2] := by rw [hw5, hq]; exact Row.fresh wr tR _
      have Hb5 := hide (Hb.out.trans (hb5.mono Hb.out.size))
      have Hown5 := hide (Hown.out.kept hb5)
      have hqv : v.ownBlock ≠ some q := fun h => by have := (World.ownsRow.lt Hown.out q h).2; omega
      have e0 := hrow5.cell 0
      have e1 := hrow5.cell 1
      have e2 := hrow5.cell 2
      have e3 := hrow5.cell 3
      have e4 := hrow5.cell 4
      have e5 := hrow5.cell 5
      have e6 := hrow5.cell 6
      simp only [List.getElem?_cons_zero, List.getElem?_cons_succ] at e0 e1 e2 e3 e4 e5 e6
      have Hrow5 := hide hrow5
      have Hw5 := hide hw5
      have Hq := hide hq
      have Hqv := hide hqv
      have HQ7 := hide (show ∀ w6 w7, Below w5.heap.size w5 w6 → w6.grownBy w7 v.ownBlock → w7.cell? ⟨q, 0, none⟩ = some (.int .i64 kd) from fun w6 w7 h6 h7 => by
        have h := Hrow5.out.below h6 Hrow5.out.lt
        have := h7.block q h.lt (fun e => Hqv.out e.symm)
        exact (World.cell?_of_block (a := ⟨q, 0, none⟩) this).trans (h.cell 0))
      have hlk := look_any w5 g go ga gb kd (hte w5 Hb5.out).map hkc
      have htr5 := htr w5 Hb5.out
      have hte5 := hte w5 Hb5.out
      clear htr hte hb5 hrow5 hw5 hq hqv
      by_cases h4 : kd = 4
      · rw [if_pos h4] at hRm HC
        subst h4
        replace hlk : (Instr.lookup tM (.map (some g)) (.int .i64 4) false).run Try.prog w5 = .ok (.func (.func 53) #[] #[.pointer (some ⟨ga, 0, none⟩), .pointer (some ⟨go, 0, none⟩), .pointer (some ⟨gb, 0, none⟩)]) w5 := hlk
        have hTel : Calls Try.prog 53 #[.agg #[.int .i64 4, .int .i64 x0, .int .i64 m0, .int .i64 x1, .int .i64 m1, .int .i64 x2, .int .i64 m2], .pointer (some ⟨ga, 0, none⟩), .pointer (some ⟨go, 0, none⟩), .pointer (some ⟨gb, 0, none⟩)] w5 fun y w' => Told w5 y w' T nt := by
          refine (tell3_any 4 x0 m0 x1 m1 x2 m2 go ga gb w5 htr5 Hf.out.1 Hf.out.2.1 Hf.out.2.2 (by rw [← Hno.out]; exact hte5.o_) (by rw [← Hna.out]; exact hte5.a_) (by rw [← Hnb.out]; exact hte5.b_) sp.oo sp.aa sp.bb).mono ?_
          rintro y w' ⟨v', rfl, ho, hb'⟩
          rw [← hRm] at ho
          obtain ⟨A', c', rfl, hv'⟩ := ho.vs
          exact ⟨A', c', by rw [Hnt.out], vs_true hv', hb'⟩
        have HTel := hide hTel
        clear hTel hte5 htr5 hRm hkc sp
        go_wp2_with (first | rw [← Hw5.out, ← Hq.out] | fail)
        refine HTel.out.mono ?_
        rintro y w6 ⟨A6, c6, rfl, hv6, hb6⟩
        have Hv6 := hide hv6
        have Hb6 := hide hb6
        have Hown6 := hide (Hown5.out.kept hb6)
        have Hlow6 := hide (Hb5.out.trans (hb6.mono Hb5.out.size))
        clear hv6 hb6 e0 e1 e2 e3 e4 e5 e6 hlk
        rename_i KK hKK
        refine hKK _ _ ?_
        clear hKK KK
        rw [Hnt.out]
        refine wpList_catT rfl (.tmp 26) (.tmp 32) 25 rfl Try.underlying25 Li.infoText w3.heap.size w3 v F T (fun _ => True) A6 c6 rfl rfl Hown6.out Hv6.out (by have := Hl2.out; omega) Hlow6.out Hlow6.out.size ?_
        intro v1 w7 hown7 hb7 hg7
        have e0 := HQ7.out w6 w7 Hb6.out hg7
        have Hown7 := hide hown7
        have Hb7 := hide hb7
        have hN3 : N ≤ 3000 := Hlen.out
        clear hg7 hown7 hb7 d0 d1 d2 d3 d4 d5 d6
        go_wp2
        refine ⟨⟨k + 1, _, rfl, by omega, by go_num, ?_, by rw [HF.out]; exact Hown7.out, Hb7.out⟩, by simp [intOf]; omega⟩
        rw [HC.out]
        go_num
      · have h4b : (kd == 4) = false := by simpa using h4
        rw [if_neg h4] at hRm HC
        by_cases h2 : kd = 2
        · rw [if_pos h2] at hRm
          have hlk2 : teF go ga gb kd = .func (.func 52) #[] #[.pointer (some ⟨gb, 0, none⟩)] := by unfold teF; rw [if_neg h4, if_pos h2]; rfl
          rw [hlk2] at hlk
          clear hlk2 h2
          have hTel : Calls Try.prog 52 #[.agg #[.int .i64 kd, .int .i64 x0, .int .i64 m0, .int .i64 x1, .int .i64 m1, .int .i64 x2, .int .i64 m2], .pointer (some ⟨gb, 0, none⟩)] w5 fun y w' => Told w5 y w' T nt := by
            refine (tell2_any kd x0 m0 x1 m1 b x2 m2 gb Ab cb _ w5 (by rw [← Hnb.out]; exact hte5.b_) htr5.b_ sp.bb (by have := Hla.out; omega)).mono ?_
            rintro y w' ⟨A', c', rfl, hv', hb'⟩
            rw [← hRm] at hv'
            exact ⟨A', c', by rw [Hnt.out, hRm, cut_len rfl rfl sp.bb], vs_true hv', hb'⟩
          have HTel := hide hTel
          clear hTel hte5 htr5 hRm hkc sp
          go_wp2_with (first | rw [← Hw5.out, ← Hq.out] | fail)
          refine HTel.out.mono ?_
          rintro y w6 ⟨A6, c6, rfl, hv6, hb6⟩
          have Hv6 := hide hv6
          have Hb6 := hide hb6
          have Hown6 := hide (Hown5.out.kept hb6)
          have Hlow6 := hide (Hb5.out.trans (hb6.mono Hb5.out.size))
          clear hv6 hb6 e0 e1 e2 e3 e4 e5 e6 hlk
          rename_i KK hKK
          refine hKK _ _ ?_
          clear hKK KK
          rw [Hnt.out]
          refine wpList_catT rfl (.tmp 26) (.tmp 32) 25 rfl Try.underlying25 Li.infoText w3.heap.size w3 v F T (fun _ => True) A6 c6 rfl rfl Hown6.out Hv6.out (by have := Hl2.out; omega) Hlow6.out Hlow6.out.size ?_
          intro v1 w7 hown7 hb7 hg7
          have e0 := HQ7.out w6 w7 Hb6.out hg7
          have Hown7 := hide hown7
          have Hb7 := hide hb7
          have hN3 : N ≤ 3000 := Hlen.out
          clear hg7 hown7 hb7 d0 d1 d2 d3 d4 d5 d6
          go_wp2
          refine ⟨⟨k + 1, _, rfl, by omega, by go_num, ?_, by rw [HF.out]; exact Hown7.out, Hb7.out⟩, by simp [intOf]; omega⟩
          rw [HC.out]
          go_num
        · rw [if_neg h2] at hRm
          have hlk2 : teF go ga gb kd = .func (.func 50) #[] #[.pointer (some ⟨ga, 0, none⟩)] := by unfold teF; rw [if_neg h4, if_neg h2]; rfl
          rw [hlk2] at hlk
          clear hlk2 h2
          have hTel : Calls Try.prog 50 #[.agg #[.int .i64 kd, .int .i64 x0, .int .i64 m0, .int .i64 x1, .int .i64 m1, .int .i64 x2, .int .i64 m2], .pointer (some ⟨ga, 0, none⟩)] w5 fun y w' => Told w5 y w' T nt := by
            refine (tell1_any kd x0 m0 x2 m2 a x1 m1 ga Aa ca _ w5 (by rw [← Hna.out]; exact hte5.a_) htr5.a_ sp.aa (by have := Hla.out; omega)).mono ?_
            rintro y w' ⟨A', c', rfl, hv', hb'⟩
            rw [← hRm] at hv'
            exact ⟨A', c', by rw [Hnt.out, hRm, cut_len rfl rfl sp.aa], vs_true hv', hb'⟩
          have HTel := hide hTel
          clear hTel hte5 htr5 hRm hkc sp
          go_wp2_with (first | rw [← Hw5.out, ← Hq.out] | fail)
          refine HTel.out.mono ?_
          rintro y w6 ⟨A6, c6, rfl, hv6, hb6⟩
          have Hv6 := hide hv6
          have Hb6 := hide hb6
          have Hown6 := hide (Hown5.out.kept hb6)
          have Hlow6 := hide (Hb5.out.trans (hb6.mono Hb5.out.size))
          clear hv6 hb6 e0 e1 e2 e3 e4 e5 e6 hlk
          rename_i KK hKK
          refine hKK _ _ ?_
          clear hKK KK
          rw [Hnt.out]
          refine wpList_catT rfl (.tmp 26) (.tmp 32) 25 rfl Try.underlying25 Li.infoText w3.heap.size w3 v F T (fun _ => True) A6 c6 rfl rfl Hown6.out Hv6.out (by have := Hl2.out; omega) Hlow6.out Hlow6.out.size ?_
          intro v1 w7 hown7 hb7 hg7
          have e0 := HQ7.out w6 w7 Hb6.out hg7
          have Hown7 := hide hown7
          have Hb7 := hide hb7
          have hN3 : N ≤ 3000 := Hlen.out
          clear hg7 hown7 hb7 d0 d1 d2 d3 d4 d5 d6
          go_wp2
          refine ⟨⟨k + 1, _, rfl, by omega, by go_num, ?_, by rw [HF.out]; exact Hown7.out, Hb7.out⟩, by simp [intOf]; omega⟩
          rw [HC.out]
          go_num
    · obtain rfl : k = N := by omega
      have HF := hide (show mgF o a b (L.take k) = mgL o a b by rw [HL.out, HNL.out, List.take_length])
      have HC := hide (show mgC (L.take k) = mgN o a b by rw [HN.out, HNL.out, List.take_length])
      have hown := Hown.out
      rw [HF.out] at hown
      rw [HC.out]
      have Hfin := hide (OwT.based hown Hb3.out.size)
      obtain ⟨A9, c9, rfl, _⟩ := hown.vs
      obtain ⟨l9, hl9⟩ : ∃ z, z = (mgL o a b).length := ⟨_, rfl⟩
      rw [← hl9] at Hfin ⊢
      clear hown hl9
      go_wp2
      go_ret2
      exact ⟨_, rfl, Hfin.out, Hb3.out.trans (Hb.out.mono Hb3.out.size)⟩
end Go.Proofs.Ytghnieddokhagaa.Al
namespace Go.Proofs.Ytghnieddokhagaa.Al
open Go.Proofs.Ytghnieddokhagaa.Li Go.Proofs.Ytghnieddokhagaa.Df

/-- two sides' texts, together; how many clashes -/
def mgT (o a b : List UInt8) : List UInt8 × Nat :=
  if a = b ∨ b = o then (a, 0) else if a = o then (b, 0)
  else if binary o || binary a || binary b then (if Go.Op.bytesLess a b then b else a, 1)
  else ((mgL (lns o) (lns a) (lns b)).flatten, mgN (lns o) (lns a) (lns b))
theorem mgT_same {o a b : List UInt8} (h : a = b ∨ b = o) : mgT o a b = (a, 0) := if_pos h
theorem mgT_one {o a b : List UInt8} (h : ¬ (a = b ∨ b = o)) (h' : a = o) : mgT o a b = (b, 0) := by unfold mgT; rw [if_neg h, if_pos h']
theorem mgT_bin {o a b : List UInt8} (h : ¬ (a = b ∨ b = o)) (h' : ¬ a = o) (h2 : (binary o || binary a || binary b) = true) : mgT o a b = (if Go.Op.bytesLess a b then b else a, 1) := by
  unfold mgT; rw [if_neg h, if_neg h', if_pos h2]
theorem mgT_lines {o a b : List UInt8} (h : ¬ (a = b ∨ b = o)) (h' : ¬ a = o) (h2 : (binary o || binary a || binary b) = false) : mgT o a b = ((mgL (lns o) (lns a) (lns b)).flatten, mgN (lns o) (lns a) (lns b)) := by
  unfold mgT; rw [if_neg h, if_neg h', if_neg (by rw [h2]; decide)]
theorem mgT_sw (o a b : List UInt8) : (mgT o b a).2 = (mgT o a b).2 ∧ ((mgT o a b).2 = 0 → (mgT o b a).1 = (mgT o a b).1) := by
  by_cases h : a = b
  · subst h; exact ⟨rfl, fun _ => rfl⟩
  · by_cases h2 : b = o
    · subst h2
      have hn : ¬ (b = a ∨ a = b) := fun hh => hh.elim (fun e => h e.symm) h
      rw [mgT_same (o := b) (a := a) (.inr rfl), mgT_one hn rfl]
      exact ⟨rfl, fun _ => rfl⟩
    · have hn : ¬ (a = b ∨ b = o) := fun hh => hh.elim h h2
      by_cases h3 : a = o
      · subst h3
        rw [mgT_one hn rfl, mgT_same (o := a) (a := b) (.inr rfl)]
        exact ⟨rfl, fun _ => rfl⟩
      · have hn2 : ¬ (b = a ∨ a = o) := fun hh => hh.elim (fun e => h e.symm) h3
        cases hb : (binary o || binary a || binary b) with
        | true =>
          have hb2 : (binary o || binary b || binary a) = true := by rw [← hb]; cases binary o <;> cases binary a <;> cases binary b <;> rfl
          rw [mgT_bin hn h3 hb, mgT_bin hn2 h2 hb2]
          exact ⟨rfl, fun h => by cases h⟩
        | false =>
          have hb2 : (binary o || binary b || binary a) = false := by rw [← hb]; cases binary o <;> cases binary a <;> cases binary b <;> rfl
          rw [mgT_lines hn h3 hb, mgT_lines hn2 h2 hb2]
          exact ⟨mgN_sw _ _ _, fun h => by simp only; rw [mgL_sw _ _ _ h]⟩
theorem mgX_len (p q r : Ls) : (mgX p r q).flatten.length = (mgX p q r).flatten.length := by
  unfold mgX
  simp only [List.flatten_append, List.length_append]
  omega
/-- with the sides changed the text is as long -/
theorem mgL_len_sw (o a b : Ls) : (mgL o b a).flatten.length = (mgL o a b).flatten.length := by
  have hs := Spn.regs o a b
  unfold mgL mgF
  rw [regs_sw, List.flatMap_map]
  generalize regs o a b = L at hs
  induction L with
  | nil => rfl
  | cons r l ih =>
    rw [List.flatMap_cons, List.flatMap_cons, List.flatten_append, List.flatten_append, List.length_append, List.length_append, ih (fun q hq => hs q (by simp [hq]))]
    congr 1
    obtain ⟨_, _, _, _, _, _, sp⟩ := hs r (by simp)
    unfold mgR
    by_cases k4 : r.kind = 4
    · rw [if_pos k4, if_pos (show r.sw.kind = 4 from (swk_four _).2 k4)]
      exact mgX_len _ _ _
    · rw [if_neg k4, if_neg (show ¬ r.sw.kind = 4 from fun h => k4 ((swk_four _).1 h))]
      show (if swk r.kind = 2 then cut a r.a0 r.an else cut b r.b0 r.bn).flatten.length = _
      rcases holdsK_cases sp.hk with ⟨k0, p1, p2⟩ | ⟨k1, _⟩ | ⟨k2, _⟩ | ⟨k3, p1⟩ | k4'
      · rw [k0, if_neg (by decide), if_neg (by decide), ← p1, p2]
      · rw [k1, if_pos (by decide), if_neg (by decide)]
      · rw [k2, if_neg (by decide), if_pos (by decide)]
      · rw [k3, if_neg (by decide), if_neg (by decide), p1]
      · exact absurd k4' k4
theorem mgT_len_sw (o a b : List UInt8) : (mgT o b a).1.length = (mgT o a b).1.length := by
  by_cases h : a = b
  · subst h; rfl
  · by_cases h2 : b = o
    · subst h2
      have hn : ¬ (b = a ∨ a = b) := fun hh => hh.elim (fun e => h e.symm) h
      rw [mgT_same (o := b) (a := a) (.inr rfl), mgT_one hn rfl]
    · have hn : ¬ (a = b ∨ b = o) := fun hh => hh.elim h h2
      by_cases h3 : a = o
      · subst h3
        rw [mgT_one hn rfl, mgT_same (o := a) (a := b) (.inr rfl)]
      · have hn2 : ¬ (b = a ∨ a = o) := fun hh => hh.elim (fun e => h e.symm) h3
        cases hb : (binary o || binary a || binary b) with
        | true =>
          have hb2 : (binary o || binary b || binary a) = true := by rw [← hb]; cases binary o <;> cases binary a <;> cases binary b <;> rfl
          rw [mgT_bin hn h3 hb, mgT_bin hn2 h2 hb2]
          rcases Tr.lt_tri a b with k | k | k
          · rw [show Go.Op.bytesLess a b = true from k, show Go.Op.bytesLess b a = false from Tr.lt_asymm k]; rfl
          · exact absurd k h
          · rw [show Go.Op.bytesLess b a = true from k, show Go.Op.bytesLess a b = false from Tr.lt_asymm k]; rfl
        | false =>
          have hb2 : (binary o || binary b || binary a) = false := by rw [← hb]; cases binary o <;> cases binary a <;> cases binary b <;> rfl
          rw [mgT_lines hn h3 hb, mgT_lines hn2 h2 hb2]
          exact mgL_len_sw _ _ _
theorem mgT_sym : Tr.Sym mgT := ⟨fun o a b => (mgT_sw o a b).1, mgT_len_sw, fun o a b h => (mgT_sw o a b).2 h⟩
/-- one line on both sides, where there was none -/
theorem lns_one : ∀ {s : List UInt8}, s ≠ [] → (∀ c ∈ s, c ≠ 10) → lns s = [s]
  | [], h, _ => absurd rfl h
  | [c], _, h => by rw [lns_cons, if_neg (h c (by simp))]; rfl
  | c :: d :: s, _, h => by
    rw [lns_cons, if_neg (h c (by simp)), lns_one (s := d :: s) (by simp) fun x hx => h x (List.mem_cons_of_mem _ hx)]
theorem D_come (p : List UInt8) : D [] [p] = [⟨0, 0, [p]⟩] := by simp [D, fr, bk, run, mid, go, emit]
theorem regs_two {p q : List UInt8} (h : p ≠ q) : regs [] [p] [q] = [⟨4, 0, 0, 0, 1, 0, 1⟩] := by
  unfold regs
  rw [D_come, D_come]
  simp [mrg, loop, grow, Cl.zero, Cl.take, St.keep, St.add, kindOf, cut, h]
theorem mgT_two {p q : List UInt8} (h : p ≠ q) (hp : p ≠ []) (hq : q ≠ []) (h1 : ∀ c ∈ p, c ≠ 10 ∧ c ≠ 0) (h2 : ∀ c ∈ q, c ≠ 10 ∧ c ≠ 0) :
    mgT [] p q = (mk7 60 ++ (p ++ [10]) ++ mk7 124 ++ mk7 61 ++ (q ++ [10]) ++ mk7 62, 1) := by
  have hb : ∀ {s : List UInt8}, (∀ c ∈ s, c ≠ 10 ∧ c ≠ 0) → binary s = false := fun {s} hs => by
    unfold binary
    rw [Bool.eq_false_iff]
    intro hc
    rw [List.contains_iff_mem] at hc
    exact (hs 0 hc).2 rfl
  have hn : ¬ (p = q ∨ q = []) := fun hh => hh.elim h hq
  have ss : ∀ {s : List UInt8}, (∀ c ∈ s, c ≠ 10 ∧ c ≠ 0) → shut s = s ++ [10] := fun {s} hs => by
    unfold shut
    rw [if_neg]
    intro hl
    exact (hs 10 (List.mem_of_getLast? hl)).1 rfl
  rw [mgT_lines hn hp (by rw [hb h1, hb h2]; rfl), lns_one hp fun c hc => (h1 c hc).1, lns_one hq fun c hc => (h2 c hc).1]
  unfold mgL mgN
  rw [show lns [] = [] from rfl, regs_two h]
  simp [mgF, mgR, mgX, mgC, cut, ss h1, ss h2]
/-- how long what is told of regions is: each line of each list is told once at most -/
theorem mgR_sum (o a b : Ls) (r : Rg) : (mgR o a b r).length ≤ (cut o r.o0 r.on).length + (cut a r.a0 r.an).length + (cut b r.b0 r.bn).length + 4 ∧
    (mgR o a b r).flatten.length ≤ (cut o r.o0 r.on).flatten.length + (cut a r.a0 r.an).flatten.length + (cut b r.b0 r.bn).flatten.length + ((cut o r.o0 r.on).length + (cut a r.a0 r.an).length + (cut b r.b0 r.bn).length) + 32 := by
  have h1 := shuts_flat (cut o r.o0 r.on)
  have h2 := shuts_flat (cut a r.a0 r.an)
  have h3 := shuts_flat (cut b r.b0 r.bn)
  unfold mgR
  by_cases k4 : r.kind = 4
  · rw [if_pos k4]
    unfold mgX mk7
    simp only [List.flatten_append, List.length_append, List.length_map, List.flatten_cons, List.flatten_nil, List.length_cons, List.length_nil]
    omega
  · rw [if_neg k4]
    by_cases k2 : r.kind = 2
    · rw [if_pos k2]; omega
    · rw [if_neg k2]; omega
theorem mgF_sum {o a b : Ls} : ∀ {L : List Rg} {x y z : Int}, okF o a b x y z L = true → 0 ≤ x → 0 ≤ y → 0 ≤ z →
    (mgF o a b L).length ≤ (o.drop x.toNat).length + (a.drop y.toNat).length + (b.drop z.toNat).length + 4 * L.length ∧
    (mgF o a b L).flatten.length ≤ (o.drop x.toNat).flatten.length + (a.drop y.toNat).flatten.length + (b.drop z.toNat).flatten.length + ((o.drop x.toNat).length + (a.drop y.toNat).length + (b.drop z.toNat).length) + 32 * L.length
  | [], x, y, z, _, _, _, _ => by simp [mgF]
  | q :: L, x, y, z, h, hx, hy, hz => by
    rw [okF, Bool.and_eq_true] at h
    obtain ⟨h1, h2⟩ := h
    obtain ⟨_, e1, e2, e3, h3, h4, h5⟩ := Spn.of h1 hx hy hz
    have ih := mgF_sum h2 (by omega) (by omega) (by omega)
    have hq := mgR_sum o a b q
    rw [e1, e2, e3] at hq
    rw [drop_cut o x q.on hx h3, drop_cut a y q.an hy h4, drop_cut b z q.bn hz h5]
    unfold mgF at ih ⊢
    rw [List.flatMap_cons]
    simp only [List.flatten_append, List.length_append, List.length_cons]
    omega
theorem mgL_sum (o a b : Ls) : (mgL o a b).length ≤ 5 * (o.length + a.length + b.length) ∧ (mgL o a b).flatten.length ≤ o.flatten.length + a.flatten.length + b.flatten.length + 33 * (o.length + a.length + b.length) := by
  have h := mgF_sum (regs_ok o a b).1 (Int.le_refl 0) (Int.le_refl 0) (Int.le_refl 0)
  have hc := regs_count o a b
  simp only [Int.toNat_zero, List.drop_zero] at h
  unfold mgL
  omega
end Go.Proofs.Ytghnieddokhagaa.Al
