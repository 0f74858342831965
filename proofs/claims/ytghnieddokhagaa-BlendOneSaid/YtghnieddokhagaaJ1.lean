/-
  The reference's meet and marks; its Same.
-/
import Derived.BigQuiet
import Derived.Test.YtghnieddokhagaaQEB
import Derived.Test.YtghnieddokhagaaKN
import Derived.Test.YtghnieddokhagaaQKR
import Derived.Test.YtghnieddokhagaaQReg
import Derived.Test.YtghnieddokhagaaQEE
import Derived.Test.YtghnieddokhagaaQEK
namespace Go.Proofs.Ytghnieddokhagaa.Al
open Go Go.RowKit Kt Lw Li Df

abbrev tI : TypeId := 3
theorem infoI : (Try.prog.info? 3).map (fun i => (i.zero, i.size, i.bytes)) = some (some (.int .i64 0), 1, 8) := by kernel_rfl
set_option maxRecDepth 100000 in
set_option maxHeartbeats 1000000 in
theorem meet_any (e f : Ed) (A A' : Option Addr) (n n' c c' : Nat) (w : World) (he : 0 ≤ e.pos ∧ e.pos ≤ 1000000 ∧ 0 ≤ e.del ∧ e.del ≤ 1000000) (hf : 0 ≤ f.pos ∧ f.pos ≤ 1000000 ∧ 0 ≤ f.del ∧ f.del ≤ 1000000) :
    Calls Try.prog 87 #[.agg #[.int .i64 e.pos, .int .i64 e.del, .slice A n c], .agg #[.int .i64 f.pos, .int .i64 f.del, .slice A' n' c']] w fun y w' => y = .returned (.bool (meetE e f)) ∧ Below w.heap.size w w' := by
  unfold meetE
  generalize e.pos = p at *
  generalize e.del = d at *
  generalize f.pos = q at *
  generalize f.del = t at *
  have h1 : IntKind.i64.wrap (q + t) = q + t := IntWalk.i64_in _ (by omega)
  have h2 : IntKind.i64.wrap (p + d) = p + d := IntWalk.i64_in _ (by omega)
  clear he hf
  have Hb := hide (((Below.refl w.heap.size w).alloc (Nat.le_refl _) (.cells #[.int .i64 p, .int .i64 d, .slice A n c] tE)).alloc (by simp) (.cells #[.int .i64 q, .int .i64 t, .slice A' n' c'] tE))
  by_cases hp : p ≤ q + t
  · have d1 : decide (p ≤ q + t) = true := decide_eq_true hp
    rw [d1]
    clear hp
    go_enter Try.func87, Try.ntmps87
    go_wp2
    go_ret
    exact ⟨rfl, Hb.out⟩
  · have d1 : decide (p ≤ q + t) = false := decide_eq_false hp
    rw [d1]
    clear hp
    go_enter Try.func87, Try.ntmps87
    go_wp2
    go_ret
    exact ⟨rfl, Hb.out⟩
/-- the edit number k, in a world behind -/
theorem es_nth {w w' : World} {A : Option Addr} {c : Nat} {L : List Ed} (h : Es w A c L) (hb : Below w.heap.size w w') {k : Nat} (hk : k < L.length) :
    ∃ b o A' c', A = some ⟨b, o, none⟩ ∧ w'.cell? ⟨b, o + k * 3, none⟩ = some (.int .i64 (L.getD k ⟨0, 0, []⟩).pos) ∧ w'.cell? ⟨b, o + k * 3 + 1, none⟩ = some (.int .i64 (L.getD k ⟨0, 0, []⟩).del) ∧ w'.cell? ⟨b, o + k * 3 + 2, none⟩ = some (.slice A' (L.getD k ⟨0, 0, []⟩).ins.length c') := by
  obtain ⟨b, o, rfl, hlt, he⟩ := h.2 (by omega)
  obtain ⟨A', c', h1, _⟩ := he k _ (List.getElem?_eq_getElem hk)
  have e : L.getD k ⟨0, 0, []⟩ = L[k] := by rw [List.getD_eq_getElem?_getD, List.getElem?_eq_getElem hk]; rfl
  rw [e]
  rw [Nat.mul_comm] at h1
  have h3 : ∀ i v, (edC L[k] (.slice A' (L[k]).ins.length c'))[i]? = some v → w'.cell? ⟨b, o + k * 3 + i, none⟩ = some v := fun i v hi => (World.cell?_of_block (a := ⟨b, o + k * 3 + i, none⟩) (hb.block b hlt)).trans (h1 i v hi)
  exact ⟨b, o, A', c', rfl, h3 0 _ rfl, h3 1 _ rfl, h3 2 _ rfl⟩
def mtE (L : List Ed) (x y : Nat) : Bool := meetE (L.getD x ⟨0, 0, []⟩) (L.getD y ⟨0, 0, []⟩)
theorem own_put {w : World} {B : Nat} {E : TypeId} {g n c : Nat} {l : List Int} (h : OwN w B E (.slice (some ⟨g, 0, none⟩) n c) l) (i : Nat) (z : Int) (hn : n = l.length) :
    OwN (w.setCell ⟨g, i, none⟩ (.int .i64 z)) B E (.slice (some ⟨g, 0, none⟩) n c) (l.set i z) ∧ w.grownBy (w.setCell ⟨g, i, none⟩ (.int .i64 z)) (some g) := by
  subst hn
  have := World.ownsRow.stored (cap := c) h i (.int .i64 z)
  refine ⟨?_, this.2⟩
  unfold OwN
  rw [List.length_set]
  have e : nums .i64 (l.set i z) = (nums .i64 l).set i (.int .i64 z) := by unfold nums; rw [List.map_set]
  rw [e]
  exact this.1
set_option maxRecDepth 100000 in
set_option maxHeartbeats 4000000 in
theorem marks_any (L : List Ed) (A : Option Addr) (c : Nat) (w : World) (hs : Es w A c L) (hsm : ∀ i, i < L.length → (0 ≤ (L.getD i ⟨0, 0, []⟩).pos ∧ (L.getD i ⟨0, 0, []⟩).pos ≤ 1000000 ∧ 0 ≤ (L.getD i ⟨0, 0, []⟩).del ∧ (L.getD i ⟨0, 0, []⟩).del ≤ 1000000)) (hn : L.length ≤ 2000) :
    Calls Try.prog 68 #[.slice A L.length c] w fun y w' => ∃ v R, y = .returned v ∧ OwN w' w.heap.size tI v R ∧ Mk L.length (mtE L) L.length 0 0 R ∧ Below w.heap.size w w' := by
  have Hs := hide hs
  have Hsm := hide hsm
  obtain ⟨N, hN⟩ : ∃ N, N = L.length := ⟨_, rfl⟩
  rw [← hN] at hn Hsm ⊢
  have HN := hide hN
  clear hs hsm hN
  go_enter Try.func68, Try.ntmps68
  go_wp2
  go_loopw [4, 3] (fun i vm wr => ∃ (k : Nat) (v0 : Value), k ≤ N ∧ i = .int .i64 k ∧ v0 = vm ∧ Hid (OwN wr w.heap.size tI v0 ((List.range k).map fun (j : Nat) => (j : Int))) ∧ Hid (Below w.heap.size w wr)) (fun i _ _ => N - (intOf i).toNat)
  case atStart => exact ⟨0, _, Nat.zero_le _, rfl, rfl, hide (OwN.nil _ _ _), hide (Below.refl _ _)⟩
  case round =>
    obtain ⟨k, v0, hk, rfl, rfl, Ho, Hb⟩ := hrel
    by_cases hlt : k < N
    · have hkw : IntKind.i64.wrap ((k : Int) + 1) = (k : Int) + 1 := IntWalk.i64_in _ (by omega)
      go_wp2_with (refine wpList_pushN rfl (.tmp 15) (.tmp 17) 107 rfl Try.underlying107 infoI w.heap.size w _ _ (k : Int) _ rfl rfl rfl Ho.out (by rw [List.length_map, List.length_range]; omega) Hb.out Hb.out.size (fun v' w' h1 h2 _ => ?_); have Ho2 := hide h1; have Hb2 := hide h2; clear h1 h2)
      exact ⟨⟨k + 1, _, by omega, by go_num, rfl, by rw [List.range_succ, List.map_append]; exact Ho2, Hb2⟩, by simp [intOf]; omega⟩
    · obtain rfl : k = N := by omega
      have HM0 := hide (Mk.start (n := k) (mt := mtE L) (L := (List.range k).map fun (j : Nat) => (j : Int)) (by simp) (fun x hx => by rw [List.getD_eq_getElem?_getD, List.getElem?_map, List.getElem?_range hx]; rfl))
      generalize (List.range k).map (fun (j : Nat) => (j : Int)) = R0 at *
      clear hlt
      go_wp2
      go_loopw [5] (fun vt w2 => ∃ (t : Nat) (R : List Int), t ≤ k ∧ vt = .int .i64 t ∧ Hid (OwN w2 w.heap.size tI v0 R) ∧ Hid (Mk k (mtE L) t 0 0 R) ∧ Hid (Below w.heap.size w w2)) (fun vt _ => k - (intOf vt).toNat)
      case atStart => exact ⟨0, R0, Nat.zero_le _, rfl, Ho, HM0, Hb⟩
      case round =>
        obtain ⟨t, R1, ht, rfl, Ho1, HM1, Hb1⟩ := hrel
        have htw : IntKind.i64.wrap ((t : Int) + 1) = (t : Int) + 1 := IntWalk.i64_in _ (by omega)
        by_cases hlt : t < k
        · go_wp2
          go_loopw [6] (fun vi w3 => ∃ (i : Nat) (R : List Int), i ≤ k ∧ vi = .int .i64 i ∧ Hid (OwN w3 w.heap.size tI v0 R) ∧ Hid (Mk k (mtE L) t i 0 R) ∧ Hid (Below w.heap.size w w3)) (fun vi _ => k - (intOf vi).toNat)
          case atStart => exact ⟨0, R1, Nat.zero_le _, rfl, Ho1, HM1, Hb1⟩
          case round =>
            obtain ⟨i, R2, hi, rfl, Ho2, HM2, Hb2⟩ := hrel
            have hiw : IntKind.i64.wrap ((i : Int) + 1) = (i : Int) + 1 := IntWalk.i64_in _ (by omega)
            by_cases hli : i < k
            · go_wp2
              go_loopw [7] (fun vk w4 => ∃ (q : Nat) (R : List Int), q ≤ k ∧ vk = .int .i64 q ∧ Hid (OwN w4 w.heap.size tI v0 R) ∧ Hid (Mk k (mtE L) t i q R) ∧ Hid (Below w.heap.size w w4)) (fun vk _ => k - (intOf vk).toNat)
              case atStart => exact ⟨0, R2, Nat.zero_le _, rfl, Ho2, HM2, Hb2⟩
              case round =>
                obtain ⟨q, R3, hq, rfl, Ho3, HM3, Hb3⟩ := hrel
                have hqw : IntKind.i64.wrap ((q : Int) + 1) = (q : Int) + 1 := IntWalk.i64_in _ (by omega)
                by_cases hlq : q < k
                · have hNL := HN.out
                  obtain ⟨b0, o0, A1, c1, hA, d0, d1, d2⟩ := es_nth Hs.out Hb3.out (k := i) (by omega)
                  obtain ⟨b1, o1, A2, c2, hA', e0, e1, e2⟩ := es_nth Hs.out Hb3.out (k := q) (by omega)
                  subst hA
                  injection hA' with hA'
                  injection hA' with hA1 hA2
                  subst hA1 hA2
                  have HME := hide (fun w1 => meet_any (L.getD i ⟨0, 0, []⟩) (L.getD q ⟨0, 0, []⟩) A1 A2 (L.getD i ⟨0, 0, []⟩).ins.length (L.getD q ⟨0, 0, []⟩).ins.length c1 c2 w1 (Hsm.out i hli) (Hsm.out q hlq))
                  rw [show meetE (L.getD i ⟨0, 0, []⟩) (L.getD q ⟨0, 0, []⟩) = mtE L i q from rfl] at HME
                  obtain ⟨mm, hmm⟩ : ∃ mm, mm = mtE L i q := ⟨_, rfl⟩
                  rw [← hmm] at HME
                  have Hmm := hide hmm
                  generalize (L.getD i ⟨0, 0, []⟩).pos = p1 at *
                  generalize (L.getD i ⟨0, 0, []⟩).del = p2 at *
                  generalize (L.getD i ⟨0, 0, []⟩).ins.length = p3 at *
                  generalize (L.getD q ⟨0, 0, []⟩).pos = q1 at *
                  generalize (L.getD q ⟨0, 0, []⟩).del = q2 at *
                  generalize (L.getD q ⟨0, 0, []⟩).ins.length = q3 at *
                  clear hmm hNL
                  go_wp2
                  refine Rc.wp_region_ord (fun w' => w'.cell? ⟨b0, o0 + i * 3, none⟩ = some (.int .i64 p1) ∧ w'.cell? ⟨b0, o0 + i * 3 + 1, none⟩ = some (.int .i64 p2) ∧ w'.cell? ⟨b0, o0 + i * 3 + 2, none⟩ = some (.slice A1 p3 c1) ∧ w'.cell? ⟨b0, o0 + q * 3, none⟩ = some (.int .i64 q1) ∧ w'.cell? ⟨b0, o0 + q * 3 + 1, none⟩ = some (.int .i64 q2) ∧ w'.cell? ⟨b0, o0 + q * 3 + 2, none⟩ = some (.slice A2 q3 c2)) [(0, true), (1, true), (2, true), (3, true), (4, true), (5, true), (6, true), (7, true), (8, false), (9, true)] (by kernel_rfl) (by kernel_rfl) ?_
                  simp only [Rg.pick, List.map_cons, List.map_nil, List.getD_cons_zero, List.getD_cons_succ]
                  iterate 8 (refine Rc.ord_quiet (v := ?_) rfl (fun w' hS => ?_) ⟨d0, d1, d2, e0, e1, e2⟩ ?_; rotate_left; (obtain ⟨s0, s1, s2, s3, s4, s5⟩ := hS; go_simp; with_reducible rfl); simp only [Act.put, List.setIfInBounds_toArray, List.set_cons_succ, List.set_cons_zero])
                  refine Rc.ord_loud rfl (fun K hK => ?_)
                  go_simp
                  refine (HME.out wr.drew).mono ?_
                  rintro y w5 ⟨rfl, hb5⟩
                  have hb5' : Below wr.heap.size wr w5 := (Below.refl wr.heap.size wr).drew.trans hb5
                  have d0' := agree d0 hb5'
                  have d1' := agree d1 hb5'
                  have d2' := agree d2 hb5'
                  have e0' := agree e0 hb5'
                  have e1' := agree e1 hb5'
                  have e2' := agree e2 hb5'
                  have Ho5 := hide (Ho3.out.kept hb5')
                  have Hb5 := hide (Hb3.out.trans (hb5'.mono Hb3.out.size))
                  refine hK _ _ (fun _ => ⟨d0', d1', d2', e0', e1', e2'⟩) ?_
                  clear hK K hb5 hb5' d0 d1 d2 e0 e1 e2
                  refine Rc.ord_quiet (v := ?_) rfl (fun w' hS => ?_) ⟨d0', d1', d2', e0', e1', e2'⟩ ?_; rotate_left; (obtain ⟨s0, s1, s2, s3, s4, s5⟩ := hS; go_simp; with_reducible rfl); simp only [Act.put, List.setIfInBounds_toArray, List.set_cons_succ, List.set_cons_zero]
                  refine Rc.ord_nil ?_
                  clear d0' d1' d2' e0' e1' e2'
                  have Hmt := Hmm.out
                  cases mm
                  · have HM4 := hide (HM3.out.no Hmt.symm)
                    clear Hmt
                    go_wp2
                    exact ⟨⟨q + 1, R3, by omega, by go_num, Ho5, HM4, Hb5⟩, by simp [intOf]; omega⟩
                  · obtain ⟨gm, cm, hv, hBg, hgl, hcells⟩ := Ho5.out.form (by rw [HM3.out.len]; omega)
                    have hRl := HM3.out.len
                    rw [hRl] at hv
                    subst hv
                    obtain ⟨mn, hmn⟩ : ∃ mn, mn = min (R3.getD i 0) (R3.getD q 0) := ⟨_, rfl⟩
                    have HM4 := hide (HM3.out.yes hli hlq Hmt.symm hmn)
                    have ge : ∀ j, j < R3.length → R3[j]? = some (R3.getD j 0) := fun j hj => by rw [List.getD_eq_getElem?_getD, List.getElem?_eq_getElem hj]; rfl
                    have m0 := hcells i _ (ge i (by omega))
                    have m1 := hcells q _ (ge q (by omega))
                    have mf : w5.frozen? ⟨gm, i, none⟩ = false := World.ownsRow.frozenAt (n := k) (cap := cm) (by rw [← hRl]; have h := Ho5.out; unfold OwN at h; rw [hRl] at h ⊢; exact h) i
                    have hpt := own_put Ho5.out i mn hRl.symm
                    have hmx : (if R3.getD q 0 < R3.getD i 0 then R3.getD q 0 else R3.getD i 0) = mn := by rw [hmn]; split <;> omega
                    have hmx2 : (if R3.getD i 0 < R3.getD q 0 then R3.getD i 0 else R3.getD q 0) = mn := by rw [hmn]; split <;> omega
                    have Hpt := hide hpt
                    have HBg := hide hBg
                    generalize R3.getD i 0 = z0 at *
                    generalize R3.getD q 0 = z1 at *
                    clear hpt hBg hmn ge hcells Hmt
                    go_wp2
                    refine Rc.wp_region_ord (fun w' => w'.cell? ⟨gm, i, none⟩ = some (.int .i64 z0) ∧ w'.cell? ⟨gm, q, none⟩ = some (.int .i64 z1)) [(0, true), (1, true), (2, true), (3, true), (4, true), (5, true), (6, true), (7, true), (8, true), (9, true), (10, true), (11, true), (12, false)] (by kernel_rfl) (by kernel_rfl) ?_
                    simp only [Rg.pick, List.map_cons, List.map_nil, List.getD_cons_zero, List.getD_cons_succ]
                    iterate 10 (refine Rc.ord_quiet (v := ?_) rfl (fun w' hS => ?_) ⟨m0, m1⟩ ?_; rotate_left; (obtain ⟨s0, s1⟩ := hS; go_simp; with_reducible rfl); simp only [Act.put, List.setIfInBounds_toArray, List.set_cons_succ, List.set_cons_zero])
                    refine Rc.ord_quiet (v := .int .i64 mn) rfl (fun w' hS => ?_) ⟨m0, m1⟩ ?_
                    · go_simp
                    simp only [Act.put, List.setIfInBounds_toArray, List.set_cons_succ, List.set_cons_zero]
                    refine Rc.ord_quiet (v := ?_) rfl (fun w' hS => ?_) ⟨m0, m1⟩ ?_; rotate_left; (obtain ⟨s0, s1⟩ := hS; go_simp; with_reducible rfl); simp only [Act.put, List.setIfInBounds_toArray, List.set_cons_succ, List.set_cons_zero]
                    refine Rc.ord_loud rfl (fun K hK => ?_)
                    go_simp
                    refine hK _ _ (fun hf => absurd (show Rc.sink _ 12 = true from by kernel_rfl) (by rw [hf]; decide)) ?_
                    clear hK K
                    refine Rc.ord_nil ?_
                    have Ho6 := hide (show OwN (w5.setCell ⟨gm, i, none⟩ (.int .i64 mn)).drew w.heap.size tI (.slice (some ⟨gm, 0, none⟩) k cm) (R3.set i mn) from OwN.drew Hpt.out.1)
                    have Hb6 := hide ((below_put Hb5.out (g := gm) (i := i) HBg.out (.int .i64 mn)).drew)
                    clear m0 m1 mf hmx hmx2
                    go_wp2
                    exact ⟨⟨q + 1, R3.set i mn, by omega, by go_num, Ho6, HM4, Hb6⟩, by simp [intOf]; omega⟩
                · obtain rfl : q = k := by omega
                  have HM4 := hide HM3.out.row
                  clear hlq
                  go_wp2
                  exact ⟨⟨i + 1, R3, by omega, by go_num, Ho3, HM4, Hb3⟩, by simp [intOf]; omega⟩
            · obtain rfl : i = k := by omega
              have HM4 := hide HM2.out.turn
              clear hli
              go_wp2
              exact ⟨⟨t + 1, R2, by omega, by go_num, Ho2, HM4, Hb2⟩, by simp [intOf]; omega⟩
        · obtain rfl : t = k := by omega
          clear hlt
          go_wp2
          go_ret
          exact ⟨_, R1, rfl, Ho1.out, HM1.out, Hb1.out⟩
end Go.Proofs.Ytghnieddokhagaa.Al
