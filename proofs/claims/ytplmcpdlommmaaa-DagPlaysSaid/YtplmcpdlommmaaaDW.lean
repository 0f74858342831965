/-
  The document's graph in memory: Levels; Level.
-/
import Derived.Test.YtplmcpdlommmaaaDV
namespace Go.Proofs.Ytplmcpdlommmaaa.Oq
open Go Go.RowKit Kt Kg Lw Tr Dq

theorem nums_set (l : List Int) (i : Nat) (x : Int) : (nums .i64 l).set i (.int .i64 x) = nums .i64 (l.set i x) := by simp [nums, List.map_set]
theorem nums_at {l : List Int} {i : Nat} {x : Int} (h : l[i]? = some x) : (nums .i64 l)[i]? = some (.int .i64 x) := by simp [nums, h]
theorem rs_few {D : List Nd} (hI : Inv D) {t i : Nat} {out : List Int} (h : Rs D t i out) {j : Nat} {x : Int} (hj : out[j]? = some x) : 0 ≤ x ∧ x ≤ D.length := by
  have h1 := h.le j x hj
  have h2 : Lof D j ≤ D.length := by
    unfold Lof
    split
    · rename_i n hn
      split
      · rename_i ho
        refine Nat.le_of_lt (lv_few hI ?_)
        rw [has_get]
        rw [get_of hI.up (List.mem_of_getElem? hn)]; exact ho
      · exact Nat.zero_le _
    · exact Nat.zero_le _
  omega
theorem infoN : (Try.prog.info? 3).map (fun i => (i.zero, i.size, i.bytes)) = some (some (.int .i64 0), 1, 8) := by kernel_rfl
set_option maxRecDepth 100000 in
theorem made_ints (m : Nat) (hm : m ≤ 1000000) (w : World) : (Instr.makeSlice 74 (.int .i64 (m : Int)) (.int .i64 (m : Int))).run Try.prog w = .ok (.slice (some ⟨w.heap.size, 0, none⟩) m m) (w.alloc (.cells (nums .i64 (List.replicate m 0)).toArray 3)) := by
  obtain ⟨i0, hi0, hz0, hz1, hz2⟩ := info_parts infoN
  have hC : madeCells (Value.int .i64 0).cells m = (nums .i64 (List.replicate m 0)).toArray := by
    apply Array.ext
    · simp [madeCells, nums, Value.cells]
    · intro i h1 h2
      simp [madeCells, nums, Value.cells, Nat.mod_one]
  have hr := run_makeSlice (P := Try.prog) w 74 3 i0 (.int .i64 0) Try.underlying74 hi0 hz0 .i64 .i64 (m : Int) (m : Int) (by omega) (Int.le_refl _) (by rw [hz1]; simp; omega) (by rw [hz2]; omega) (by omega)
  rw [hz1, Int.toNat_natCast, Nat.mul_one, hC] at hr
  exact hr
set_option maxRecDepth 100000 in
set_option maxHeartbeats 8000000 in
theorem rlevels_any {w : World} {S : Nat → Prop} {g : Nat} {D : List Nd} (h : RdIn w S g D) (hI : Inv D) (hw : Fw D) :
    Calls Try.prog 52 #[pt g] w fun y w' => ∃ (out : List Int) (ob : Nat), y = .returned (.slice (some ⟨ob, 0, none⟩) D.length D.length) ∧ Row w' ob 3 (nums .i64 out) ∧ Rs D D.length 0 out ∧ Below w.heap.size w w' := by
  obtain ⟨Ag, cg, k0, hr⟩ := h.rd
  have HR := hide h
  have HRd := hide hr
  have Hw := hide hw
  have HI := hide hI
  obtain ⟨N, hN⟩ : ∃ N, N = D.length := ⟨_, rfl⟩
  rw [← hN] at k0 ⊢
  have hN40 : N ≤ 40 := by rw [hN]; exact hw.len
  have HN := hide hN
  have HK0 := hide (show ∀ W, Below w.heap.size w W → W.cell? ⟨g, 0, none⟩ = some (.slice Ag N cg) from fun W hW => (World.cell?_of_block (a := ⟨g, 0, none⟩) (hW.block g (World.block_lt_of_cell? _ _ k0))).trans k0)
  clear h hr hw hI hN
  go_enter Try.func52, Try.ntmps52
  have hmk := made_ints N (by omega) w
  obtain ⟨wa, hwa⟩ : ∃ z, w.alloc (.cells (nums .i64 (List.replicate N 0)).toArray 3) = z := ⟨_, rfl⟩
  have HR0 := hide (show Row wa w.heap.size 3 (nums .i64 (List.replicate N 0)) from by rw [← hwa]; exact Row.new w 3 rfl (by simp))
  have HB0 := hide (show Below w.heap.size w wa from by rw [← hwa]; exact (Below.refl _ w).alloc (Nat.le_refl _) _)
  have HS0 := hide (show Rs D 0 0 (List.replicate N 0) from by have := Rs.start D; rwa [← HN.out] at this)
  rw [hwa] at hmk
  go_wp2
  clear hmk hwa k0
  go_loopw [4] (fun tv wr => ∃ (t : Nat) (out : List Int), tv = .int .i64 t ∧ t ≤ N ∧ Hid (Row wr w.heap.size 3 (nums .i64 out)) ∧ Hid (Rs D t 0 out) ∧ Hid (Below w.heap.size w wr)) (fun tv _ => N - (intOf tv).toNat)
  case atStart => exact ⟨0, _, rfl, Nat.zero_le _, by show Hid _; exact HR0, by show Hid _; exact HS0, by show Hid _; exact HB0⟩
  case round =>
    clear HR0 HS0 HB0
    obtain ⟨t, out, rfl, ht, HO, HS, HB⟩ := hrel
    have k0 := HK0.out wr HB.out
    by_cases hlt : t < N
    · go_wp2
      clear k0
      obtain ⟨wo, hwo⟩ : ∃ z, z = wr := ⟨_, rfl⟩
      rw [← hwo]
      subst hwo
      go_loopw [5] (fun iv wz => ∃ (i : Nat) (out : List Int), iv = .int .i64 i ∧ i ≤ N ∧ Hid (Row wz w.heap.size 3 (nums .i64 out)) ∧ Hid (Rs D t i out) ∧ Hid (Below w.heap.size w wz)) (fun iv _ => N - (intOf iv).toNat)
      case atStart => exact ⟨0, out, rfl, Nat.zero_le _, by show Hid _; exact HO, by show Hid _; exact HS, by show Hid _; exact HB⟩
      case round =>
        clear HO HS HB
        obtain ⟨i, out, rfl, hi, HO, HS, HB⟩ := hrel
        have k0 := HK0.out wr HB.out
        by_cases hli : i < N
        · obtain ⟨n, hn⟩ : ∃ z, D[i]? = some z := ⟨_, List.getElem?_eq_getElem (by have := HN.out; omega)⟩
          obtain ⟨b, A', c', rfl, k1, k2, k3, hv⟩ := HRd.out i n hn
          obtain ⟨m, hm⟩ : ∃ z, z = n.ps.length := ⟨_, rfl⟩
          rw [← hm] at k2
          have HKk := hide (show ∀ W, Below w.heap.size w W → W.cell? ⟨b, i * 3 + 1, none⟩ = some (.slice A' m c') ∧ W.cell? ⟨b, i * 3 + 2, none⟩ = some (.bool n.on) from fun W hW =>
            ⟨(World.cell?_of_block (a := ⟨b, i * 3 + 1, none⟩) (hW.block b (World.block_lt_of_cell? _ _ k1))).trans k2, (World.cell?_of_block (a := ⟨b, i * 3 + 2, none⟩) (hW.block b (World.block_lt_of_cell? _ _ k1))).trans k3⟩)
          have hm10 : m ≤ 10 := by rw [hm]; exact Hw.out.many n (List.mem_of_getElem? hn)
          have HVlt := hide (vs_low hv)
          have HM := hide hm
          have HDi := hide hn
          clear hn k1 k2 k3 hv hm
          cases hon : n.on with
          | false =>
            have HS1 := hide (HS.out.off HDi.out hon)
            obtain ⟨k2, k3⟩ := HKk.out wr HB.out
            rw [hon] at k3
            clear HS
            go_wp2
            refine wp_loop_rounds 1 ?_
            rw [rounds_succ]
            by_cases hm0 : 0 < m
            · have d1 : decide ((0 : Int) < (m : Int)) = true := decide_eq_true (by omega)
              go_wp2
              exact ⟨⟨i + 1, out, by go_num, by omega, by show Hid _; exact HO, by show Hid _; exact HS1, by show Hid _; exact HB⟩, by simp [intOf]; omega⟩
            · have d1 : decide ((0 : Int) < (m : Int)) = false := decide_eq_false (by omega)
              go_wp2
              exact ⟨⟨i + 1, out, by go_num, by omega, by show Hid _; exact HO, by show Hid _; exact HS1, by show Hid _; exact HB⟩, by simp [intOf]; omega⟩
          | true =>
            have HOn := hide hon
            have HKt := hide (show ∀ W, Below w.heap.size w W → W.cell? ⟨b, i * 3 + 1, none⟩ = some (.slice A' m c') ∧ W.cell? ⟨b, i * 3 + 2, none⟩ = some (.bool true) from fun W hW => by
              have := HKk.out W hW
              rwa [hon] at this)
            clear HKk hon
            go_wp2
            clear k0
            obtain ⟨wo, hwo⟩ : ∃ z, z = wr := ⟨_, rfl⟩
            rw [← hwo]
            subst hwo
            go_loopw [6] (fun kv wz => ∃ (k : Nat) (out : List Int), kv = .int .i64 k ∧ k ≤ m ∧ Hid (Row wz w.heap.size 3 (nums .i64 out)) ∧ Hid (Rs D t i out ∧ Past D n out i k) ∧ Hid (Below w.heap.size w wz)) (fun kv _ => m - (intOf kv).toNat)
            case atStart => exact ⟨0, out, rfl, Nat.zero_le _, by show Hid _; exact HO, by show Hid _; exact hide ⟨HS.out, Past.nil _ _ _ _⟩, by show Hid _; exact HB⟩
            case round =>
              clear HO HS HB
              obtain ⟨k, out, rfl, hk, HO, HS, HB⟩ := hrel
              have k0 := HK0.out wr HB.out
              obtain ⟨k2, k3⟩ := HKt.out wr HB.out
              by_cases hlk : k < m
              · obtain ⟨p, hp⟩ : ∃ z, n.ps[k]? = some z := ⟨_, List.getElem?_eq_getElem (by have := HM.out; omega)⟩
                obtain ⟨pb, po, rfl, hpp, cp0⟩ := vs_at HVlt.out hp
                have cp1 := (World.cell?_of_block (a := ⟨pb, po + k, none⟩) (HB.out.block pb hpp)).trans cp0
                obtain ⟨q, hq, hqN, _, _, _⟩ := parent_at HI.out HDi.out HOn.out (List.mem_of_getElem? hp)
                rw [← HN.out] at hqN
                have hol := HS.out.1.len
                obtain ⟨x, hx⟩ : ∃ z, out[i]? = some z := ⟨_, List.getElem?_eq_getElem (by have := HN.out; omega)⟩
                obtain ⟨y, hy⟩ : ∃ z, out[q]? = some z := ⟨_, List.getElem?_eq_getElem (by have := HN.out; omega)⟩
                have hy1 := rs_few HI.out HS.out.1 hy
                rw [← HN.out] at hy1
                have hwy : IntKind.i64.wrap (y + 1) = y + 1 := by simp [IntKind.wrap, IntKind.bits, IntKind.signed]; omega
                have cxi : wr.cell? ⟨w.heap.size, i, none⟩ = some (.int .i64 x) := (HO.out.cell i).trans (nums_at hx)
                have cyq : wr.cell? ⟨w.heap.size, q, none⟩ = some (.int .i64 y) := (HO.out.cell q).trans (nums_at hy)
                have hfi : wr.frozen? ⟨w.heap.size, i, none⟩ = false := HO.out.free i
                have HS2 := hide (And.intro (HS.out.1.raise HI.out HDi.out HOn.out (List.mem_of_getElem? hp) hq hx hy) (HS.out.2.raise HI.out HDi.out HOn.out hp hq hx hy))
                have hmax : (if x < y + 1 then y + 1 else x) = max x (y + 1) := by rw [Int.max_def]; split <;> split <;> omega
                have HO2 := hide (show Row (wr.setCell ⟨w.heap.size, i, none⟩ (.int .i64 (if x < y + 1 then y + 1 else x))) w.heap.size 3 (nums .i64 (out.set i (max x (y + 1)))) from by rw [hmax, ← nums_set]; exact HO.out.put i _)
                have HB2 := hide (below_put (i := i) HB.out (Nat.le_refl _) (.int .i64 (if x < y + 1 then y + 1 else x)))
                have HO3 := hide (show Row (wr.setCell ⟨w.heap.size, i, none⟩ (.int .i64 (max x (y + 1)))) w.heap.size 3 (nums .i64 (out.set i (max x (y + 1)))) from by rw [← nums_set]; exact HO.out.put i _)
                have HB3 := hide (below_put (i := i) HB.out (Nat.le_refl _) (.int .i64 (max x (y + 1))))
                clear hmax
                have HFi := hide (rfind_any (show RdIn wr.drew S g D from HR.out.below ⟨HB.out.os, HB.out.tape, HB.out.output, HB.out.size, HB.out.block⟩) (by have := Hw.out.len; omega) p)
                rw [hq] at HFi
                have d1 : decide ((k : Int) < (m : Int)) = true := decide_eq_true (by omega)
                have hqi : (q : Int) < (N : Int) := by omega
                have hii : (i : Int) < (N : Int) := by omega
                clear hp hpp cp0 hq hol hx hy HS HO
                go_wp2
                have hc : wr.drew.cell? ⟨g, 0, none⟩ = some (.slice (some ⟨b, 0, none⟩) N cg) ∧ wr.drew.cell? ⟨b, i * 3 + 1, none⟩ = some (.slice (some ⟨pb, po, none⟩) m c') ∧ wr.drew.cell? ⟨pb, po + k, none⟩ = some (.string ⟨p.toArray⟩) ∧ wr.drew.cell? ⟨w.heap.size, i, none⟩ = some (.int .i64 x) ∧ wr.drew.cell? ⟨w.heap.size, q, none⟩ = some (.int .i64 y) := ⟨k0, k2, cp1, cxi, cyq⟩
                refine Rg.wp_region_ord (fun w' => w'.cell? ⟨g, 0, none⟩ = some (.slice (some ⟨b, 0, none⟩) N cg) ∧ w'.cell? ⟨b, i * 3 + 1, none⟩ = some (.slice (some ⟨pb, po, none⟩) m c') ∧ w'.cell? ⟨pb, po + k, none⟩ = some (.string ⟨p.toArray⟩) ∧ w'.cell? ⟨w.heap.size, i, none⟩ = some (.int .i64 x) ∧ w'.cell? ⟨w.heap.size, q, none⟩ = some (.int .i64 y)) [(0, true), (1, true), (2, true), (3, true), (4, true), (5, true), (6, true), (7, true), (8, true), (9, true), (10, true), (11, true), (12, true), (13, true), (14, true), (15, true), (16, true), (17, true), (18, true), (19, false), (20, true), (21, true), (22, true), (23, true), (24, true), (25, false)] (by kernel_rfl) (by kernel_rfl) ?_
                simp only [Rg.pick, List.map_cons, List.map_nil, List.getD_cons_zero, List.getD_cons_succ]
                iterate 19 (refine Rg.ord_quiet (v := ?_) rfl (fun w' hS => ?_) hc ?_; rotate_left; (obtain ⟨s1, s2, s3, s4, s5⟩ := hS; go_simp; with_reducible rfl); simp only [Act.put, List.setIfInBounds_toArray, List.set_cons_succ, List.set_cons_zero])
                refine Rg.ord_loud (by rfl) (fun K hK => ?_)
                go_simp
                refine HFi.out.mono ?_
                rintro e w9 ⟨rfl, rfl⟩
                refine hK _ _ (fun _ => hc) ?_
                clear hK K HFi
                iterate 5 (refine Rg.ord_quiet (v := ?_) rfl (fun w' hS => ?_) hc ?_; rotate_left; (obtain ⟨s1, s2, s3, s4, s5⟩ := hS; go_simp; with_reducible rfl); simp only [Act.put, List.setIfInBounds_toArray, List.set_cons_succ, List.set_cons_zero])
                have hc4 := hc.2.2.2.1
                refine Rg.ord_loud (by rfl) (fun K hK => ?_)
                go_simp
                refine hK _ _ (fun h => absurd h (by decide +kernel)) ?_
                refine Rg.ord_nil ?_
                clear hK K hc hc4 k0 k2 k3 cp1 cxi cyq hfi
                go_wp2
                first
                  | exact ⟨⟨k + 1, out.set i (max x (y + 1)), by go_num, by omega, by show Hid _; exact hide HO2.out, by show Hid _; exact HS2, by show Hid _; exact hide ⟨HB2.out.os, HB2.out.tape, HB2.out.output, HB2.out.size, HB2.out.block⟩⟩, by simp [intOf]; omega⟩
                  | exact ⟨⟨k + 1, out.set i (max x (y + 1)), by go_num, by omega, by show Hid _; exact hide HO3.out, by show Hid _; exact HS2, by show Hid _; exact hide ⟨HB3.out.os, HB3.out.tape, HB3.out.output, HB3.out.size, HB3.out.block⟩⟩, by simp [intOf]; omega⟩
              · obtain rfl : k = m := by omega
                have HS2 := hide (HS.out.1.past HI.out HDi.out HOn.out (by rw [← HM.out]; exact HS.out.2))
                have d1 : decide ((k : Int) < (k : Int)) = false := by simp
                go_wp2
                exact ⟨⟨i + 1, out, by go_num, by omega, by show Hid _; exact HO, by show Hid _; exact HS2, by show Hid _; exact HB⟩, by simp [intOf]; omega⟩
        · obtain rfl : i = N := by omega
          have HS2 := hide (show Rs D (t + 1) 0 out from Rs.turn (by rw [← HN.out]; exact HS.out))
          go_wp2
          exact ⟨⟨t + 1, out, by go_num, by omega, by show Hid _; exact HO, by show Hid _; exact HS2, by show Hid _; exact HB⟩, by simp [intOf]; omega⟩
    · obtain rfl : t = N := by omega
      go_wp2
      go_ret
      exact ⟨out, w.heap.size, rfl, HO.out, HS.out, HB.out⟩
set_option maxRecDepth 100000 in
set_option maxHeartbeats 4000000 in
theorem rlevel_any {w : World} {S : Nat → Prop} {g : Nat} {D : List Nd} (h : RdIn w S g D) (hI : Inv D) (hw : Fw D) (id : Bs) :
    Calls Try.prog 24 #[pt g, .string ⟨id.toArray⟩] w fun y w' => y = .returned (.int .i64 (level D id)) ∧ Below w.heap.size w w' := by
  have hl : D.length ≤ 1000000 := by have := hw.len; omega
  have HH := hide (rhas_any h hl id)
  have HLv := hide (rlevels_any h hI hw)
  have HR := hide h
  have HI := hide hI
  have HL := hide hl
  have HLe := hide hw.len
  clear h hI hw hl
  go_enter Try.func24, Try.ntmps24
  go_wp2_with fail
  refine HH.out.mono ?_
  rintro e w1 ⟨rfl, rfl⟩
  cases hh : has D id with
  | false =>
    have HF := hide (show level D id = -1 from by unfold level; rw [hh]; rfl)
    clear HH hh
    go_wp2
    go_ret
    exact ⟨by rw [HF.out]; rfl, Below.refl _ _⟩
  | true =>
    have hg := has_get D id
    rw [hh] at hg
    rcases fnd_get (D := D) (id := id) with ⟨i, n, e1, e2, e3, e4, e5⟩ | ⟨e1, e2⟩
    · rw [e4] at hg
      have hon : n.on = true := hg.symm
      have HAt := hide (And.intro e2 (And.intro hon e3))
      have HFd := hide e1
      obtain ⟨N, hN⟩ : ∃ N, N = D.length := ⟨_, rfl⟩
      rw [← hN] at HLv e5
      have HN := hide hN
      clear HH hh hg e1 e2 e3 e4 hon hN
      go_wp2_with fail
      refine HLv.out.mono ?_
      rintro e w2 ⟨out, ob, rfl, hr, hs, hb⟩
      have hs2 : Rs D D.length 0 out := by rw [← HN.out]; exact hs
      have ho := Rs.levels HI.out hs2 HAt.out.1 HAt.out.2.1
      rw [HAt.out.2.2] at ho
      have hc : w2.cell? ⟨ob, i, none⟩ = some (.int .i64 (level D id)) := (hr.cell i).trans (nums_at ho)
      have hfd := rfind_any (HR.out.below hb) HL.out id
      rw [HFd.out] at hfd
      have HFi := hide hfd
      have HB := hide hb
      obtain ⟨lv, hlv⟩ : ∃ z, z = level D id := ⟨_, rfl⟩
      rw [← hlv] at hc
      have HLV := hide hlv
      have hii : (i : Int) < (N : Int) := by omega
      clear hr hs hs2 ho hb HLv hfd hlv HAt HFd
      go_wp2_with fail
      refine HFi.out.mono ?_
      rintro e w3 ⟨rfl, rfl⟩
      clear HFi
      go_wp2
      go_ret
      exact ⟨by rw [← HLV.out]; rfl, HB.out⟩
    · rw [e2] at hg
      exact absurd hg (by decide)
end Go.Proofs.Ytplmcpdlommmaaa.Oq
