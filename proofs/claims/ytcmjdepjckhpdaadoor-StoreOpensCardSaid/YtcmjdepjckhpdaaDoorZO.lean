/-
  The law StorePlays, over any store that keeps the contract.
-/
import Derived.Test.YtcmjdepjckhpdaaDoorQZK
namespace Go.Proofs.YtcmjdepjckhpdaaDoor.So
open Go Go.RowKit Kt Kg Wr Lw Sha Dk Dg

theorem conv_str (s : List UInt8) (w : World) : ∃ cap ob, (convert 9 38 (.string ⟨s.toArray⟩)).run Tryd.prog w = .ok (.slice (some ⟨w.heap.size, 0, none⟩) s.length cap) (w.drew.alloc ob) ∧ Sl (w.drew.alloc ob) (fun b => b = w.heap.size) (some ⟨w.heap.size, 0, none⟩) cap s := by
  refine ⟨_, _, run_bytes_of_string w 9 38 5 ⟨s.toArray⟩ Tryd.underlying9 Tryd.underlying38 Tryd.underlying5, ?_, fun hn => ⟨_, 0, rfl, rfl, fun j hj => ?_⟩⟩
  · have := grownCap_ge w (ByteArray.size ⟨s.toArray⟩) 0 5
    simpa [ByteArray.size] using this
  · rw [Nat.zero_add, cell_of_row _ w.heap.size j _ _ _ (heap_alloc_new w.drew _), bytesRow_at _ _ _ (by simpa using hj)]
    simp [List.getElem?_eq_getElem hj]
theorem vs_to {w w' : World} {_P : Nat → Prop} {A : Option Addr} {c : Nat} {vs : List Value} (h : Vs w (fun b => b < w.heap.size) A c vs) (hb : Below w.heap.size w w') : Vs w' (fun b => b < w'.heap.size) A c vs :=
  ⟨h.1, fun h0 => by
    obtain ⟨b, o, e, hp, hc⟩ := h.2 h0
    exact ⟨b, o, e, Nat.lt_of_lt_of_le hp hb.size, fun j v hj => (World.cell?_of_block (a := ⟨b, o + j, none⟩) (hb.block b hp)).trans (hc j v hj)⟩⟩
theorem rt_fuse {w : World} {T : Nat → Prop} {h : Nat} {k : Bs} {room : Nat} {has : Bool} {f f' : Int} {dead : Bool} (hr : RtIn w T h ⟨k, room, has, f, dead⟩) :
    RtIn ((w.setCell ⟨h, 2, none⟩ (.bool true)).setCell ⟨h, 3, none⟩ (.int .i64 f')) T h ⟨k, room, true, f', dead⟩ ∧ Oth T w ((w.setCell ⟨h, 2, none⟩ (.bool true)).setCell ⟨h, 3, none⟩ (.int .i64 f')) := by
  obtain ⟨v, h1, h2, h3, h4⟩ := hr
  have o1 := (Oth.refl T w).put (g := h) (i := 2) (.inl h3) (.bool true)
  have o2 := o1.put (g := h) (i := 3) (.inl h3) (.int .i64 f')
  refine ⟨⟨v, (h1.put 2 (.bool true)).put 3 (.int .i64 f'), ?_, h3, fun k hk => Nat.lt_of_lt_of_le (h4 k hk) o2.size⟩, o2⟩
  refine h2.move fun b hb _ => ?_
  exact (Below.heap_setCell _ ⟨h, 3, none⟩ _ b hb.2).trans (Below.heap_setCell w ⟨h, 2, none⟩ _ b hb.2)
theorem rel_fuse (n fuse : Nat) (hf : fuse < 65536) : Rel (fused (new n) (fuse : Int)) ⟨[], n, true, (fuse : Int), false⟩ := by
  have e : (fused (new n) (fuse : Int)).fuse = (fuse : Int) := by
    show (if (fuse : Int) < -1 then (-1 : Int) else (fuse : Int)) = (fuse : Int)
    rw [if_neg (show ¬ ((fuse : Int) < -1) by omega)]
  exact ⟨rfl, rfl, rfl, by rw [e]; exact (decide_eq_true (show (fuse : Int) ≠ -1 by omega)).symm, fun _ => e.symm, Int.natCast_nonneg _, show (fuse : Int) ≤ 9223372036854775807 by omega⟩
/-- the two sides in a round -/
structure PL (In : World → (Nat → Prop) → Nat → Nat → List Bs → Prop) (w0 w : World) (gs g rs h : Nat) (x : Ss) (r : Rt) (L : List Bs) : Prop where
  low : Below w0.heap.size w0 w
  sides : ∃ U V, PS In w0 w U gs g x ∧ DS w0 w V rs h r L ∧ ∀ k, U k → ¬ V k
  rel : Rel x.s r
  all : x.L = L
  good : Good x
set_option maxRecDepth 100000 in
set_option maxHeartbeats 8000000 in
theorem lawPlays_any {In : World → (Nat → Prop) → Nat → Nat → List Bs → Prop} (room fuse : Nat) (l : List Bs) (A : Option Addr) (c : Nat) (P : Nat → Prop) (w : World) (C : Ct w In) (hT : TabR w) (hs : Vs w P A c (texts l)) (hl : l.length ≤ 9223372036854775807) (_hr : room < 65536) (hf : fuse < 65536) :
    Calls Tryd.prog 3 #[.slice A l.length c, .int .u16 (room : Int), .int .u16 (fuse : Int)] w fun y w' => y = .returned (.bool true) ∧ Below w.heap.size w w' := by
  have HC := hide C
  have HT := hide hT
  have Hs := hide (vs_low hs)
  have Hw := hide (swake_any w C hT)
  have Hl := hide hl
  obtain ⟨N, hN⟩ : ∃ N, N = l.length := ⟨_, rfl⟩
  have HN := hide hN
  rw [← hN] at hl ⊢
  clear C hT hs hN
  have hrm : (room : Int).tmod 1001 = ((room % 1001 : Nat) : Int) := by rw [Int.ofNat_tmod]; rfl
  obtain ⟨n, hn⟩ : ∃ n, n = room % 1001 := ⟨_, rfl⟩
  have hn2 : n ≤ 1000 := by omega
  rw [← hn] at hrm
  have hw1 : IntKind.u16.wrap (n : Int) = (n : Int) := by rw [IntKind.wrap_u16]; omega
  have hw2 : IntKind.i64.wrap (n : Int) = (n : Int) := IntWalk.i64_in _ (by omega)
  have hw3 : IntKind.i64.wrap (fuse : Int) = (fuse : Int) := IntWalk.i64_in _ (by omega)
  have Hn2 := hide hn2
  have HFs := hide hf
  clear hn hn2
  go_enter Tryd.func3, Tryd.ntmps3
  go_wp2_with fail
  refine Hw.out.mono ?_
  rintro y w1 ⟨rfl, hb1⟩
  have HB1 := hide hb1
  have HFew := hide (fewT_any l A c _ w1 (vs_keep Hs.out hb1) Hl.out)
  rw [← HN.out] at HFew
  clear hb1 Hw
  go_wp2_with fail
  refine HFew.out.mono ?_
  rintro y w2 ⟨rfl, hb2⟩
  have HB2 := hide (HB1.out.trans (hb2.mono HB1.out.size))
  clear hb2 HFew HB1
  cases hfe : fewT l with
  | false =>
    go_wp2
    go_ret
    exact ⟨rfl, HB2.out⟩
  | true =>
    have HFe := hide (fewT_spec hfe)
    clear hfe
    go_wp2_with fail
    refine (empty_any n (by have := Hn2.out; omega) w2).mono ?_
    rintro y w3 ⟨g, h, rfl, hd3, hr3, hg, hgh, hb3⟩
    have HB3 := hide (HB2.out.trans (hb3.mono HB2.out.size))
    have HR3 := hide hr3
    have HGH := hide hgh
    have HG := hide (Nat.le_trans HB2.out.size hg)
    have HOp := hide (HC.out.fresh2 HB3.out hd3 (by have := Hn2.out; omega) (fun k hk => by rw [hk]; exact HG.out))
    clear hd3 hr3 hg hgh hb3 HB2 hrm hw1 hw2
    go_wp2_with fail
    refine HOp.out.mono ?_
    rintro y w4 ⟨gs, S, Sd, rfl, hi4, hd4, hb4, hup4, hS4, hSd4, ho4, hap4⟩
    have HR4 := hide (HR3.out.oth ho4 fun k h1 h2 => by have := HGH.out; omega)
    have HB4 := hide hb4
    have HP4 := hide (show PS In w w4 (fun k => k < w4.heap.size ∧ k ≠ h) gs g ⟨new n, []⟩ from ⟨S, Sd, hi4, hd4, fun k hk => ⟨⟨hk.elim (HC.out.lt hi4 k) (hd4.lt k), by
      have hh := HR3.out.lt h rfl
      have := HGH.out
      rcases hk with z | z
      · have := hS4 k z; omega
      · rcases hSd4 k z with z | z <;> omega⟩, hup4 k hk⟩, hap4⟩)
    have HRo := hide (ropen_new HB4.out HR4.out (fun k hk => by rw [hk]; have := HG.out; have := HGH.out; omega) HT.out)
    clear hi4 hd4 hb4 hup4 hS4 hSd4 ho4 hap4 HOp HR3 HB3
    go_wp2_with fail
    refine HRo.out.mono ?_
    rintro y w5 ⟨rs, T, Td, rfl, hi5, hd5, hb5, hup5, hS5, hSd5, ho5, hap5⟩
    have HB5 := hide hb5
    have HP5 := hide (HP4.out.oth HC.out ho5 fun k _ h1 h2 => h1.2 h2)
    have HI5 := hide hi5
    have HD5 := hide hd5
    have HV5 := hide (show (∀ k, T k ∨ Td k → w.heap.size ≤ k) ∧ (∀ k, T k ∨ Td k → k = h ∨ w4.heap.size ≤ k) ∧ ∀ k, T k → ¬ Td k from ⟨hup5, fun k hk => hk.elim (fun z => .inr (hS5 k z)) (hSd5 k), hap5⟩)
    clear hi5 hd5 hb5 hup5 hS5 hSd5 ho5 hap5 HRo HP4 HR4 HB4
    obtain ⟨S, Sd, hi, hd, hu, ha⟩ := HP5.out
    have HI := hide hi
    have HFu := hide (fuse_any hd (fuse : Int))
    have HU := hide hu
    have HA := hide ha
    clear hi hd hu ha HP5
    go_wp2_with fail
    refine HFu.out.mono ?_
    rintro y w6 ⟨rfl, hd6, ho6⟩
    have HB6 := hide (oth_low ho6 HB5.out fun k hk => (HU.out k (.inr hk)).2)
    have hD6 : ∀ k, T k ∨ Td k → ¬ Sd k := fun k hk hs => by
      have h1 := (HU.out k (.inr hs)).1
      rcases HV5.out.2.1 k hk with z | z
      · exact h1.2 z
      · have := h1.1; omega
    have HI6 := hide (HI5.out.oth ho6 fun k hk => hD6 k (.inl hk))
    have HR6 := hide (HD5.out.oth ho6 fun k hk => hD6 k (.inr hk))
    have HP6 := hide (show PS In w w6 (fun k => k < w4.heap.size ∧ k ≠ h) gs g ⟨fused (new n) (fuse : Int), []⟩ from ⟨S, Sd, HC.out.oth HI.out ho6 HA.out, hd6, HU.out, HA.out⟩)
    have h26 := HR6.out
    obtain ⟨vv, hrow, hov, _⟩ := h26
    have hrow : Row w6 h tR [vv, .int .i64 (n : Int), .bool false, .int .i64 0, .bool false] := hrow
    have k2 : w6.cell? ⟨h, 2, none⟩ = some (.bool false) := hrow.cell 2
    have k3 : w6.cell? ⟨h, 3, none⟩ = some (.int .i64 0) := hrow.cell 3
    have f2 := hrow.free 2
    have f3 := hrow.free 3
    have HRt := hide (rt_fuse (f' := (fuse : Int)) HR6.out)
    obtain ⟨w7, hw7⟩ : ∃ z, z = (w6.setCell ⟨h, 2, none⟩ (.bool true)).setCell ⟨h, 3, none⟩ (.int .i64 (fuse : Int)) := ⟨_, rfl⟩
    rw [← hw7] at HRt
    have hVl : ∀ k, Td k → k = h ∨ w4.heap.size ≤ k := fun k hk => HV5.out.2.1 k (.inr hk)
    have HPL := hide (show PL In w w7 gs g rs h ⟨fused (new n) (fuse : Int), []⟩ ⟨[], n, true, (fuse : Int), false⟩ [] from
      ⟨oth_low HRt.out.2 HB6.out fun k hk => HV5.out.1 k (.inr hk), ⟨_, fun k => k = h ∨ w4.heap.size ≤ k, HP6.out.oth HC.out HRt.out.2 fun k _ h1 h2 => by rcases hVl k h2 with z | z; exact h1.2 z; have := h1.1; omega,
        ⟨T, Td, HI6.out.oth HRt.out.2 HV5.out.2.2, HRt.out.1, fun k hk => ⟨HV5.out.2.1 k hk, HV5.out.1 k hk⟩, HV5.out.2.2⟩, fun k h1 h2 => by rcases h2 with z | z; exact h1.2 z; have := h1.1; omega⟩, rel_fuse n fuse HFs.out, rfl, Good.new (fused_fit (new_fit (by have := Hn2.out; omega)) (by have := HFs.out; omega)) rfl⟩)
    have HW7 := hide hw7
    clear hd6 ho6 hD6 hrow hov hw7 hVl HRt HR6 HI6 HP6 HB6 HFu HA HU HI HV5 HI5 HD5 HB5
    go_wp2
    clear k2 k3 f2 f3 hw3
    go_loopw [15] (fun i wr => ∃ (k : Nat) (x : Ss) (r : Rt) (L : List Bs), i = .int .i64 k ∧ k ≤ N ∧ Hid (L.length ≤ k) ∧ Hid (PL In w wr gs g rs h x r L)) (fun i _ => N - (intOf i).toNat)
    case atStart => exact ⟨0, _, _, [], rfl, Nat.zero_le _, by show Hid _; exact hide (Nat.zero_le _), by show Hid _; rw [← HW7.out]; exact HPL⟩
    case round =>
      obtain ⟨k, x, r, L, rfl, hk, HLk, HP⟩ := hrel
      clear HPL HW7
      by_cases hlt : k < N
      · obtain ⟨b, hx⟩ : ∃ x, l[k]? = some x := ⟨_, List.getElem?_eq_getElem (by have := HN.out; omega)⟩
        have hb60 : b.length ≤ 60 := HFe.out.1 b (List.mem_of_getElem? hx)
        have Hb60 := hide hb60
        obtain ⟨bb, oo, rfl, hpb, cx⟩ := vs_at Hs.out hx
        have HX := hide (fun (wz : World) (hz : Below w.heap.size w wz) => show wz.cell? ⟨bb, oo + k, none⟩ = some (.string ⟨b.toArray⟩) from (World.cell?_of_block (a := ⟨bb, oo + k, none⟩) (hz.block bb hpb)).trans cx)
        have hal := HP.out.all
        subst hal
        obtain ⟨U, V, hps, hds, hUV⟩ := HP.out.sides
        have HUV := hide hUV
        have hrl := rel14 (L := x.L) (b := b) HP.out.rel HP.out.good.fit
        have HRl := hide hrl
        have HGo := hide (HP.out.good.put b)
        have HGr := hide (put_grows (x := x) (b := b))
        obtain ⟨cap1, ob1, hcv1, hsl1⟩ := conv_str b wr
        obtain ⟨q1, hq1⟩ : ∃ z, z = wr.heap.size := ⟨_, rfl⟩
        obtain ⟨wa, hwa⟩ : ∃ z, z = (wr.alloc ob1).drew := ⟨_, rfl⟩
        have hba : Below wr.heap.size wr wa := by rw [hwa]; exact ((Below.refl _ wr).alloc (Nat.le_refl _) _).drew
        have hsl1 : Sl wa (fun z => z = q1) (some ⟨q1, 0, none⟩) cap1 b := by rw [hwa, hq1]; exact hsl1
        have HBa := hide (HP.out.low.trans (hba.mono HP.out.low.size))
        have HPa := hide ((hps.imp (V := fun k => U k ∧ k < q1) HC.out fun k hk hu => ⟨hu, by rw [hq1]; exact hk⟩).below HC.out hba)
        have HDa := hide ((hds.imp (V := fun k => V k ∧ k < q1) fun k hk hu => ⟨hu, by rw [hq1]; exact hk⟩).below hba)
        have HSl := hide hsl1
        have HWa := hide hwa
        have HQ1 := hide hq1
        have HQa := hide (show q1 ≤ wa.heap.size by rw [hq1]; exact hba.size)
        obtain ⟨n1, hn1⟩ : ∃ z, z = b.length := ⟨_, rfl⟩
        have HPut := hide (HPa.out.put HC.out HBa.out HP.out.good.fit b _ _ _ HSl.out (fun k hk hu => by have := hu.2; omega) (by omega) (by have := HLk.out; have := HFe.out.2; have := HN.out; omega))
        have cx1 := HX.out wr HP.out.low
        rw [← hn1] at hcv1 HPut
        rw [← hq1] at hcv1
        have HN1 := hide hn1
        clear hx hb60 hpb cx hps hds hUV hrl hsl1 hwa hba hq1 hn1
        go_wp2_with fail
        rw [← HWa.out]
        refine HPut.out.mono ?_
        clear hcv1 cx1 HPut
        rintro y w8 ⟨rfl, hp8, ho8, hb8⟩
        have HP8 := hide hp8
        have HB8 := hide hb8
        have HQ8 := hide (show q1 ≤ w8.heap.size from Nat.le_trans HQa.out ho8.size)
        have HD8 := hide (HDa.out.oth ho8 fun z _ h1 h2 => HUV.out z h2.1 h1.1)
        obtain ⟨cap2, ob2, hcv2, hsl2⟩ := conv_str b w8
        obtain ⟨q2, hq2⟩ : ∃ z, z = w8.heap.size := ⟨_, rfl⟩
        obtain ⟨wb, hwb⟩ : ∃ z, z = (w8.alloc ob2).drew := ⟨_, rfl⟩
        have hbb : Below w8.heap.size w8 wb := by rw [hwb]; exact ((Below.refl _ w8).alloc (Nat.le_refl _) _).drew
        have hsl2 : Sl wb (fun z => z = q2) (some ⟨q2, 0, none⟩) cap2 b := by rw [hwb, hq2]; exact hsl2
        have HBb := hide (HB8.out.trans (hbb.mono HB8.out.size))
        have HPb := hide ((hp8.imp (V := fun z => ((U z ∧ z < q1) ∨ wa.heap.size ≤ z) ∧ z < q2) HC.out fun z hz hu => ⟨hu, by rw [hq2]; exact hz⟩).below HC.out hbb)
        have HDb := hide (HD8.out.below hbb)
        have HSl2 := hide hsl2
        have HWb := hide hwb
        have HQ2 := hide (show q1 ≤ q2 by rw [hq2]; exact HQ8.out)
        have HQb := hide (show q2 ≤ wb.heap.size by rw [hq2]; exact hbb.size)
        have HPut := hide (HDb.out.put HBb.out (HP.out.rel.fits HP.out.good.fit) HT.out b _ _ _ HSl2.out (fun z hz hu => by have := hu.2; have := HQ2.out; omega) (by have := HLk.out; have := HFe.out.2; have := HN.out; omega))
        have cx2 := HX.out w8 HB8.out
        rw [← HN1.out] at hcv2 HPut
        rw [← hq2] at hcv2
        clear hp8 ho8 hb8 hsl2 hq2 hwb hbb HD8 HP8 HDa HPa
        go_wp2_with fail
        rw [← HWb.out]
        refine HPut.out.mono ?_
        clear hcv2 cx2 HPut
        rintro y w9 ⟨rfl, hd9, ho9, hb9⟩
        have HP9 := hide (HPb.out.oth HC.out ho9 fun z _ h1 h2 => by
          rcases h1.1 with e | e
          · exact HUV.out z e.1 h2.1
          · have := h2.2; have := HQa.out; omega)
        rw [← HRl.out.1]
        have HPx := hide (show PS In w w9 _ gs g (So.put x b).1 from HP9.out)
        obtain ⟨S, Sd, q1', q2', q3', q4'⟩ := HPx.out
        obtain ⟨T, Td, p1', p2', p3', p4'⟩ := hd9
        have hap9 : ∀ z, (S z ∨ Sd z) → ¬ (T z ∨ Td z) := fun z h1 h2 => by
          have a1 := (q3' z h1).1
          have a2 := (p3' z h2).1
          have hlt := h1.elim (HC.out.lt q1' z) (q2'.lt z)
          rcases a2 with a2 | a2
          · rcases a1.1 with a3 | a3
            · exact HUV.out z a3.1 a2.1
            · have := a2.2; have := HQa.out; omega
          · have := a1.2; have := HQb.out; omega
        have HIn := hide q1'
        have HDk := hide q2'
        have HRs := hide p1'
        have HRt := hide p2'
        have HU3 := hide q3'
        have HV3 := hide p3'
        have HA4 := hide q4'
        have HB4 := hide p4'
        have HAp := hide hap9
        obtain ⟨v0, hrow, hown0, _⟩ := p2'
        obtain ⟨A0, k0, rfl, hs0⟩ := hown0.sl
        have HS0 := hide hs0.bound
        have HB9 := hide hb9
        have hk9 := HRl.out.2.1.k
        have hdd9 := HRl.out.2.1.dead
        have HGo' := hide HGo.out.fit
        obtain ⟨d, hd⟩ : ∃ d, d = (So.put x b).1.s.dead := ⟨_, rfl⟩
        obtain ⟨m, hm⟩ : ∃ m, m = (So.put x b).1.s.k.length := ⟨_, rfl⟩
        obtain ⟨I, hI⟩ : ∃ I, I = (So.put x b).2.1 := ⟨_, rfl⟩
        obtain ⟨e, he⟩ : ∃ e, e = (So.put x b).2.2 := ⟨_, rfl⟩
        have c0 : w9.cell? ⟨h, 0, none⟩ = some (.slice A0 m k0) := by
          rw [hm, ← hk9]
          exact hrow.cell 0
        have c4 : w9.cell? ⟨h, 4, none⟩ = some (.bool d) := by
          rw [hd, ← hdd9]
          exact hrow.cell 4
        have HDead := hide (dead_any (show DkIn w9.drew Sd g (So.put x b).1.s from HDk.out))
        have HBy := hide (bytes_call (show DkIn w9.drew Sd g (So.put x b).1.s from HDk.out) HGo'.out)
        rw [← hd] at HDead
        rw [← hI, ← he]
        have b1 : (I != I) = false := by simp
        have b2 : ((e : Int) != (e : Int)) = false := by simp
        have b3 : (d != d) = false := by simp
        have Hk9 := hide hk9
        have Hm := hide hm
        clear q1' q2' q3' q4' p1' p3' p4' hap9 hrow hown0 hs0 hb9 hk9 hdd9 hd hm hI he ho9
        go_wp2
        refine Rg.wp_region_ord (fun w' => w'.cell? ⟨h, 0, none⟩ = some (.slice A0 m k0) ∧ w'.cell? ⟨h, 4, none⟩ = some (.bool d)) [(0, true), (1, true), (2, true), (3, true), (4, true), (5, true), (6, true), (7, true), (8, true), (9, true), (11, true), (12, true), (13, true), (14, true), (10, false), (15, true), (16, true), (17, true), (18, true), (20, true), (21, true), (22, true), (23, true), (19, false), (24, false), (25, true), (26, true)] (by kernel_rfl) (by kernel_rfl) ?_
        simp only [Rg.pick, List.map_cons, List.map_nil, List.getD_cons_zero, List.getD_cons_succ]
        iterate 4 (refine Rg.ord_quiet (v := ?_) rfl (fun w' hS => ?_) ⟨c0, c4⟩ ?_; rotate_left; (obtain ⟨s1, s2⟩ := hS; go_simp; with_reducible rfl); simp only [Act.put, List.setIfInBounds_toArray, List.set_cons_succ, List.set_cons_zero])
        iterate 3 (refine Rg.ord_guarded (v := ?_) (by rfl) (fun w' hS => ?_) ⟨c0, c4⟩ ?_; rotate_left; (obtain ⟨s1, s2⟩ := hS; go_simp; with_reducible rfl); simp only [Act.put, List.setIfInBounds_toArray, List.set_cons_succ, List.set_cons_zero])
        iterate 2 (refine Rg.ord_quiet (v := ?_) rfl (fun w' hS => ?_) ⟨c0, c4⟩ ?_; rotate_left; (obtain ⟨s1, s2⟩ := hS; go_simp; with_reducible rfl); simp only [Act.put, List.setIfInBounds_toArray, List.set_cons_succ, List.set_cons_zero])
        iterate 5 (refine Rg.ord_guarded (v := ?_) (by rfl) (fun w' hS => ?_) ⟨c0, c4⟩ ?_; rotate_left; (obtain ⟨s1, s2⟩ := hS; go_simp; with_reducible rfl); simp only [Act.put, List.setIfInBounds_toArray, List.set_cons_succ, List.set_cons_zero])
        refine Rg.ord_loud (by rfl) (fun K hK => ?_)
        go_simp
        refine HDead.out.mono ?_
        rintro y w10 ⟨rfl, rfl⟩
        refine hK _ _ (fun _ => ⟨c0, c4⟩) ?_
        clear hK K HDead
        iterate 1 (refine Rg.ord_guarded (v := ?_) (by rfl) (fun w' hS => ?_) ⟨c0, c4⟩ ?_; rotate_left; (obtain ⟨s1, s2⟩ := hS; go_simp; with_reducible rfl); simp only [Act.put, List.setIfInBounds_toArray, List.set_cons_succ, List.set_cons_zero])
        iterate 2 (refine Rg.ord_quiet (v := ?_) rfl (fun w' hS => ?_) ⟨c0, c4⟩ ?_; rotate_left; (obtain ⟨s1, s2⟩ := hS; go_simp; with_reducible rfl); simp only [Act.put, List.setIfInBounds_toArray, List.set_cons_succ, List.set_cons_zero])
        iterate 5 (refine Rg.ord_guarded (v := ?_) (by rfl) (fun w' hS => ?_) ⟨c0, c4⟩ ?_; rotate_left; (obtain ⟨s1, s2⟩ := hS; go_simp; with_reducible rfl); simp only [Act.put, List.setIfInBounds_toArray, List.set_cons_succ, List.set_cons_zero])
        refine Rg.ord_loud (by rfl) (fun K hK => ?_)
        go_simp
        refine HBy.out.mono ?_
        rintro y w10 ⟨v10, rfl, hown, hb10⟩
        obtain ⟨A1, k1, rfl, hs1⟩ := hown.sl
        have hbd : Below w9.heap.size w9 w10 := (Below.refl _ w9).drew.trans hb10
        have HB10 := hide hbd
        have HCmp := hide (bytes_two (So.put x b).1.s.k (rput14 r x.L b).1.1.k A1 A0 (So.put x b).1.s.k.length m k1 k0 _ _ w10 hs1 (HS0.out.move (w' := w10) fun z hz _ => hbd.block z hz.2) rfl (by rw [Hk9.out]; exact Hm.out) (by have := HGo'.out.1; have := HGo'.out.2.1; omega))
        rw [Hk9.out, decide_eq_true rfl, ← Hm.out] at HCmp
        rw [← Hm.out]
        have d0 : w10.cell? ⟨h, 0, none⟩ = some (.slice A0 m k0) := (World.cell?_of_block (a := ⟨h, 0, none⟩) (hbd.block h (World.block_lt_of_cell? w9 _ c0))).trans c0
        have d4 : w10.cell? ⟨h, 4, none⟩ = some (.bool d) := (World.cell?_of_block (a := ⟨h, 4, none⟩) (hbd.block h (World.block_lt_of_cell? w9 _ c4))).trans c4
        clear hown hb10 hs1 hbd c0 c4 HBy
        refine hK _ _ (fun _ => ⟨d0, d4⟩) ?_
        clear hK K
        refine Rg.ord_loud (by rfl) (fun K hK => ?_)
        go_simp
        refine HCmp.out.mono ?_
        rintro y w11 ⟨rfl, hb11⟩
        have d0' : w11.cell? ⟨h, 0, none⟩ = some (.slice A0 m k0) := (World.cell?_of_block (a := ⟨h, 0, none⟩) (hb11.block h (World.block_lt_of_cell? w10 _ d0))).trans d0
        have d4' : w11.cell? ⟨h, 4, none⟩ = some (.bool d) := (World.cell?_of_block (a := ⟨h, 4, none⟩) (hb11.block h (World.block_lt_of_cell? w10 _ d4))).trans d4
        have HB11 := hide (HB10.out.trans (hb11.mono HB10.out.size))
        clear hb11 HCmp d0 d4
        refine hK _ _ (fun _ => ⟨d0', d4'⟩) ?_
        clear hK K
        iterate 1 (refine Rg.ord_guarded (v := ?_) (by rfl) (fun w' hS => ?_) ⟨d0', d4'⟩ ?_; rotate_left; (obtain ⟨s1, s2⟩ := hS; go_simp; with_reducible rfl); simp only [Act.put, List.setIfInBounds_toArray, List.set_cons_succ, List.set_cons_zero])
        iterate 1 (refine Rg.ord_quiet (v := ?_) rfl (fun w' hS => ?_) ⟨d0', d4'⟩ ?_; rotate_left; (obtain ⟨s1, s2⟩ := hS; go_simp; with_reducible rfl); simp only [Act.put, List.setIfInBounds_toArray, List.set_cons_succ, List.set_cons_zero])
        refine Rg.ord_nil ?_
        have hfin : PL In w w11 gs g rs h (So.put x b).1 (rput14 r x.L b).1.1 (rput14 r x.L b).1.2 :=
          ⟨HB9.out.trans (HB11.out.mono HB9.out.size), ⟨fun z => (S z ∨ Sd z), fun z => (T z ∨ Td z),
            ⟨S, Sd, HC.out.below HIn.out HB11.out, HDk.out.below HB11.out, fun z hz => ⟨hz, (HU3.out z hz).2⟩, HA4.out⟩,
            ⟨T, Td, HRs.out.below HB11.out, HRt.out.below HB11.out, fun z hz => ⟨hz, (HV3.out z hz).2⟩, HB4.out⟩, HAp.out⟩, HRl.out.2.1, HRl.out.2.2, HGo.out⟩
        have hlen : (rput14 r x.L b).1.2.length ≤ k + 1 := by
          rw [← HRl.out.2.2]
          have := HLk.out
          rcases HGr.out with z | z
          · rw [z]; omega
          · rw [z.1, List.length_append, List.length_cons, List.length_nil]; omega
        have HFin := hide hfin
        have HLen := hide hlen
        clear hfin hlen
        go_wp2
        exact ⟨⟨k + 1, _, _, _, by go_num, by omega, by show Hid _; exact HLen, by show Hid _; exact HFin⟩, by simp [intOf]; omega⟩
      · obtain rfl : k = N := by omega
        obtain ⟨U, V, ⟨S1, S2, q1, q2, q3, q4⟩, ⟨T1, T2, p1, p2, p3, p4⟩, _⟩ := HP.out.sides
        rw [HP.out.all] at q1
        have hnd := HP.out.good.once
        rw [HP.out.all] at hnd
        have HSm := hide (same_any HC.out HP.out.low q1 p1 (by have := HLk.out; have := HFe.out.2; have := HN.out; omega) hnd)
        clear q1 q2 q3 q4 p1 p2 p3 p4 hnd
        go_wp2_with fail
        refine HSm.out.mono ?_
        rintro y w8 ⟨rfl, hb8⟩
        have HB8 := hide (HP.out.low.trans (hb8.mono HP.out.low.size))
        clear hb8 HSm
        go_wp2
        go_ret
        exact ⟨rfl, HB8.out⟩
end Go.Proofs.YtcmjdepjckhpdaaDoor.So
