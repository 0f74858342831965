/-
  The reference of trees: a form's tree.
-/
import Derived.BigQuiet
import Derived.Test.YtlplgkdoiinfhaaDoorQ5
import Derived.Test.YtlplgkdoiinfhaaDoorQ10
import Derived.Test.YtlplgkdoiinfhaaDoorQ19
import Derived.Test.YtlplgkdoiinfhaaDoorQ18
import Derived.Test.YtlplgkdoiinfhaaDoorQ7
namespace Go.Proofs.YtlplgkdoiinfhaaDoor.Tr
open Go Go.RowKit Kt Lw Li Lx Df Wr

theorem OwF.only {S : Nat → Prop} {w w' : World} {B : Nat} {v : Value} {L : List Fl} (h : OwF w B v L) (ho : Only S w w') (hv : ∀ g, v.ownBlock = some g → ¬ S g) : OwF w' B v L := by
  refine ⟨h.1, ?_⟩
  rcases h.2 with ⟨h1, h2⟩ | ⟨g, cap, cur, hv', h1, h2, h3⟩
  · exact .inl ⟨h1, h2⟩
  · exact .inr ⟨g, cap, cur, hv', h1, (ho.block g (Array.getElem?_eq_some_iff.1 h2).1 (hv g (by rw [hv']; rfl))).trans h2, h3⟩
theorem own_only {S : Nat → Prop} {w w' : World} {B : Nat} {E : TypeId} {v : Value} {l : Bs} (h : Own w B E v l) (ho : Only S w w') (hv : ∀ g, v.ownBlock = some g → ¬ S g) : Own w' B E v l := by
  refine ⟨h.1, ?_⟩
  rcases h.2 with ⟨h1, h2⟩ | ⟨g, cap, cur, hv', h1, h2, h3⟩
  · exact .inl ⟨h1, h2⟩
  · exact .inr ⟨g, cap, cur, hv', h1, (ho.block g (Array.getElem?_eq_some_iff.1 h2).1 (hv g (by rw [hv']; rfl))).trans h2, h3⟩
theorem rr_fail {w : World} {B g : Nat} {bs : Bs} {at_ e : Nat} (h : RR w B g bs at_ e) : w.cell? ⟨g, 2, none⟩ = some (.int .i64 (e : Int)) := by
  obtain ⟨A, c, hr, _⟩ := h
  exact hr.cell 2
theorem rr_grown {w w' : World} {B g : Nat} {bs : Bs} {at_ e : Nat} {r : Option Nat} (h : RR w B g bs at_ e) (hg : w.grownBy w' r) (hr : ∀ b, r = some b → B ≤ b ∧ b ≠ g) : RR w' B g bs at_ e := by
  obtain ⟨A, c, hrow, hs, hB, h1, h2⟩ := h
  refine ⟨A, c, ?_, hs.move fun b hb hlt => hg.block b hlt fun e => ?_, hB, h1, h2⟩
  · exact (hg.block g hrow.lt fun e => (hr g e.symm).2 rfl).trans hrow
  · have := (hr b e.symm).1
    omega
theorem rr_ne {w : World} {B g : Nat} {bs : Bs} {at_ e : Nat} (h : RR w B g bs at_ e) {B' : Nat} {v : Value} {L : List Fl} (k : OwF w B' v L) : ∀ b, v.ownBlock = some b → b ≠ g := by
  obtain ⟨A, c, hrow, _⟩ := h
  exact OwF.ne hrow (by decide) k
theorem files_no {n : Nat} {b p b1 x b2 : Bs} {e1 e2 : Nat} (h1 : stepText b 0 200 = (p, b1, e1)) (h2 : stepText b1 e1 65536 = (x, b2, e2)) (he : e2 ≠ 0) : files (n + 1) b = ([], [], e2) := by
  unfold stepText at h1 h2
  rw [if_pos rfl] at h1
  cases h1
  rw [files]
  by_cases h0 : (textOf b 200).2.2 = 0
  · rw [if_pos h0] at h2
    cases h2
    rw [if_neg (by simpa using h0), if_pos he]
  · rw [if_neg h0] at h2
    cases h2
    rw [if_pos h0]
theorem files_yes {n : Nat} {b p b1 x b2 : Bs} {e1 e2 : Nat} (h1 : stepText b 0 200 = (p, b1, e1)) (h2 : stepText b1 e1 65536 = (x, b2, e2)) (he : e2 = 0) : files (n + 1) b = (⟨p, x⟩ :: (files n b2).1, (files n b2).2) := by
  unfold stepText at h1 h2
  rw [if_pos rfl] at h1
  cases h1
  rw [files]
  by_cases h0 : (textOf b 200).2.2 = 0
  · rw [if_pos h0] at h2
    cases h2
    rw [if_neg (by simpa using h0), if_neg (by simpa using he)]
  · rw [if_neg h0] at h2
    cases h2
    exact absurd he h0
theorem text_len (bs : Bs) (e : Nat) (most : Int) : (stepText bs e most).1.length ≤ bs.length := by
  unfold stepText
  split
  · unfold textOf
    split
    · simp
    · split
      · simp
      · split
        · simp
        · simp only [List.length_take, List.length_drop]
          omega
  · simp
set_option maxRecDepth 100000 in
set_option maxHeartbeats 4000000 in
theorem rdecode_any (bs : Bs) (A : Option Addr) (c : Nat) (w : World) (hs : Sl w (fun _ => True) A c bs) (hl : bs.length ≤ 4000) :
    Calls Tryd.prog 22 #[.slice A bs.length c] w fun y w' => ∃ v, y = .returned (.tuple #[v, .int .i64 ((decode bs).2 : Nat)]) ∧ OwF w' w.heap.size v (decode bs).1 ∧ Below w.heap.size w w' := by
  have Hs := hide hs.bound
  have Hl := hide hl
  clear hs hl
  go_enter Tryd.func22, Tryd.ntmps22
  go_wp2_with fail
  have hrow := Row.fresh w 66 #[.slice A bs.length c, .int .i64 0, .int .i64 0]
  have hb3 := (Below.refl w.heap.size w).alloc (Nat.le_refl _) (.cells #[.slice A bs.length c, .int .i64 0, .int .i64 0] 66)
  obtain ⟨w3, hw3⟩ : ∃ w3, w3 = w.alloc (.cells #[.slice A bs.length c, .int .i64 0, .int .i64 0] 66) := ⟨_, rfl⟩
  obtain ⟨g, hg⟩ : ∃ g, g = w.heap.size := ⟨_, rfl⟩
  rw [← hw3] at hrow hb3
  have Hb3 := hide hb3
  have Hs3 : Hid (RR w3 w.heap.size g bs 0 0) := hide ⟨A, c, by rw [hg]; exact hrow, (Hs.out.move fun b _ hlt => Hb3.out.block b hlt).imp fun b _ hb => hb.2, by rw [hg]; exact Nat.le_refl _, Nat.zero_le _, Hl.out⟩
  have Hg : Hid (w.heap.size ≤ g) := hide (by rw [hg]; exact Nat.le_refl _)
  rw [← hw3, ← hg]
  clear hw3 hg hrow hb3 Hs
  refine (rread_num Hs3.out).mono ?_
  rintro y w4 ⟨n, at1, e1, rfl, hs4, hst, ho4⟩
  rw [List.drop_zero] at hst
  have Hs4 := hide hs4
  have Hb4 := hide (ho4.below Hb3.out Hb3.out.size fun b hb h => by have := Hg.out; omega)
  have hstn : (numOf bs).1 = n ∧ bs.drop (numOf bs).2.1 = bs.drop at1 ∧ (numOf bs).2.2 = e1 := by
    unfold stepNum at hst
    rw [if_pos rfl] at hst
    simp only [Prod.mk.injEq] at hst
    exact hst
  obtain ⟨hn1, hn2, hn3⟩ := hstn
  have cf := rr_fail hs4
  clear hst hs4 ho4 Hs3 Hb3
  by_cases he : e1 = 0
  · subst he
    by_cases h1000 : 1000 < n
    · have Hd := hide (show decode bs = ([], 4) by unfold decode; rw [hn3, hn1, if_neg (by simp), if_pos h1000])
      have d1 : decide (1000 < (n : Int)) = true := decide_eq_true (by omega)
      have d2 : decide (1000 < n) = true := decide_eq_true h1000
      clear hn1 hn2 hn3 h1000
      go_wp2
      go_ret2
      exact ⟨_, by rw [Hd.out]; rfl, by rw [Hd.out]; exact OwF.nil _ _, Hb4.out⟩
    · have Hd := hide (show decode bs = if (files n (bs.drop at1)).2.2 ≠ 0 then ([], (files n (bs.drop at1)).2.2) else if (files n (bs.drop at1)).2.1 ≠ [] then ([], 5) else if right (files n (bs.drop at1)).1 then ((files n (bs.drop at1)).1, 0) else ([], 3) by
        unfold decode; rw [hn3, hn1, hn2, if_neg (by simp), if_neg h1000])
      have d1 : decide (1000 < (n : Int)) = false := decide_eq_false (by omega)
      have d2 : decide (1000 < n) = false := decide_eq_false h1000
      have hcv : IntKind.i64.wrap (n : Int) = (n : Int) := by rw [IntKind.wrap_i64]; omega
      have hn : n ≤ 1000 := by omega
      have Hn := hide hn
      clear hn1 hn2 hn3 h1000
      go_wp2
      go_loopw [6, 7] (fun s i wr => ∃ (k at_ : Nat) (v0 : Value) (L : List Fl), v0 = s ∧ k ≤ n ∧ i = .int .i64 k ∧ OwF wr w.heap.size v0 L ∧ Hid (L.length = k ∧ ∀ f ∈ L, f.path.length ≤ 4000) ∧ RR wr w.heap.size g bs at_ 0 ∧ Hid (files n (bs.drop at1) = (L ++ (files (n - k) (bs.drop at_)).1, (files (n - k) (bs.drop at_)).2)) ∧ Below w.heap.size w wr) (fun _ i _ => n - (intOf i).toNat)
      case atStart => exact ⟨0, at1, _, [], rfl, Nat.zero_le _, rfl, OwF.nil _ _, by show Hid _; exact hide ⟨rfl, fun f hf => by cases hf⟩, Hs4.out, by show Hid _; exact hide (by rw [List.nil_append, Nat.sub_zero]), Hb4.out⟩
      case round =>
        obtain ⟨k, at_, v, L, rfl, hk, rfl, hown, HL, hr, HF, hb⟩ := hrel
        clear Hs4 Hb4 cf
        have Hb := hide hb
        have Hown := hide hown
        have Hr := hide hr
        have HLk := hide HL.out.1
        clear hb hown hr
        by_cases hlt : k < n
        · obtain ⟨p, X1, e1, hp1⟩ : ∃ p X1 e1, stepText (bs.drop at_) 0 200 = (p, X1, e1) := ⟨_, _, _, rfl⟩
          obtain ⟨x, X2, e2, hx1⟩ : ∃ x X2 e2, stepText X1 e1 65536 = (x, X2, e2) := ⟨_, _, _, rfl⟩
          have Hp1 := hide hp1
          have Hpl := hide (show p.length ≤ 4000 by
            have := text_len (bs.drop at_) 0 200
            rw [hp1, List.length_drop] at this
            have h2 := Hl.out
            have h3 : p.length ≤ bs.length - at_ := this
            omega)
          have Hx1 := hide hx1
          have hmk : n - k = (n - (k + 1)) + 1 := by omega
          have Hno := hide (fun he => show files n (bs.drop at1) = (L, [], e2) by rw [HF.out, hmk, files_no hp1 hx1 he, List.append_nil])
          have Hyes := hide (fun he => show files n (bs.drop at1) = ((L ++ [⟨p, x⟩]) ++ (files (n - (k + 1)) X2).1, (files (n - (k + 1)) X2).2) by rw [HF.out, hmk, files_yes hp1 hx1 he, List.append_assoc]; rfl)
          clear hp1 hx1 hmk HF
          go_wp2_with fail
          refine (rread_text 200 Hr.out (by omega)).mono ?_
          rintro y w5 ⟨v5, at', e', rfl, hv5, hs5, hst5, ho5⟩
          rw [Hp1.out] at hst5 hv5
          simp only [Prod.mk.injEq] at hst5
          obtain ⟨rfl, rfl⟩ := hst5
          have Hv5 := hide (own_based hv5 Hb.out.size)
          have Hs5 := hide hs5
          have Hb5 := hide (ho5.below Hb.out Hb.out.size fun b hb h => by have := Hg.out; omega)
          have Hown5 := hide (Hown.out.only ho5 fun b hb h => (rr_ne Hr.out Hown.out b hb) h)
          have Hv5g : Hid (∀ b, v5.ownBlock = some b → b ≠ g) := hide fun b hb h => by
            have h1 := (World.ownsRow.lt hv5 b hb).1
            have h2 := Hr.out.lt
            omega
          clear hv5 hs5 ho5
          go_wp2_with fail
          refine (rread_text 65536 Hs5.out (by omega)).mono ?_
          rintro y w6 ⟨v6, at2, e', rfl, hv6, hs6, hst6, ho6⟩
          rw [Hx1.out] at hst6 hv6
          simp only [Prod.mk.injEq] at hst6
          obtain ⟨rfl, rfl⟩ := hst6
          have hv5' : Own w6 w.heap.size 5 v5 p := own_only Hv5.out ho6 fun b hb h => Hv5g.out b hb h
          have Hs6 := hide hs6
          have Hb6 := hide (ho6.below Hb5.out Hb5.out.size fun b hb h => by have := Hg.out; omega)
          have Hown6 := hide (Hown5.out.only ho6 fun b hb h => (rr_ne Hs5.out Hown5.out b hb) h)
          have cf := rr_fail hs6
          have hc5 := hv5'.text 25 9 5 Tryd.underlying25 Tryd.underlying5 Tryd.underlying9
          have hc6 := hv6.text 25 9 5 Tryd.underlying25 Tryd.underlying5 Tryd.underlying9
          obtain ⟨A5, c5, rfl, _⟩ := hv5'.sl
          obtain ⟨A6, c6, rfl, _⟩ := hv6.sl
          clear hv5' hv6 hs6 ho6 Hv5 Hv5g Hs5 Hb5 Hown5 Hown Hr Hb
          by_cases he : e2 = 0
          · subst he
            have Hy := hide (Hyes.out rfl)
            clear Hyes Hno
            go_wp2_with (refine wpList_pushF rfl (.tmp 46) (.tmp 52) rfl w.heap.size w v L ⟨p, x⟩ _ rfl rfl rfl Hown6.out (by have := HLk.out; have := Hn.out; omega) Hb6.out Hb6.out.size ?_; intro v1 w1 hown1 hb1 hg1)
            have HL2 : Hid ((L ++ [(⟨p, x⟩ : Fl)]).length = k + 1 ∧ ∀ f ∈ L ++ [(⟨p, x⟩ : Fl)], f.path.length ≤ 4000) := hide ⟨by rw [List.length_append, HLk.out]; rfl, fun f hf => by
              rcases List.mem_append.1 hf with hf | hf
              · exact HL.out.2 f hf
              · rw [List.mem_singleton.1 hf]; exact Hpl.out⟩
            have hrr := rr_grown Hs6.out hg1 fun b hb => ⟨(World.ownsRow.lt Hown6.out b hb).1, rr_ne Hs6.out Hown6.out b hb⟩
            exact ⟨⟨k + 1, at2, _, L ++ [⟨p, x⟩], rfl, by omega, by go_num, hown1, HL2, hrr, by show Hid _; exact hide Hy.out, hb1⟩, by simp [intOf]; omega⟩
          · have hd := Hno.out he
            rw [hd, if_pos he] at Hd
            have hne : ((e2 : Int) != 0) = true := by rw [bne_iff_ne]; omega
            clear Hyes Hno hd
            go_wp2
            go_quiet (fail)
            go_wp2
            go_ret2
            exact ⟨_, by rw [Hd.out]; rfl, by rw [Hd.out]; exact OwF.nil _ _, below_drewN Hb6.out _⟩
        · obtain rfl : k = n := by omega
          rw [Nat.sub_self] at HF
          have hF : files k (bs.drop at1) = (L, bs.drop at_, 0) := by rw [HF.out]; simp [files]
          rw [hF] at Hd
          simp only [ne_eq, not_true_eq_false, if_false] at Hd
          obtain ⟨Ld, hLd⟩ : ∃ Ld, (bs.drop at_).length = Ld := ⟨_, rfl⟩
          have hld : bs.length - at_ = Ld := by rw [← hLd]; exact List.length_drop.symm
          have HLeft := hide (rleft_any Hr.out)
          rw [hld] at HLeft
          clear HF hF
          by_cases h0 : Ld = 0
          · have h0' : bs.drop at_ = [] := List.eq_nil_of_length_eq_zero (by rw [hLd]; exact h0)
            subst h0
            rw [h0', if_neg (by simp)] at Hd
            obtain ⟨A9, c9, rfl, hfl⟩ := Hown.out.fls
            have HR := hide (fun (wx : World) (hx : Fls wx A9 c9 L) => rright_any L A9 c9 wx hx (by have := HLk.out; have := Hn.out; omega) (fun f hf => Nat.le_trans (HL.out.2 f hf) (by omega)))
            have Hfl := hide hfl
            have Hown9 := hide Hown.out
            obtain ⟨l9, hl9⟩ : ∃ z, z = L.length := ⟨_, rfl⟩
            rw [← hl9] at HR Hown9 ⊢
            clear h0' hLd hld hfl Hown hl9
            go_wp2_with fail
            refine HLeft.out.mono ?_
            rintro y wz ⟨rfl, nz, rfl⟩
            have hfz : Fls (wr.drewN nz) A9 c9 L := Hfl.out.keep (below_drewN (Below.refl _ _) nz)
            have HRz := hide (HR.out (wr.drewN nz) hfz)
            have Hbz := hide (below_drewN Hb.out nz)
            have Hoz : Hid (OwF (wr.drewN nz) w.heap.size _ L) := hide (Hown9.out.drewN nz)
            clear hfz HR HLeft Hown9 Hfl Hr Hb
            generalize wr.drewN nz = wz at *
            go_wp2_with fail
            refine HRz.out.mono ?_
            rintro y w7 ⟨rfl, hb7⟩
            have Hb7 := hide (Hbz.out.trans (hb7.mono Hbz.out.size))
            have Hown7 := hide (Hoz.out.keep hb7)
            clear hb7 HRz Hoz Hbz
            cases hrt : right L with
            | true =>
              rw [hrt, if_pos rfl] at Hd
              go_wp2
              go_ret2
              exact ⟨_, by rw [Hd.out]; rfl, by rw [Hd.out]; exact Hown7.out, Hb7.out⟩
            | false =>
              rw [hrt, if_neg (by decide)] at Hd
              go_wp2
              go_ret2
              exact ⟨_, by rw [Hd.out]; rfl, by rw [Hd.out]; exact OwF.nil _ _, Hb7.out⟩
          · have h0' : bs.drop at_ ≠ [] := fun h => h0 (by rw [← hLd, h]; rfl)
            rw [if_pos h0'] at Hd
            have d3 : decide (0 < (Ld : Int)) = true := decide_eq_true (by omega)
            have d4 : decide (0 < Ld) = true := decide_eq_true (by omega)
            clear h0' hLd hld h0
            go_wp2_with fail
            refine HLeft.out.mono ?_
            rintro y wz ⟨rfl, nz, rfl⟩
            go_wp2
            go_ret2
            exact ⟨_, by rw [Hd.out]; rfl, by rw [Hd.out]; exact OwF.nil _ _, below_drewN Hb.out _⟩
  · have Hd := hide (show decode bs = ([], e1) by unfold decode; rw [hn3, if_pos he])
    have hne : ((e1 : Int) != 0) = true := by rw [bne_iff_ne]; omega
    clear hn1 hn2 hn3 he
    go_wp2
    go_quiet (fail)
    go_wp2
    go_ret2
    exact ⟨_, by rw [Hd.out]; rfl, by rw [Hd.out]; exact OwF.nil _ _, below_drewN Hb4.out _⟩
end Go.Proofs.YtlplgkdoiinfhaaDoor.Tr
namespace Go.Proofs.YtlplgkdoiinfhaaDoor.Tr
open Go Go.RowKit Kt Lw Li Lx Df Wr

theorem rdp_grown {w w' : World} {S : Nat → Prop} {g : Nat} {bs : Bs} {e : Nat} {r : Option Nat} (h : RdP w S g bs e) (hg : w.grownBy w' r) (hr : ∀ b, r = some b → ¬ S b) : RdP w' S g bs e := by
  obtain ⟨A, c, hrow, hs, hB, h1⟩ := h
  refine ⟨A, c, ?_, hs.move fun b hb hlt => hg.block b hlt fun e => hr b e.symm hb.1, hB, h1⟩
  exact (hg.block g hrow.lt fun e => hr g e.symm hB).trans hrow
theorem only_grown {g : Nat} {w0 w w' : World} {r : Option Nat} (h : Only (· = g) w0 w) (hg : w.grownBy w' r) (hr : ∀ b, r = some b → w0.heap.size ≤ b) : Only (· = g) w0 w' := by
  refine ⟨hg.os.trans h.os, hg.tape.trans h.tape, hg.output.trans h.output, Nat.le_trans h.size hg.size, fun i hi hn => ?_⟩
  exact (hg.block i (Nat.lt_of_lt_of_le hi h.size) fun e => by have := hr i e.symm; omega).trans (h.block i hi hn)
set_option maxRecDepth 100000 in
set_option maxHeartbeats 4000000 in
theorem files_any (n B g : Nat) (bs : Bs) (e : Nat) (w : World) (hr : Rd w B g bs e) (hn : n ≤ 1000) :
    Calls Tryd.prog 40 #[.pointer (some ⟨g, 0, none⟩), .int .i64 n] w fun y w' => ∃ v, y = .returned v ∧ OwF w' w.heap.size v (rd n bs e).1 ∧ Rd w' B g (rd n bs e).2.1 (rd n bs e).2.2 ∧ Only (· = g) w w' := by
  have Hr0 := hide (RdP.imp (T := fun b => B ≤ b ∧ b < w.heap.size) (RdP.of hr) fun b hb h => ⟨h, hb⟩)
  have Hg := hide hr.lt
  clear hr
  go_enter Tryd.func40, Tryd.ntmps40
  go_wp2
  go_loopw [5, 9] (fun s i wr => ∃ (k : Nat) (v0 : Value) (L : List Fl) (b : Bs) (x : Nat), v0 = s ∧ k ≤ n ∧ i = .int .i64 k ∧ OwF wr w.heap.size v0 L ∧ Hid (L.length = k) ∧ RdP wr (fun b => B ≤ b ∧ b < w.heap.size) g b x ∧ Hid (rd n bs e = (L ++ (rd (n - k) b x).1, (rd (n - k) b x).2)) ∧ Only (· = g) w wr) (fun _ i _ => n - (intOf i).toNat)
  case atStart => exact ⟨0, _, [], bs, e, rfl, Nat.zero_le _, rfl, OwF.nil _ _, by show Hid _; exact hide rfl, Hr0.out, by show Hid _; exact hide (by rw [List.nil_append, Nat.sub_zero]), Only.refl _ _⟩
  case round =>
    obtain ⟨k, v, L, b, x, rfl, hk, rfl, hown, HL, hrd, HF, ho⟩ := hrel
    clear Hr0
    have Ho := hide ho
    have Hown := hide hown
    have Hrd := hide hrd
    clear ho hown hrd
    by_cases hlt : k < n
    · obtain ⟨p, b1, x1, hp1⟩ : ∃ p b1 x1, stepText b x 200 = (p, b1, x1) := ⟨_, _, _, rfl⟩
      obtain ⟨q, b2, x2, hx1⟩ : ∃ q b2 x2, stepText b1 x1 65536 = (q, b2, x2) := ⟨_, _, _, rfl⟩
      have Hst := hide (show rd n bs e = ((L ++ [⟨p, q⟩]) ++ (rd (n - (k + 1)) b2 x2).1, (rd (n - (k + 1)) b2 x2).2) by
        rw [HF.out, show n - k = (n - (k + 1)) + 1 by omega, rd]
        simp only [hp1, hx1]
        rw [List.append_assoc]; rfl)
      have hT1 := readP_text 200 Hrd.out (by omega)
      rw [hp1] at hT1
      have HT1 := hide hT1
      have HT2 := hide (show ∀ wz, RdP wz (fun b => B ≤ b ∧ b < w.heap.size) g b1 x1 → Calls Tryd.prog 60 #[.pointer (some ⟨g, 0, none⟩), .int .i64 65536] wz fun y w' => ∃ v, y = .returned v ∧ Own w' wz.heap.size 5 v q ∧ RdP w' (fun b => B ≤ b ∧ b < w.heap.size) g b2 x2 ∧ Only (· = g) wz w' from fun wz h => by
        have := readP_text 65536 h (by omega)
        rwa [hx1] at this)
      clear hp1 hx1 hT1 HF
      go_wp2_with fail
      refine HT1.out.mono ?_
      rintro y w5 ⟨v5, rfl, hv5, hr5, ho5⟩
      have Hv5 := hide hv5
      have Hr5 := hide hr5
      have Hn5 := hide (show ∀ b, v5.ownBlock = some b → b ≠ g from fun b hb => by
        have h1 := (World.ownsRow.lt hv5 b hb).1
        have := Hg.out
        have := Ho.out.size
        omega)
      have Hown5 := hide (Hown.out.only ho5 fun b hb h => by have := (World.ownsRow.lt Hown.out b hb).1; have := Hg.out; omega)
      have Ho5 := hide (Ho.out.trans ho5)
      clear hv5 hr5 ho5 HT1 Hown Hrd Ho
      go_wp2_with fail
      refine (HT2.out w5 Hr5.out).mono ?_
      rintro y w6 ⟨v6, rfl, hv6, hr6, ho6⟩
      have hv5' := own_only Hv5.out ho6 fun b hb h => Hn5.out b hb h
      have Hr6 := hide hr6
      have Hown6 := hide (Hown5.out.only ho6 fun b hb h => by have := (World.ownsRow.lt Hown5.out b hb).1; have := Hg.out; omega)
      have Ho6 := hide (Ho5.out.trans ho6)
      have hc5 := hv5'.text 25 9 5 Tryd.underlying25 Tryd.underlying5 Tryd.underlying9
      have hc6 := hv6.text 25 9 5 Tryd.underlying25 Tryd.underlying5 Tryd.underlying9
      obtain ⟨A5, c5, rfl, _⟩ := hv5'.sl
      obtain ⟨A6, c6, rfl, _⟩ := hv6.sl
      have Hsz := hide (show w.heap.size ≤ w6.heap.size from Ho6.out.size)
      have HLn := hide (show L.length + 1 ≤ 1000000000 by have := HL.out; omega)
      clear hv5' hv6 hr6 ho6 Hv5 Hn5 Hr5 Hown5 Ho5 HT2
      go_wp2_with (refine wpList_pushF rfl (.tmp 15) (.tmp 21) rfl w.heap.size w6 v L ⟨p, q⟩ _ rfl rfl rfl Hown6.out HLn.out (Below.refl _ _) Hsz.out ?_; intro v1 w7 hown7 hb7 hg7)
      have HL2 : Hid ((L ++ [(⟨p, q⟩ : Fl)]).length = k + 1) := hide (by rw [List.length_append, HL.out]; rfl)
      have hr7 := rdp_grown Hr6.out hg7 fun b hb h => by have := (World.ownsRow.lt Hown6.out b hb).1; omega
      have ho7 := only_grown Ho6.out hg7 fun b hb => (World.ownsRow.lt Hown6.out b hb).1
      exact ⟨⟨k + 1, _, L ++ [⟨p, q⟩], b2, x2, rfl, by omega, by go_num, hown7, HL2, hr7, by show Hid _; exact Hst, ho7⟩, by simp [intOf]; omega⟩
    · obtain rfl : k = n := by omega
      have hF := HF.out
      rw [Nat.sub_self, rd, List.append_nil] at hF
      have HF2 := hide hF
      clear hF HF
      go_wp2
      go_ret
      exact ⟨_, rfl, by rw [HF2.out]; exact Hown.out, by rw [HF2.out]; exact RdP.rd (Hrd.out.imp fun b _ h => h.1), Ho.out⟩
set_option maxRecDepth 100000 in
set_option maxHeartbeats 4000000 in
theorem tdecode_any (bs : Bs) (A : Option Addr) (c : Nat) (Pb : Nat → Prop) (w : World) (hs : Sl w Pb A c bs) (hE : Most w) (hl : bs.length ≤ 70368744177664) :
    Calls Tryd.prog 21 #[.slice A bs.length c] w fun y w' => ∃ v, y = .returned (.tuple #[v, .int .i64 ((decode bs).2 : Nat)]) ∧ OwF w' w.heap.size v (decode bs).1 ∧ Below w.heap.size w w' := by
  have HO := hide (open_any bs A c Pb w hs hl)
  have HE := hide hE
  have HD := hide (decode_rd bs)
  have HS := hide (show ∀ f ∈ (rdAll bs).1, f.path.length ≤ 9223372036854775807 from fun f hf => by
    have h1 := (rd_short _ _ _ f hf).1
    have h2 : (stepNum bs 0).2.1.length ≤ bs.length := by show (bs.drop _).length ≤ _; rw [List.length_drop]; omega
    omega)
  have HLn := hide (show (rdAll bs).1.length = (stepNum bs 0).1 from rd_len _ _ _)
  have HRd := hide (show ∀ (g : Nat) (wz : World), Rd wz w.heap.size g (stepNum bs 0).2.1 (stepNum bs 0).2.2 → (stepNum bs 0).1 ≤ 1000 → Calls Tryd.prog 40 #[.pointer (some ⟨g, 0, none⟩), .int .i64 ((stepNum bs 0).1 : Nat)] wz fun y w' => ∃ v, y = .returned v ∧ OwF w' wz.heap.size v (rdAll bs).1 ∧ Rd w' w.heap.size g (rdAll bs).2.1 (rdAll bs).2.2 ∧ Only (· = g) wz w' from fun g wz h hn => files_any _ _ _ _ _ wz h hn)
  have HN := hide (show ∀ (g : Nat) (wz : World), Rd wz w.heap.size g bs 0 → Calls Tryd.prog 39 #[.pointer (some ⟨g, 0, none⟩)] wz fun y w' => y = .returned (.int .u64 ((stepNum bs 0).1 : Nat)) ∧ Rd w' w.heap.size g (stepNum bs 0).2.1 (stepNum bs 0).2.2 ∧ Only (· = g) wz w' from fun g wz h => read_num h)
  generalize decode bs = R at *
  generalize rdAll bs = F at *
  generalize (stepNum bs 0).2.1 = b1 at *
  generalize (stepNum bs 0).2.2 = e1 at *
  generalize (stepNum bs 0).1 = n at *
  obtain ⟨nb, hnb⟩ : ∃ nb, nb = bs.length := ⟨_, rfl⟩
  rw [← hnb] at HO ⊢
  clear hs hE hl hnb
  go_enter Tryd.func21, Tryd.ntmps21
  go_wp2_with fail
  refine HO.out.mono ?_
  rintro y w1 ⟨g, rfl, hr1, hb1⟩
  have Hr1 := hide hr1
  have Hb1 := hide hb1
  clear hr1 hb1 HO
  go_wp2_with fail
  refine (HN.out g w1 Hr1.out).mono ?_
  rintro y w2 ⟨rfl, hr2, ho2⟩
  have Hr2 := hide hr2
  have Hb2 := hide (ho2.below Hb1.out Hb1.out.size fun b hb h => by have := hr2.from; omega)
  clear hr2 ho2 HN Hr1 Hb1
  by_cases h1000 : 1000 < n
  · have hd := HD.out
    rw [if_pos h1000] at hd
    have Hd := hide hd
    have d1 : decide (1000 < (n : Int)) = true := decide_eq_true (by omega)
    have d2 : decide (1000 < n) = true := decide_eq_true h1000
    clear hd h1000
    go_wp2
    go_ret2
    exact ⟨_, by rw [Hd.out]; rfl, by rw [Hd.out]; exact OwF.nil _ _, Hb2.out⟩
  · have hd := HD.out
    rw [if_neg h1000] at hd
    have d1 : decide (1000 < (n : Int)) = false := decide_eq_false (by omega)
    have d2 : decide (1000 < n) = false := decide_eq_false h1000
    have hcv : IntKind.i64.wrap (n : Int) = (n : Int) := by rw [IntKind.wrap_i64]; omega
    have Hn := hide (show n ≤ 1000 by omega)
    have HF := hide (HRd.out g w2 Hr2.out Hn.out)
    clear h1000 HRd HD
    go_wp2_with fail
    refine HF.out.mono ?_
    rintro y w3 ⟨v3, rfl, hown3, hr3, ho3⟩
    have Hown3 := hide (hown3.base Hb2.out.size)
    have Hend := hide (end_any hr3)
    have Hb3 := hide (ho3.below Hb2.out Hb2.out.size fun b hb h => by have := hr3.from; omega)
    clear hown3 hr3 ho3 HF Hr2 Hb2 hcv d1 d2
    go_wp2_with fail
    refine Hend.out.mono ?_
    rintro y w4 ⟨rfl, hb4⟩
    have Hown4 := hide (Hown3.out.keep hb4)
    have Hb4 := hide (Hb3.out.trans (hb4.mono Hb3.out.size))
    clear hb4 Hown3 Hb3 Hend
    generalize endOf F.2.1 F.2.2 = x at *
    by_cases hx : x = 0
    · rw [if_neg (by simpa using hx)] at hd
      obtain ⟨A4, c4, rfl, hfl4⟩ := Hown4.out.fls
      have HR := hide (tright_any F.1 A4 c4 w4 hfl4 (HE.out.keep (Hb4.out)) HS.out (by have := HLn.out; have := Hn.out; omega))
      obtain ⟨nf, hnf⟩ : ∃ nf, nf = F.1.length := ⟨_, rfl⟩
      rw [← hnf] at HR Hown4 ⊢
      subst hx
      cases hr : right F.1 with
      | true =>
        rw [hr, if_pos rfl] at hd
        rw [hr] at HR
        have Hd := hide hd
        clear hd hr hfl4 hnf
        go_wp2_with fail
        refine HR.out.mono ?_
        rintro y w5 ⟨rfl, hb5⟩
        have Hown5 := hide (Hown4.out.keep hb5)
        have Hb5 := hide (Hb4.out.trans (hb5.mono Hb4.out.size))
        clear hb5 HR Hown4
        go_wp2
        go_ret2
        exact ⟨_, by rw [Hd.out]; rfl, by rw [Hd.out]; exact Hown5.out, Hb5.out⟩
      | false =>
        rw [hr, if_neg (by decide)] at hd
        rw [hr] at HR
        have Hd := hide hd
        clear hd hr hfl4 hnf
        go_wp2_with fail
        refine HR.out.mono ?_
        rintro y w5 ⟨rfl, hb5⟩
        have Hb5 := hide (Hb4.out.trans (hb5.mono Hb4.out.size))
        clear hb5 HR Hown4
        go_wp2
        go_ret2
        exact ⟨_, by rw [Hd.out]; rfl, by rw [Hd.out]; exact OwF.nil _ _, Hb5.out⟩
    · rw [if_pos hx] at hd
      have Hd := hide hd
      have hne : ((x : Int) != 0) = true := by rw [bne_iff_ne]; omega
      clear hd hx
      go_wp2
      go_ret2
      exact ⟨_, by rw [Hd.out]; rfl, by rw [Hd.out]; exact OwF.nil _ _, Hb4.out⟩
end Go.Proofs.YtlplgkdoiinfhaaDoor.Tr
