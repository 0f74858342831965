/-
  trees: a tree with a file.
-/
import Derived.BigQuiet
import Derived.Test.YtabgkfkjnpcbkaaDoorQTS
import Derived.Test.YtabgkfkjnpcbkaaDoorQTX
import Derived.Test.YtabgkfkjnpcbkaaDoorTR
import Derived.Test.YtabgkfkjnpcbkaaDoorQRrC
import Derived.Test.YtabgkfkjnpcbkaaDoorQWH
import Derived.Test.YtabgkfkjnpcbkaaDoorQTM
import Derived.Test.YtabgkfkjnpcbkaaDoorQDgE
import Derived.Test.YtabgkfkjnpcbkaaDoorQPL
namespace Go.Proofs.YtabgkfkjnpcbkaaDoor.Tr
open Go Go.RowKit Kt Lw Li Lx Df

set_option maxRecDepth 100000 in
set_option maxHeartbeats 4000000 in
theorem tput_any (t : List Fl) (f : Fl) (A : Option Addr) (c : Nat) (w : World) (hs : Fls w A c t) (hE : Most w) (hn : t.length ≤ 1000000) (hf : f.path.length ≤ 9223372036854775807) {q : Option Bs} (hg : go q t = true) :
    Calls Tryd.prog 47 #[.slice A t.length c, .agg #[.string ⟨f.path.toArray⟩, .string ⟨f.text.toArray⟩]] w fun y w' => ∃ v, y = .returned (.tuple #[v, .int .i64 ((put t f).2 : Nat)]) ∧ OwF w' w.heap.size v (put t f).1 ∧ Below w.heap.size w w' := by
  obtain ⟨p, x⟩ := f
  have hrow := Row.fresh w tF #[.string ⟨p.toArray⟩, .string ⟨x.toArray⟩]
  have hb1 := (Below.refl w.heap.size w).alloc (Nat.le_refl _) (.cells #[.string ⟨p.toArray⟩, .string ⟨x.toArray⟩] tF)
  have HPath := hide (fun w (hE : Most w) => path_any p w hE hf)
  obtain ⟨w1, hw1⟩ : ∃ w1, w1 = w.alloc (.cells #[.string ⟨p.toArray⟩, .string ⟨x.toArray⟩] tF) := ⟨_, rfl⟩
  obtain ⟨g, hgw⟩ : ∃ g, g = w.heap.size := ⟨_, rfl⟩
  rw [← hw1] at hrow hb1
  rw [← hgw] at hrow
  have c0 : w1.cell? ⟨g, 0, none⟩ = some (.string ⟨p.toArray⟩) := hrow.cell 0
  have c1 : w1.cell? ⟨g, 1, none⟩ = some (.string ⟨x.toArray⟩) := hrow.cell 1
  have HE1 := hide (hE.keep hb1)
  have HP := hide (fun w' (hb : Below w.heap.size w w') => place_any t p A c w' (hs.keep hb) hn hg)
  have hd := congrArg List.length (drop_at (p := p) hg)
  rw [List.length_append, List.length_take, List.length_drop] at hd
  have hle := upto_le t p
  have hpu := pos_upto t p
  have hpt := put_at p x hg
  have Hput := hide (show put t ⟨p, x⟩ = if can p = false then ([], 7) else if 65536 < x.length ∨ 1000 ≤ (drop t p).length then ([], 4) else (ins ⟨p, x⟩ (drop t p), 0) from rfl)
  rw [hpt] at Hput
  have hc1 := hs.1
  have hk : (t.take (pos t p)).length + (t.drop (upto t p)).length ≤ 1000000 := by rw [List.length_take, List.length_drop]; omega
  have HA := hide (fun w' (hb : Below w.heap.size w w') => fls_take (hs.keep hb) (pos t p) (by omega))
  have HB := hide (fun w' (hb : Below w.heap.size w w') => fls_drop (hs.keep hb) (upto t p) hle)
  obtain ⟨N, hN⟩ : ∃ N, N = t.length := ⟨_, rfl⟩
  rw [← hN] at HP HB hle hn hc1 hd ⊢
  obtain ⟨D, hD⟩ : ∃ D, D = (drop t p).length := ⟨_, rfl⟩
  rw [← hD] at hd Hput
  have Hb1 := hide hb1
  have W1 := hide hw1
  have G1 := hide hgw
  generalize put t ⟨p, x⟩ = R at *
  clear hs hpt hg hN hE hf hD hrow hb1 hw1 hgw
  generalize t.take (pos t p) = X at *
  generalize t.drop (upto t p) = Y at *
  generalize pos t p = k at *
  generalize upto t p = u at *
  have hr0 := fun w => run_cutF w A N c k (by omega)
  have hr1 := fun w => run_cutF1 w A N c u hle hc1
  obtain ⟨A2, hA2⟩ : ∃ A2, (if c = u then A else A.map (·.add (u * 2))) = A2 := ⟨_, rfl⟩
  rw [hA2] at HB hr1
  have HC := hide (fun (g h : Nat) (w' : World) (hb : Below w.heap.size w w') (hone : IsF w' (.slice (some ⟨h, 0, none⟩) 1 1) [⟨p, x⟩]) (hrow : Row w' g 39 [.slice A k c, .slice (some ⟨h, 0, none⟩) 1 1, .slice A2 (N - u) (c - u)]) =>
    concatF_any [X, [⟨p, x⟩], Y] [.slice A k c, .slice (some ⟨h, 0, none⟩) 1 1, .slice A2 (N - u) (c - u)] g 3 w' rfl hrow (Nat.le_refl _) (by show 3 < 1000; omega) (fun j hj => by
      rcases j with _ | _ | _ | j
      · exact HA.out w' hb
      · exact hone
      · exact HB.out w' hb
      · simp at hj; omega) (by simp; omega))
  have e : ([X, [⟨p, x⟩], Y] : List (List Fl)).flatten = X ++ ⟨p, x⟩ :: Y := by simp
  rw [e] at HC
  have Hr0 := hide hr0
  have Hr1 := hide hr1
  clear hA2 HA HB e hk hr0 hr1
  go_enter Tryd.func47, Tryd.ntmps47
  go_wp2_with fail
  rw [← W1.out, ← G1.out]
  cases hc : can p with
  | false =>
    rw [hc, if_pos rfl] at Hput
    rw [hc] at HPath
    clear hc HP
    refine (HPath.out _ HE1.out).mono ?_
    rintro y w2 ⟨rfl, hb2⟩
    have Hb2 := hide (Hb1.out.trans (hb2.mono Hb1.out.size))
    clear hb2
    go_wp2
    go_ret2
    exact ⟨_, by rw [Hput.out]; rfl, by rw [Hput.out]; exact OwF.nil _ _, Hb2.out⟩
  | true =>
    rw [hc, if_neg (by decide)] at Hput
    rw [hc] at HPath
    clear hc
    refine (HPath.out _ HE1.out).mono ?_
    rintro y w2 ⟨rfl, hb2⟩
    have a0 := agr c0 hb2
    have a1 := agr c1 hb2
    have Hb2 := hide (Hb1.out.trans (hb2.mono Hb1.out.size))
    clear hb2 c0 c1 HPath HE1
    go_wp2_with fail
    refine (HP.out _ Hb2.out).mono ?_
    rintro y w3 ⟨rfl, hb3⟩
    have b0 := agr a0 hb3
    have b1 := agr a1 hb3
    have Hb3 := hide (Hb2.out.trans (hb3.mono Hb2.out.size))
    clear hb3 a0 a1 HP Hb2 Hb1
    by_cases hx : 65536 < x.length
    · rw [if_pos (.inl hx)] at Hput
      have d1 : decide (65536 < (x.length : Int)) = true := decide_eq_true (by omega)
      have d2 : decide (65536 < x.length) = true := decide_eq_true hx
      clear hx hd
      go_wp2
      go_ret2
      exact ⟨_, by rw [Hput.out]; rfl, by rw [Hput.out]; exact OwF.nil _ _, Hb3.out⟩
    · have d1 : decide (65536 < (x.length : Int)) = false := decide_eq_false (by omega)
      have d2 : decide (65536 < x.length) = false := decide_eq_false hx
      have i1 : IntKind.i64.wrap ((u : Int) - (k : Int)) = ((u - k : Nat) : Int) := by rw [IntWalk.i64_in _ (by omega)]; omega
      have i2 : IntKind.i64.wrap ((N : Int) - ((u - k : Nat) : Int)) = ((D : Nat) : Int) := by rw [IntWalk.i64_in _ (by omega)]; omega
      have i3 : IntKind.i64.wrap ((D : Int) + 1) = ((D + 1 : Nat) : Int) := by rw [IntWalk.i64_in _ (by omega)]; omega
      by_cases hM : 1000 ≤ D
      · rw [if_pos (.inr hM)] at Hput
        have d3 : decide (1000 < (D : Int) + 1) = true := decide_eq_true (by omega)
        have d4 : decide (1000 < D + 1) = true := decide_eq_true (by omega)
        clear hx hM hd
        go_wp2
        go_ret2
        exact ⟨_, by rw [Hput.out]; rfl, by rw [Hput.out]; exact OwF.nil _ _, Hb3.out⟩
      · have d3 : decide (1000 < (D : Int) + 1) = false := decide_eq_false (by omega)
        have d4 : decide (1000 < D + 1) = false := decide_eq_false (by omega)
        rw [if_neg (by omega)] at Hput
        clear hx hM hd
        go_wp2
        clear d1 d2 d3 d4 i1 i2 i3
        have e0 : w3.drew.cell? ⟨g, 0, none⟩ = some (.string ⟨p.toArray⟩) := b0
        have e1 : w3.drew.cell? ⟨g, 1, none⟩ = some (.string ⟨x.toArray⟩) := b1
        refine Rg.wp_region_ord (fun w' => w'.cell? ⟨g, 0, none⟩ = some (.string ⟨p.toArray⟩) ∧ w'.cell? ⟨g, 1, none⟩ = some (.string ⟨x.toArray⟩)) [(0, true), (1, true), (2, true), (3, true), (5, true), (6, true), (7, true), (4, false), (8, false), (9, false), (10, true), (11, true)] (by kernel_rfl) (by kernel_rfl) ?_
        simp only [Rg.pick, List.map_cons, List.map_nil, List.getD_cons_zero, List.getD_cons_succ]
        have Hbd : Hid (Below w.heap.size w w3.drew) := hide Hb3.out.drew
        clear b0 b1
        generalize w3.drew = wd at *
        have hr0 := Hr0.out
        have hr1 := Hr1.out
        iterate 7 (refine Rg.ord_quiet (v := ?_) rfl (fun w' hS => ?_) ⟨e0, e1⟩ ?_; rotate_left; (obtain ⟨q0, q1⟩ := hS; go_simp; with_reducible rfl); simp only [Act.put, List.setIfInBounds_toArray, List.set_cons_succ, List.set_cons_zero])
        clear hr0 hr1
        have hone := IsF.one wd ⟨p, x⟩
        simp only at hone
        have ho1 := (Below.refl wd.heap.size wd).alloc (Nat.le_refl _) (.cells #[.string ⟨p.toArray⟩, .string ⟨x.toArray⟩] tF)
        have f0 := agr e0 ho1
        have f1 := agr e1 ho1
        have Hb4 := hide (Hbd.out.alloc Hbd.out.size (.cells #[.string ⟨p.toArray⟩, .string ⟨x.toArray⟩] tF))
        obtain ⟨w4, hw4⟩ : ∃ w4, w4 = wd.alloc (.cells #[.string ⟨p.toArray⟩, .string ⟨x.toArray⟩] tF) := ⟨_, rfl⟩
        obtain ⟨h4, hh4⟩ : ∃ h4, h4 = wd.heap.size := ⟨_, rfl⟩
        rw [← hw4] at hone f0 f1 Hb4
        rw [← hh4] at hone
        have Hone := hide hone
        have W4 := hide hw4
        have H4 := hide hh4
        clear hone ho1 hw4 hh4
        refine Rg.ord_loud (by rfl) (fun K hK => ?_)
        go_simp
        rw [← W4.out, ← H4.out]
        refine hK _ _ (fun _ => ⟨f0, f1⟩) ?_
        clear hK K e0 e1
        have hrow := Row.fresh w4 39 #[.slice A k c, .slice (some ⟨h4, 0, none⟩) 1 1, .slice A2 (N - u) (c - u)]
        have ho2 := (Below.refl w4.heap.size w4).alloc (Nat.le_refl _) (.cells #[.slice A k c, .slice (some ⟨h4, 0, none⟩) 1 1, .slice A2 (N - u) (c - u)] 39)
        have g0 := agr f0 ho2
        have g1 := agr f1 ho2
        have Hone2 := hide (Hone.out.below ho2)
        have Hb5 := hide (Hb4.out.alloc Hb4.out.size (.cells #[.slice A k c, .slice (some ⟨h4, 0, none⟩) 1 1, .slice A2 (N - u) (c - u)] 39))
        have HC2 := hide (HC.out _ _ _ Hb5.out Hone2.out hrow)
        refine Rg.ord_loud (by rfl) (fun K hK => ?_)
        go_simp
        refine hK _ _ (fun _ => ⟨g0, g1⟩) ?_
        clear hK K f0 f1 ho2 hrow
        refine Rg.ord_loud (by rfl) (fun K hK => ?_)
        go_simp
        refine HC2.out.mono ?_
        rintro y w6 ⟨v, rfl, hown, hb6⟩
        have Hb6 := hide (Hb5.out.trans (hb6.mono Hb5.out.size))
        have Hown := hide (hown.base Hb5.out.size)
        have k0 := agr g0 hb6
        have k1 := agr g1 hb6
        refine hK _ _ (fun _ => ⟨k0, k1⟩) ?_
        clear hK K hb6 hown g0 g1
        iterate 2 (refine Rg.ord_quiet (v := ?_) rfl (fun w' hS => ?_) ⟨k0, k1⟩ ?_; rotate_left; (go_simp; with_reducible rfl); simp only [Act.put, List.setIfInBounds_toArray, List.set_cons_succ, List.set_cons_zero])
        refine Rg.ord_nil ?_
        clear k0 k1
        go_wp2
        go_ret2
        exact ⟨_, by rw [Hput.out]; rfl, by rw [Hput.out]; exact Hown.out, Hb6.out⟩
end Go.Proofs.YtabgkfkjnpcbkaaDoor.Tr
namespace Go.Proofs.YtabgkfkjnpcbkaaDoor.Tr
open Go Go.RowKit Kt Lw Li Lx Df Wr

theorem rdp_grown {w w' : World} {S : Nat → Prop} {g : Nat} {bs : Bs} {e : Nat} {r : Option Nat} (h : RdP w S g bs e) (hg : w.grownBy w' r) (hr : ∀ b, r = some b → ¬ S b) : RdP w' S g bs e := by
  obtain ⟨A, c, hrow, hs, hB, h1⟩ := h
  refine ⟨A, c, ?_, hs.move fun b hb hlt => hg.block b hlt fun e => hr b e.symm hb.1, hB, h1⟩
  exact (hg.block g hrow.lt fun e => hr g e.symm hB).trans hrow
theorem only_grown {g : Nat} {w0 w w' : World} {r : Option Nat} (h : Only (· = g) w0 w) (hg : w.grownBy w' r) (hr : ∀ b, r = some b → w0.heap.size ≤ b) : Only (· = g) w0 w' := by
  refine ⟨hg.os.trans h.os, hg.tape.trans h.tape, hg.output.trans h.output, Nat.le_trans h.size hg.size, fun i hi hn => ?_⟩
  exact (hg.block i (Nat.lt_of_lt_of_le hi h.size) fun e => by have := hr i e.symm; omega).trans (h.block i hi hn)
end Go.Proofs.YtabgkfkjnpcbkaaDoor.Tr
namespace Go.Proofs.YtabgkfkjnpcbkaaDoor.Tr
open Go Go.RowKit Kt Lw Li Lx Df Wr

/-- what the library's variables, and the tables, hold -/
structure Env (w : World) : Prop where
  most : Most w
  tab : Dg.Tab w
  tabR : Dg.TabR w
theorem Env.keep {w w' : World} (h : Env w) (hb : Below w.heap.size w w') : Env w' := ⟨h.most.keep hb, h.tab.below hb, h.tabR.below hb⟩
def f0 : Fl := ⟨[97], [98]⟩
def b0 : Bs := [1, 1, 97, 1, 98]
theorem e_put : put [] f0 = ([f0], 0) := by decide +kernel
theorem e_enc : encode [f0] = (b0, 0) := by decide +kernel
theorem e_dec : decode b0 = ([f0], 0) := by decide +kernel
theorem e_get : get [f0] [97] = ([98], true) := by decide +kernel
theorem e_drop : drop [f0] [97] = [] := by decide +kernel
theorem e_go : go none [f0] = true := by decide +kernel
theorem e_right : right [f0] = true := by decide +kernel
theorem e_path : can [97, 47, 98] = true := by decide +kernel
theorem e_name : name [f0] = Sha.sha b0 := by
  have h : enc [f0] = b0 := by
    have := e_enc
    unfold encode at this
    rw [if_pos e_right] at this
    exact congrArg Prod.fst this
  unfold name
  rw [if_pos e_right, h]
theorem lit5 (w : World) : Sl (w.alloc (.cells #[.int .u8 1, .int .u8 1, .int .u8 97, .int .u8 1, .int .u8 98] 5)) (fun _ => True) (some ⟨w.heap.size, 0, none⟩) 5 b0 :=
  ⟨Nat.le_refl _, fun _ => ⟨w.heap.size, 0, rfl, trivial, fun j hj => by
    rw [Nat.zero_add, (Row.fresh w _ _).cell]
    rcases j with _ | _ | _ | _ | _ | j
    · rfl
    · rfl
    · rfl
    · rfl
    · rfl
    · simp [b0] at hj; omega⟩⟩
end Go.Proofs.YtabgkfkjnpcbkaaDoor.Tr
namespace Go.Proofs.YtabgkfkjnpcbkaaDoor.Tr
open Go Go.RowKit Kt Lw Li Lx Df Wr

def pencode (p : Pch) : Bs × Nat := if pright p then (pform p, 0) else ([], 1)
def pname (p : Pch) : Bs := if pright p then Sha.sha (pform p) else []
/-- a patch in memory -/
structure PIn (w : World) (p : Pch) (Ai Ac : Option Addr) (ci cc : Nat) : Prop where
  ids : Vs w (fun _ => True) Ai ci (texts p.ids)
  chs : Chs w Ac cc p.chs
  li : ∀ q ∈ p.ids, q.length ≤ 9223372036854775807
  lc : ∀ f ∈ p.chs, f.path.length ≤ 9223372036854775807 ∧ f.text.length ≤ 9223372036854775807
  l1 : p.ids.length ≤ 9223372036854775807
  l2 : p.author.length ≤ 9223372036854775807
  l3 : p.note.length ≤ 9223372036854775807
  l4 : p.chs.length ≤ 9223372036854775807
theorem PIn.keep {w w' : World} {p : Pch} {Ai Ac : Option Addr} {ci cc : Nat} (h : PIn w p Ai Ac ci cc) (hb : Below w.heap.size w w') : PIn w' p Ai Ac ci cc :=
  ⟨Lw.Vs.below h.ids hb, h.chs.keep hb, h.li, h.lc, h.l1, h.l2, h.l3, h.l4⟩
theorem pform_short {p : Pch} (h : withinB p = true) : (pform p).length ≤ 10000000 := by
  obtain ⟨i1, i2, i3, i4, i5, i6⟩ := within_is h
  have h1 := ids_put i5 i1 p.ids.length
  have h2 := chs_put i6 i4 p.chs.length
  rw [List.take_length] at h1 h2
  have h3 := txt_len (s := p.author) (by omega)
  have h4 := txt_len (s := p.note) (by omega)
  have h5 := form_len (n := p.ids.length) (by omega)
  have h6 := form_len (n := p.chs.length) (by omega)
  unfold pform
  simp only [List.length_append]
  omega
set_option maxRecDepth 100000 in
set_option maxHeartbeats 4000000 in
theorem pencode_any (p : Pch) (Ai Ac : Option Addr) (ci cc : Nat) (w : World) (hp : PIn w p Ai Ac ci cc) (hE : Most w) :
    Calls Tryd.prog 12 #[PchV p Ai Ac ci cc] w fun y w' => ∃ v, y = .returned (.tuple #[v, .int .i64 ((pencode p).2 : Nat)]) ∧ Own w' w.heap.size 5 v (pencode p).1 ∧ Below w.heap.size w w' := by
  have HW := hide (fun (wz : World) (h : Below w.heap.size w wz) => within_any p Ai Ac ci cc _ wz (hp.keep h).ids (hp.keep h).chs (hE.keep h) hp.li hp.lc hp.l1 hp.l2 hp.l3 hp.l4)
  have HF := hide (fun (hw : withinB p = true) (wz : World) (h : Below w.heap.size w wz) => pform_any p Ai Ac ci cc _ wz (hp.keep h).ids (hp.keep h).chs hw)
  have HS := hide (pform_short (p := p))
  have HPr := hide (pright_within p)
  have HEn := hide (show pencode p = if pright p then (pform p, 0) else ([], 1) from rfl)
  generalize pform p = bs at *
  generalize withinB p = wi at *
  generalize pright p = pr at *
  generalize pencode p = en at *
  obtain ⟨N, hN⟩ : ∃ n, n = p.ids.length := ⟨_, rfl⟩
  obtain ⟨M, hM⟩ : ∃ n, n = p.chs.length := ⟨_, rfl⟩
  unfold PchV at HW HF ⊢
  rw [← hN, ← hM] at HW HF ⊢
  generalize p.author = a at *
  generalize p.note = o at *
  clear hp hE hN hM
  obtain ⟨g, hg⟩ : ∃ g, g = w.heap.size := ⟨_, rfl⟩
  obtain ⟨w1, hw1⟩ : ∃ w1, w1 = w.alloc (.cells #[.slice Ai N ci, .string ⟨a.toArray⟩, .string ⟨o.toArray⟩, .slice Ac M cc] tP) := ⟨_, rfl⟩
  have hrow := Row.fresh w tP #[.slice Ai N ci, .string ⟨a.toArray⟩, .string ⟨o.toArray⟩, .slice Ac M cc]
  have hb1 : Below w.heap.size w w1 := by rw [hw1]; exact (Below.refl _ w).alloc (Nat.le_refl _) _
  rw [← hw1, ← hg] at hrow
  have HC := hide (show ∀ wz, Below w1.heap.size w1 wz → wz.cell? ⟨g, 0, none⟩ = some (.slice Ai N ci) ∧ wz.cell? ⟨g, 1, none⟩ = some (.string ⟨a.toArray⟩) ∧ wz.cell? ⟨g, 2, none⟩ = some (.string ⟨o.toArray⟩) ∧ wz.cell? ⟨g, 3, none⟩ = some (.slice Ac M cc) from fun wz hz => by
    have hr := hrow.below hz hrow.lt
    exact ⟨hr.cell 0, hr.cell 1, hr.cell 2, hr.cell 3⟩)
  have Hb1 := hide hb1
  have W1 := hide hw1
  have G1 := hide hg
  clear hrow hb1 hw1 hg
  obtain ⟨k0, k1, k2, k3⟩ := HC.out w1 (Below.refl _ _)
  go_enter Tryd.func12, Tryd.ntmps12
  go_wp2_with (first | rw [← W1.out, ← G1.out] | fail)
  refine (HW.out w1 Hb1.out).mono ?_
  rintro y w2 ⟨rfl, hb2⟩
  have Hb12 := hide hb2
  have Hb2 := hide (Hb1.out.trans (hb2.mono Hb1.out.size))
  clear k0 k1 k2 k3 hb2 HW
  obtain ⟨k0, k1, k2, k3⟩ := HC.out w2 Hb12.out
  cases wi with
  | false =>
    have He := hide (show en = ([], 1) by rw [HEn.out, HPr.out]; rfl)
    clear HEn HPr HF HS
    go_wp2
    go_ret2
    exact ⟨_, by rw [He.out]; rfl, by rw [He.out]; exact Own.nil _ _ _, Hb2.out⟩
  | true =>
    have hl := HS.out rfl
    go_wp2_with fail
    refine (HF.out (by trivial) w2 Hb2.out).mono ?_
    rintro y w3 ⟨v3, rfl, hown3, hb3⟩
    have Hown3 := hide (own_based hown3 Hb2.out.size)
    have Hb3 := hide (Hb2.out.trans (hb3.mono Hb2.out.size))
    obtain ⟨A3, c3, rfl, _⟩ := hown3.sl
    clear k0 k1 k2 k3 hown3 hb3 HF
    obtain ⟨n, hn⟩ : ∃ n, n = bs.length := ⟨_, rfl⟩
    rw [← hn] at hl Hown3 HPr ⊢
    by_cases hlong : n ≤ 131072
    · have He := hide (show en = (bs, 0) by rw [HEn.out, HPr.out, decide_eq_true hlong]; rfl)
      have d1 : decide (131072 < (n : Int)) = false := decide_eq_false (by omega)
      have d2 : decide (131072 < n) = false := decide_eq_false (by omega)
      clear HEn HPr HS hlong hn
      go_wp2
      go_ret2
      exact ⟨_, by rw [He.out]; rfl, by rw [He.out]; exact Hown3.out, Hb3.out⟩
    · have He := hide (show en = ([], 1) by rw [HEn.out, HPr.out, decide_eq_false hlong]; rfl)
      have d1 : decide (131072 < (n : Int)) = true := decide_eq_true (by omega)
      have d2 : decide (131072 < n) = true := decide_eq_true (by omega)
      clear HEn HPr HS hlong hn
      go_wp2
      go_ret2
      exact ⟨_, by rw [He.out]; rfl, by rw [He.out]; exact Own.nil _ _ _, Hb3.out⟩
end Go.Proofs.YtabgkfkjnpcbkaaDoor.Tr
namespace Go.Proofs.YtabgkfkjnpcbkaaDoor.Tr
open Go Go.RowKit Kt Lw Li Lx Df Wr

set_option maxRecDepth 100000 in
set_option maxHeartbeats 4000000 in
theorem pright_any (p : Pch) (Ai Ac : Option Addr) (ci cc : Nat) (w : World) (hp : PIn w p Ai Ac ci cc) (hM0 : Most w) :
    Calls Tryd.prog 15 #[PchV p Ai Ac ci cc] w fun y w' => y = .returned (.bool (pright p)) ∧ Below w.heap.size w w' := by
  have HE := hide (fun (wz : World) (h : Below w.heap.size w wz) => pencode_any p Ai Ac ci cc wz (hp.keep h) (hM0.keep h))
  obtain ⟨N, hN⟩ : ∃ n, n = p.ids.length := ⟨_, rfl⟩
  obtain ⟨M, hM⟩ : ∃ n, n = p.chs.length := ⟨_, rfl⟩
  have hpr := show pencode p = if pright p then (pform p, 0) else ([], 1) from rfl
  unfold PchV at HE ⊢
  rw [← hN, ← hM] at HE ⊢
  generalize p.author = a at *
  generalize p.note = o at *
  clear hp hM0 hN hM
  obtain ⟨g, hg⟩ : ∃ g, g = w.heap.size := ⟨_, rfl⟩
  obtain ⟨w1, hw1⟩ : ∃ w1, w1 = w.alloc (.cells #[.slice Ai N ci, .string ⟨a.toArray⟩, .string ⟨o.toArray⟩, .slice Ac M cc] tP) := ⟨_, rfl⟩
  have hrow := Row.fresh w tP #[.slice Ai N ci, .string ⟨a.toArray⟩, .string ⟨o.toArray⟩, .slice Ac M cc]
  have hb1 : Below w.heap.size w w1 := by rw [hw1]; exact (Below.refl _ w).alloc (Nat.le_refl _) _
  rw [← hw1, ← hg] at hrow
  have k0 := hrow.cell 0
  have k1 := hrow.cell 1
  have k2 := hrow.cell 2
  have k3 := hrow.cell 3
  simp only [List.getElem?_cons_zero, List.getElem?_cons_succ] at k0 k1 k2 k3
  have Hb1 := hide hb1
  have W1 := hide hw1
  have G1 := hide hg
  clear hrow hb1 hw1 hg
  go_enter Tryd.func15, Tryd.ntmps15
  go_wp2_with (first | rw [← W1.out, ← G1.out] | fail)
  refine (HE.out w1 Hb1.out).mono ?_
  rintro y w2 ⟨v2, rfl, _, hb2⟩
  have Hb2 := hide (Hb1.out.trans (hb2.mono Hb1.out.size))
  clear k0 k1 k2 k3 hb2 HE
  cases hr : pright p with
  | true =>
    rw [hr] at hpr
    rw [show (pencode p).2 = 0 by rw [hpr]; rfl]
    have Hr := hide hr
    clear hpr hr
    go_wp2
    go_ret
    exact ⟨by rw [Hr.out]; rfl, Hb2.out⟩
  | false =>
    rw [hr] at hpr
    rw [show (pencode p).2 = 1 by rw [hpr]; rfl]
    have Hr := hide hr
    clear hpr hr
    go_wp2
    go_ret
    exact ⟨by rw [Hr.out]; rfl, Hb2.out⟩
set_option maxRecDepth 100000 in
set_option maxHeartbeats 4000000 in
theorem pname_any (p : Pch) (Ai Ac : Option Addr) (ci cc : Nat) (w : World) (hp : PIn w p Ai Ac ci cc) (hM0 : Most w) (ht : Dg.Tab w) :
    Calls Tryd.prog 17 #[PchV p Ai Ac ci cc] w fun y w' => y = .returned (.string ⟨(pname p).toArray⟩) ∧ Below w.heap.size w w' := by
  have HE := hide (fun (wz : World) (h : Below w.heap.size w wz) => pencode_any p Ai Ac ci cc wz (hp.keep h) (hM0.keep h))
  have Ht := hide ht
  obtain ⟨N, hN⟩ : ∃ n, n = p.ids.length := ⟨_, rfl⟩
  obtain ⟨M, hM⟩ : ∃ n, n = p.chs.length := ⟨_, rfl⟩
  have hpr := show pencode p = if pright p then (pform p, 0) else ([], 1) from rfl
  have hnm := show pname p = if pright p then Sha.sha (pform p) else [] from rfl
  have hsz : pright p = true → (pform p).length ≤ 131072 := fun h => (pright_is h).2.2.2.2.2.2
  unfold PchV at HE ⊢
  rw [← hN, ← hM] at HE ⊢
  generalize p.author = a at *
  generalize p.note = o at *
  clear ht hp hM0 hN hM
  obtain ⟨g, hg⟩ : ∃ g, g = w.heap.size := ⟨_, rfl⟩
  obtain ⟨w1, hw1⟩ : ∃ w1, w1 = w.alloc (.cells #[.slice Ai N ci, .string ⟨a.toArray⟩, .string ⟨o.toArray⟩, .slice Ac M cc] tP) := ⟨_, rfl⟩
  have hrow := Row.fresh w tP #[.slice Ai N ci, .string ⟨a.toArray⟩, .string ⟨o.toArray⟩, .slice Ac M cc]
  have hb1 : Below w.heap.size w w1 := by rw [hw1]; exact (Below.refl _ w).alloc (Nat.le_refl _) _
  rw [← hw1, ← hg] at hrow
  have k0 := hrow.cell 0
  have k1 := hrow.cell 1
  have k2 := hrow.cell 2
  have k3 := hrow.cell 3
  simp only [List.getElem?_cons_zero, List.getElem?_cons_succ] at k0 k1 k2 k3
  have Hb1 := hide hb1
  have W1 := hide hw1
  have G1 := hide hg
  clear hrow hb1 hw1 hg
  go_enter Tryd.func17, Tryd.ntmps17
  go_wp2_with (first | rw [← W1.out, ← G1.out] | fail)
  refine (HE.out w1 Hb1.out).mono ?_
  rintro y w2 ⟨v2, rfl, hown2, hb2⟩
  have Hb2 := hide (Hb1.out.trans (hb2.mono Hb1.out.size))
  clear k0 k1 k2 k3 hb2 HE
  cases hr : pright p with
  | true =>
    rw [hr, if_pos rfl] at hpr hnm
    have Hnm := hide hnm
    have hsz1 := hsz hr
    rw [hpr] at hown2 ⊢
    simp only at hown2 ⊢
    generalize pform p = bs at *
    obtain ⟨A1, c1, rfl, hsl⟩ := hown2.sl
    have HO := hide (Dg.of_any bs A1 c1 _ w2 hsl (Ht.out.below Hb2.out) (by omega))
    obtain ⟨nb, hnb⟩ : ∃ z, z = bs.length := ⟨_, rfl⟩
    rw [← hnb] at HO ⊢
    clear hpr hr hnm hsz hsz1 hown2 hsl hnb
    go_wp2_with fail
    refine HO.out.mono ?_
    rintro y w3 ⟨rfl, hb3⟩
    have Hb3 := hide (Hb2.out.trans (hb3.mono Hb2.out.size))
    clear hb3 HO
    go_wp2
    go_ret
    exact ⟨by rw [Hnm.out]; rfl, Hb3.out⟩
  | false =>
    rw [hr] at hpr hnm
    have Hnm := hide (show pname p = [] by rw [hnm]; rfl)
    rw [show (pencode p).2 = 1 by rw [hpr]; rfl]
    clear hpr hr hnm hsz hown2
    go_wp2
    go_ret
    exact ⟨by rw [Hnm.out]; rfl, Hb2.out⟩
end Go.Proofs.YtabgkfkjnpcbkaaDoor.Tr
