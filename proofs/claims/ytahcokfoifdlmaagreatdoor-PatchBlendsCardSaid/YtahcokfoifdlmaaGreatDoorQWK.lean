/-
  What the reference's Bytes comes to: whether two slices hold the same bytes.
-/
import Derived.Test.YtahcokfoifdlmaaGreatDoorQWA
import Derived.Test.YtahcokfoifdlmaaGreatDoorQWI
import Derived.BigQuiet
import Derived.Test.YtahcokfoifdlmaaGreatDoorQWS
import Derived.Test.YtahcokfoifdlmaaGreatDoorQNA
import Derived.Test.YtahcokfoifdlmaaGreatDoorTR
import Derived.Test.YtahcokfoifdlmaaGreatDoorQPR
import Derived.Test.YtahcokfoifdlmaaGreatDoorRfE
import Derived.Test.YtahcokfoifdlmaaGreatDoorQDgE
namespace Go.Proofs.YtahcokfoifdlmaaGreatDoor.Wr
open Go Go.RowKit Kt

theorem same_of (l r : List UInt8) (hl : l.length = r.length) (h : ∀ j, j < l.length → l.getD j 0 = r.getD j 0) : l = r := by
  apply List.ext_getElem hl
  intro i h1 h2
  have := h i h1
  simpa [List.getElem?_eq_getElem h1, List.getElem?_eq_getElem h2] using this

set_option maxHeartbeats 1000000 in
set_option maxRecDepth 100000 in
theorem bytes_any (l r : List UInt8) (A A' : Option Addr) (c c' : Nat) (Pb Pb' : Nat → Prop) (w : World) (hs : Sl w Pb A c l) (hs' : Sl w Pb' A' c' r) (hl : l.length ≤ 9223372036854775807) :
    Calls Tryz.prog 15 #[.slice A l.length c, .slice A' r.length c'] w fun y w' => y = .returned (.bool (decide (l = r))) ∧ Below w.heap.size w w' := by
  by_cases hlen : l.length = r.length
  · have hlr : r.length ≤ 9223372036854775807 := by omega
    have Hs := hide hs.bound
    have Hs' := hide hs'.bound
    clear hs hs'
    have hb0 : ((l.length : Int) != (r.length : Int)) = false := by rw [bne_eq_false_iff_eq]; omega
    have Hlen := hide hlen
    obtain ⟨N, hN⟩ : ∃ N, N = l.length := ⟨_, rfl⟩
    obtain ⟨N', hN'⟩ : ∃ N', N' = r.length := ⟨_, rfl⟩
    rw [← hN, ← hN'] at hb0 ⊢
    have HN := hide hN
    have HN' := hide hN'
    have hNl : N ≤ 9223372036854775807 := by omega
    have hNN : N = N' := by omega
    have HNN := hide hNN
    clear hN hN' hl hlr hlen hNN
    go_enter Tryz.func15, Tryz.ntmps15
    go_wp2
    go_loopw [5] (fun i wr => ∃ k : Nat, k ≤ N ∧ i = .int .i64 k ∧ (∀ j, j < k → l.getD j 0 = r.getD j 0) ∧ Below w.heap.size w wr) (fun i _ => N - (intOf i).toNat)
    case atStart => exact ⟨0, Nat.zero_le _, rfl, fun j h => absurd h (Nat.not_lt_zero _), Below.refl _ _⟩
    case round =>
      obtain ⟨k, hk, rfl, hall, hb⟩ := hrel
      have Hall := hide hall
      have Hb := hide hb
      clear hall hb
      by_cases hlt : k < N
      · obtain ⟨b, o, rfl, hp, hc⟩ := Hs.out.2 (by have := HN.out; omega)
        obtain ⟨b', o', rfl, hp', hc'⟩ := Hs'.out.2 (by have := HN'.out; have := HNN.out; omega)
        have ck : wr.cell? ⟨b, o + k, none⟩ = some (.int .u8 ((l.getD k 0).toNat : Int)) := (World.cell?_of_block (a := ⟨b, o + k, none⟩) (Hb.out.block b hp.2)).trans (hc k (by have := HN.out; omega))
        have ck' : wr.cell? ⟨b', o' + k, none⟩ = some (.int .u8 ((r.getD k 0).toNat : Int)) := (World.cell?_of_block (a := ⟨b', o' + k, none⟩) (Hb.out.block b' hp'.2)).trans (hc' k (by have := HN'.out; have := HNN.out; omega))
        clear hc hc' hp hp'
        have hlt' : k < N' := by have := HNN.out; omega
        by_cases hx : l.getD k 0 = r.getD k 0
        · have Hx := hide hx
          rw [hx] at ck
          clear hx
          generalize (r.getD k 0).toNat = x at *
          go_wp2
          go_quiet (fail)
          go_wp2
          refine ⟨⟨k + 1, by omega, by go_num, fun j hj => ?_, below_drewN Hb.out _⟩, by simp [intOf]; omega⟩
          rcases Nat.lt_or_ge j k with hj' | hj'
          · exact Hall.out j hj'
          · obtain rfl : j = k := by omega
            exact Hx.out
        · have hxn : (((l.getD k 0).toNat : Int) != ((r.getD k 0).toNat : Int)) = true := by
            rw [bne_iff_ne]
            intro he
            exact hx (UInt8.toNat_inj.1 (by omega))
          have Hx := hide hx
          clear hx
          generalize (r.getD k 0).toNat = x at *
          generalize (l.getD k 0).toNat = y at *
          go_wp2
          go_quiet (fail)
          go_wp2
          go_ret
          refine ⟨?_, below_drewN Hb.out _⟩
          have hd : decide (l = r) = false := decide_eq_false fun h => Hx.out (by rw [h])
          rw [hd]; rfl
      · obtain rfl : k = N := by omega
        go_wp2
        go_ret
        refine ⟨?_, Hb.out⟩
        have hd : decide (l = r) = true := decide_eq_true (same_of l r Hlen.out fun j hj => Hall.out j (by have := HN.out; omega))
        rw [hd]; rfl
  · have hb0 : ((l.length : Int) != (r.length : Int)) = true := by rw [bne_iff_ne]; omega
    have Hd := hide (show decide (l = r) = false from decide_eq_false fun h => hlen (by rw [h]))
    clear hs hs' hlen
    go_enter Tryz.func15, Tryz.ntmps15
    go_wp2
    go_ret
    exact ⟨by rw [Hd.out]; rfl, Below.refl _ _⟩
end Go.Proofs.YtahcokfoifdlmaaGreatDoor.Wr
namespace Go.Proofs.YtahcokfoifdlmaaGreatDoor.Wr
open Go Go.RowKit Kt

theorem Only.drewN {S : Nat → Prop} {a b : World} (h : Only S a b) (n : Nat) : Only S a (b.drewN n) := ⟨h.os, h.tape, h.output, h.size, h.block⟩
end Go.Proofs.YtahcokfoifdlmaaGreatDoor.Wr
namespace Go.Proofs.YtahcokfoifdlmaaGreatDoor.Tr
open Go Go.RowKit Kt Lw Li Lx Df Wr

theorem OwF.only {S : Nat → Prop} {w w' : World} {B : Nat} {v : Value} {L : List Fl} (h : OwF w B v L) (ho : Only S w w') (hv : ∀ g, v.ownBlock = some g → ¬ S g) : OwF w' B v L := by
  refine ⟨h.1, ?_⟩
  rcases h.2 with ⟨h1, h2⟩ | ⟨g, cap, cur, hv', h1, h2, h3⟩
  · exact .inl ⟨h1, h2⟩
  · exact .inr ⟨g, cap, cur, hv', h1, (ho.block g (Array.getElem?_eq_some_iff.1 h2).1 (hv g (by rw [hv']; rfl))).trans h2, h3⟩
theorem own_only {S : Nat → Prop} {w w' : World} {B : Nat} {E : TypeId} {v : Value} {l : Bs} (h : Own w B E v l) (ho : Only S w w') (hv : ∀ g, v.ownBlock = some g → ¬ S g) : Own w' B E v l := by
  refine ⟨h.1, ?_⟩
  rcases h.2 with ⟨h1, h2⟩ | ⟨g, cap, cur, hv', h1, h2, h3⟩
  · exact .inl ⟨h1, h2⟩
  · exact .inr ⟨g, cap, cur, hv', h1, (ho.block g (Array.getElem?_eq_some_iff.1 h2).1 (hv g (by rw [hv']; rfl))).trans h2, h3⟩
theorem text_len (bs : Bs) (e : Nat) (most : Int) : (stepText bs e most).1.length ≤ bs.length := by
  unfold stepText
  split
  · unfold textOf
    split
    · simp
    · split
      · simp
      · split
        · simp
        · simp only [List.length_take, List.length_drop]
          omega
  · simp
end Go.Proofs.YtahcokfoifdlmaaGreatDoor.Tr
namespace Go.Proofs.YtahcokfoifdlmaaGreatDoor.Tr
open Go Go.RowKit Kt Lw Li Lx Df Wr

theorem rdp_grown {w w' : World} {S : Nat → Prop} {g : Nat} {bs : Bs} {e : Nat} {r : Option Nat} (h : RdP w S g bs e) (hg : w.grownBy w' r) (hr : ∀ b, r = some b → ¬ S b) : RdP w' S g bs e := by
  obtain ⟨A, c, hrow, hs, hB, h1⟩ := h
  refine ⟨A, c, ?_, hs.move fun b hb hlt => hg.block b hlt fun e => hr b e.symm hb.1, hB, h1⟩
  exact (hg.block g hrow.lt fun e => hr g e.symm hB).trans hrow
end Go.Proofs.YtahcokfoifdlmaaGreatDoor.Tr
namespace Go.Proofs.YtahcokfoifdlmaaGreatDoor.Tr
open Go Go.RowKit Kt Lw Li Lx Df Wr

/-- what the library's variables, and the tables, hold -/
structure Env (w : World) : Prop where
  most : Most w
  tab : Dg.Tab w
  tabR : Dg.TabR w
theorem Env.keep {w w' : World} (h : Env w) (hb : Below w.heap.size w w') : Env w' := ⟨h.most.keep hb, h.tab.below hb, h.tabR.below hb⟩
def f0 : Fl := ⟨[97], [98]⟩
def b0 : Bs := [1, 1, 97, 1, 98]
end Go.Proofs.YtahcokfoifdlmaaGreatDoor.Tr
namespace Go.Proofs.YtahcokfoifdlmaaGreatDoor.Tr
open Go Go.RowKit Kt Lw Li Lx Df Wr

def pencode (p : Pch) : Bs × Nat := if pright p then (pform p, 0) else ([], 1)
def pname (p : Pch) : Bs := if pright p then Sha.sha (pform p) else []
/-- a patch in memory -/
structure PIn (w : World) (p : Pch) (Ai Ac : Option Addr) (ci cc : Nat) : Prop where
  ids : Vs w (fun _ => True) Ai ci (texts p.ids)
  chs : Chs w Ac cc p.chs
  li : ∀ q ∈ p.ids, q.length ≤ 9223372036854775807
  lc : ∀ f ∈ p.chs, f.path.length ≤ 9223372036854775807 ∧ f.text.length ≤ 9223372036854775807
  l1 : p.ids.length ≤ 9223372036854775807
  l2 : p.author.length ≤ 9223372036854775807
  l3 : p.note.length ≤ 9223372036854775807
  l4 : p.chs.length ≤ 9223372036854775807
theorem PIn.keep {w w' : World} {p : Pch} {Ai Ac : Option Addr} {ci cc : Nat} (h : PIn w p Ai Ac ci cc) (hb : Below w.heap.size w w') : PIn w' p Ai Ac ci cc :=
  ⟨Lw.Vs.below h.ids hb, h.chs.keep hb, h.li, h.lc, h.l1, h.l2, h.l3, h.l4⟩
theorem pform_short {p : Pch} (h : withinB p = true) : (pform p).length ≤ 10000000 := by
  obtain ⟨i1, i2, i3, i4, i5, i6⟩ := within_is h
  have h1 := ids_put i5 i1 p.ids.length
  have h2 := chs_put i6 i4 p.chs.length
  rw [List.take_length] at h1 h2
  have h3 := txt_len (s := p.author) (by omega)
  have h4 := txt_len (s := p.note) (by omega)
  have h5 := form_len (n := p.ids.length) (by omega)
  have h6 := form_len (n := p.chs.length) (by omega)
  unfold pform
  simp only [List.length_append]
  omega
set_option maxRecDepth 100000 in
set_option maxHeartbeats 4000000 in
theorem pencode_any (p : Pch) (Ai Ac : Option Addr) (ci cc : Nat) (w : World) (hp : PIn w p Ai Ac ci cc) (hE : Most w) :
    Calls Tryz.prog 12 #[PchV p Ai Ac ci cc] w fun y w' => ∃ v, y = .returned (.tuple #[v, .int .i64 ((pencode p).2 : Nat)]) ∧ Own w' w.heap.size 5 v (pencode p).1 ∧ Below w.heap.size w w' := by
  have HW := hide (fun (wz : World) (h : Below w.heap.size w wz) => within_any p Ai Ac ci cc _ wz (hp.keep h).ids (hp.keep h).chs (hE.keep h) hp.li hp.lc hp.l1 hp.l2 hp.l3 hp.l4)
  have HF := hide (fun (hw : withinB p = true) (wz : World) (h : Below w.heap.size w wz) => pform_any p Ai Ac ci cc _ wz (hp.keep h).ids (hp.keep h).chs hw)
  have HS := hide (pform_short (p := p))
  have HPr := hide (pright_within p)
  have HEn := hide (show pencode p = if pright p then (pform p, 0) else ([], 1) from rfl)
  generalize pform p = bs at *
  generalize withinB p = wi at *
  generalize pright p = pr at *
  generalize pencode p = en at *
  obtain ⟨N, hN⟩ : ∃ n, n = p.ids.length := ⟨_, rfl⟩
  obtain ⟨M, hM⟩ : ∃ n, n = p.chs.length := ⟨_, rfl⟩
  unfold PchV at HW HF ⊢
  rw [← hN, ← hM] at HW HF ⊢
  generalize p.author = a at *
  generalize p.note = o at *
  clear hp hE hN hM
  obtain ⟨g, hg⟩ : ∃ g, g = w.heap.size := ⟨_, rfl⟩
  obtain ⟨w1, hw1⟩ : ∃ w1, w1 = w.alloc (.cells #[.slice Ai N ci, .string ⟨a.toArray⟩, .string ⟨o.toArray⟩, .slice Ac M cc] tP) := ⟨_, rfl⟩
  have hrow := Row.fresh w tP #[.slice Ai N ci, .string ⟨a.toArray⟩, .string ⟨o.toArray⟩, .slice Ac M cc]
  have hb1 : Below w.heap.size w w1 := by rw [hw1]; exact (Below.refl _ w).alloc (Nat.le_refl _) _
  rw [← hw1, ← hg] at hrow
  have HC := hide (show ∀ wz, Below w1.heap.size w1 wz → wz.cell? ⟨g, 0, none⟩ = some (.slice Ai N ci) ∧ wz.cell? ⟨g, 1, none⟩ = some (.string ⟨a.toArray⟩) ∧ wz.cell? ⟨g, 2, none⟩ = some (.string ⟨o.toArray⟩) ∧ wz.cell? ⟨g, 3, none⟩ = some (.slice Ac M cc) from fun wz hz => by
    have hr := hrow.below hz hrow.lt
    exact ⟨hr.cell 0, hr.cell 1, hr.cell 2, hr.cell 3⟩)
  have Hb1 := hide hb1
  have W1 := hide hw1
  have G1 := hide hg
  clear hrow hb1 hw1 hg
  obtain ⟨k0, k1, k2, k3⟩ := HC.out w1 (Below.refl _ _)
  go_enter Tryz.func12, Tryz.ntmps12
  go_wp2_with (first | rw [← W1.out, ← G1.out] | fail)
  refine (HW.out w1 Hb1.out).mono ?_
  rintro y w2 ⟨rfl, hb2⟩
  have Hb12 := hide hb2
  have Hb2 := hide (Hb1.out.trans (hb2.mono Hb1.out.size))
  clear k0 k1 k2 k3 hb2 HW
  obtain ⟨k0, k1, k2, k3⟩ := HC.out w2 Hb12.out
  cases wi with
  | false =>
    have He := hide (show en = ([], 1) by rw [HEn.out, HPr.out]; rfl)
    clear HEn HPr HF HS
    go_wp2
    go_ret2
    exact ⟨_, by rw [He.out]; rfl, by rw [He.out]; exact Own.nil _ _ _, Hb2.out⟩
  | true =>
    have hl := HS.out rfl
    go_wp2_with fail
    refine (HF.out (by trivial) w2 Hb2.out).mono ?_
    rintro y w3 ⟨v3, rfl, hown3, hb3⟩
    have Hown3 := hide (own_based hown3 Hb2.out.size)
    have Hb3 := hide (Hb2.out.trans (hb3.mono Hb2.out.size))
    obtain ⟨A3, c3, rfl, _⟩ := hown3.sl
    clear k0 k1 k2 k3 hown3 hb3 HF
    obtain ⟨n, hn⟩ : ∃ n, n = bs.length := ⟨_, rfl⟩
    rw [← hn] at hl Hown3 HPr ⊢
    by_cases hlong : n ≤ 131072
    · have He := hide (show en = (bs, 0) by rw [HEn.out, HPr.out, decide_eq_true hlong]; rfl)
      have d1 : decide (131072 < (n : Int)) = false := decide_eq_false (by omega)
      have d2 : decide (131072 < n) = false := decide_eq_false (by omega)
      clear HEn HPr HS hlong hn
      go_wp2
      go_ret2
      exact ⟨_, by rw [He.out]; rfl, by rw [He.out]; exact Hown3.out, Hb3.out⟩
    · have He := hide (show en = ([], 1) by rw [HEn.out, HPr.out, decide_eq_false hlong]; rfl)
      have d1 : decide (131072 < (n : Int)) = true := decide_eq_true (by omega)
      have d2 : decide (131072 < n) = true := decide_eq_true (by omega)
      clear HEn HPr HS hlong hn
      go_wp2
      go_ret2
      exact ⟨_, by rw [He.out]; rfl, by rw [He.out]; exact Own.nil _ _ _, Hb3.out⟩
end Go.Proofs.YtahcokfoifdlmaaGreatDoor.Tr
namespace Go.Proofs.YtahcokfoifdlmaaGreatDoor.Tr
open Go Go.RowKit Kt Lw Li Lx Df Wr

set_option maxRecDepth 100000 in
set_option maxHeartbeats 4000000 in
theorem pright_any (p : Pch) (Ai Ac : Option Addr) (ci cc : Nat) (w : World) (hp : PIn w p Ai Ac ci cc) (hM0 : Most w) :
    Calls Tryz.prog 8 #[PchV p Ai Ac ci cc] w fun y w' => y = .returned (.bool (pright p)) ∧ Below w.heap.size w w' := by
  have HE := hide (fun (wz : World) (h : Below w.heap.size w wz) => pencode_any p Ai Ac ci cc wz (hp.keep h) (hM0.keep h))
  obtain ⟨N, hN⟩ : ∃ n, n = p.ids.length := ⟨_, rfl⟩
  obtain ⟨M, hM⟩ : ∃ n, n = p.chs.length := ⟨_, rfl⟩
  have hpr := show pencode p = if pright p then (pform p, 0) else ([], 1) from rfl
  unfold PchV at HE ⊢
  rw [← hN, ← hM] at HE ⊢
  generalize p.author = a at *
  generalize p.note = o at *
  clear hp hM0 hN hM
  obtain ⟨g, hg⟩ : ∃ g, g = w.heap.size := ⟨_, rfl⟩
  obtain ⟨w1, hw1⟩ : ∃ w1, w1 = w.alloc (.cells #[.slice Ai N ci, .string ⟨a.toArray⟩, .string ⟨o.toArray⟩, .slice Ac M cc] tP) := ⟨_, rfl⟩
  have hrow := Row.fresh w tP #[.slice Ai N ci, .string ⟨a.toArray⟩, .string ⟨o.toArray⟩, .slice Ac M cc]
  have hb1 : Below w.heap.size w w1 := by rw [hw1]; exact (Below.refl _ w).alloc (Nat.le_refl _) _
  rw [← hw1, ← hg] at hrow
  have k0 := hrow.cell 0
  have k1 := hrow.cell 1
  have k2 := hrow.cell 2
  have k3 := hrow.cell 3
  simp only [List.getElem?_cons_zero, List.getElem?_cons_succ] at k0 k1 k2 k3
  have Hb1 := hide hb1
  have W1 := hide hw1
  have G1 := hide hg
  clear hrow hb1 hw1 hg
  go_enter Tryz.func8, Tryz.ntmps8
  go_wp2_with (first | rw [← W1.out, ← G1.out] | fail)
  refine (HE.out w1 Hb1.out).mono ?_
  rintro y w2 ⟨v2, rfl, _, hb2⟩
  have Hb2 := hide (Hb1.out.trans (hb2.mono Hb1.out.size))
  clear k0 k1 k2 k3 hb2 HE
  cases hr : pright p with
  | true =>
    rw [hr] at hpr
    rw [show (pencode p).2 = 0 by rw [hpr]; rfl]
    have Hr := hide hr
    clear hpr hr
    go_wp2
    go_ret
    exact ⟨by rw [Hr.out]; rfl, Hb2.out⟩
  | false =>
    rw [hr] at hpr
    rw [show (pencode p).2 = 1 by rw [hpr]; rfl]
    have Hr := hide hr
    clear hpr hr
    go_wp2
    go_ret
    exact ⟨by rw [Hr.out]; rfl, Hb2.out⟩
set_option maxRecDepth 100000 in
set_option maxHeartbeats 4000000 in
theorem pname_any (p : Pch) (Ai Ac : Option Addr) (ci cc : Nat) (w : World) (hp : PIn w p Ai Ac ci cc) (hM0 : Most w) (ht : Dg.Tab w) :
    Calls Tryz.prog 17 #[PchV p Ai Ac ci cc] w fun y w' => y = .returned (.string ⟨(pname p).toArray⟩) ∧ Below w.heap.size w w' := by
  have HE := hide (fun (wz : World) (h : Below w.heap.size w wz) => pencode_any p Ai Ac ci cc wz (hp.keep h) (hM0.keep h))
  have Ht := hide ht
  obtain ⟨N, hN⟩ : ∃ n, n = p.ids.length := ⟨_, rfl⟩
  obtain ⟨M, hM⟩ : ∃ n, n = p.chs.length := ⟨_, rfl⟩
  have hpr := show pencode p = if pright p then (pform p, 0) else ([], 1) from rfl
  have hnm := show pname p = if pright p then Sha.sha (pform p) else [] from rfl
  have hsz : pright p = true → (pform p).length ≤ 131072 := fun h => (pright_is h).2.2.2.2.2.2
  unfold PchV at HE ⊢
  rw [← hN, ← hM] at HE ⊢
  generalize p.author = a at *
  generalize p.note = o at *
  clear ht hp hM0 hN hM
  obtain ⟨g, hg⟩ : ∃ g, g = w.heap.size := ⟨_, rfl⟩
  obtain ⟨w1, hw1⟩ : ∃ w1, w1 = w.alloc (.cells #[.slice Ai N ci, .string ⟨a.toArray⟩, .string ⟨o.toArray⟩, .slice Ac M cc] tP) := ⟨_, rfl⟩
  have hrow := Row.fresh w tP #[.slice Ai N ci, .string ⟨a.toArray⟩, .string ⟨o.toArray⟩, .slice Ac M cc]
  have hb1 : Below w.heap.size w w1 := by rw [hw1]; exact (Below.refl _ w).alloc (Nat.le_refl _) _
  rw [← hw1, ← hg] at hrow
  have k0 := hrow.cell 0
  have k1 := hrow.cell 1
  have k2 := hrow.cell 2
  have k3 := hrow.cell 3
  simp only [List.getElem?_cons_zero, List.getElem?_cons_succ] at k0 k1 k2 k3
  have Hb1 := hide hb1
  have W1 := hide hw1
  have G1 := hide hg
  clear hrow hb1 hw1 hg
  go_enter Tryz.func17, Tryz.ntmps17
  go_wp2_with (first | rw [← W1.out, ← G1.out] | fail)
  refine (HE.out w1 Hb1.out).mono ?_
  rintro y w2 ⟨v2, rfl, hown2, hb2⟩
  have Hb2 := hide (Hb1.out.trans (hb2.mono Hb1.out.size))
  clear k0 k1 k2 k3 hb2 HE
  cases hr : pright p with
  | true =>
    rw [hr, if_pos rfl] at hpr hnm
    have Hnm := hide hnm
    have hsz1 := hsz hr
    rw [hpr] at hown2 ⊢
    simp only at hown2 ⊢
    generalize pform p = bs at *
    obtain ⟨A1, c1, rfl, hsl⟩ := hown2.sl
    have HO := hide (Dg.of_any bs A1 c1 _ w2 hsl (Ht.out.below Hb2.out) (by omega))
    obtain ⟨nb, hnb⟩ : ∃ z, z = bs.length := ⟨_, rfl⟩
    rw [← hnb] at HO ⊢
    clear hpr hr hnm hsz hsz1 hown2 hsl hnb
    go_wp2_with fail
    refine HO.out.mono ?_
    rintro y w3 ⟨rfl, hb3⟩
    have Hb3 := hide (Hb2.out.trans (hb3.mono Hb2.out.size))
    clear hb3 HO
    go_wp2
    go_ret
    exact ⟨by rw [Hnm.out]; rfl, Hb3.out⟩
  | false =>
    rw [hr] at hpr hnm
    have Hnm := hide (show pname p = [] by rw [hnm]; rfl)
    rw [show (pencode p).2 = 1 by rw [hpr]; rfl]
    clear hpr hr hnm hsz hown2
    go_wp2
    go_ret
    exact ⟨by rw [Hnm.out]; rfl, Hb2.out⟩
end Go.Proofs.YtahcokfoifdlmaaGreatDoor.Tr
