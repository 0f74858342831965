/-
  The reference's Regions, piece by piece: its edits are marked; what nobody changed; a cluster's kind.
-/
import Derived.BigQuiet
import Derived.Test.YtahcokfoifdlmaaGreatDoorQKN
import Derived.Test.YtahcokfoifdlmaaGreatDoorQWS
import Derived.Test.YtahcokfoifdlmaaGreatDoorQKR
import Derived.Test.YtahcokfoifdlmaaGreatDoorQWA
import Derived.Test.YtahcokfoifdlmaaGreatDoorQJS
import Derived.Test.YtahcokfoifdlmaaGreatDoorQEB
import Derived.Test.YtahcokfoifdlmaaGreatDoorQRS
import Derived.Deep.CutBlock
import Derived.Deep.DeepCutAuto
import Derived.Test.YtahcokfoifdlmaaGreatDoorQNA
import Derived.Test.YtahcokfoifdlmaaGreatDoorQQG
import Derived.Test.YtahcokfoifdlmaaGreatDoorOF
import Derived.Test.YtahcokfoifdlmaaGreatDoorMP
import Derived.Test.YtahcokfoifdlmaaGreatDoorQLC
import Derived.IntWalk
import Derived.Test.YtahcokfoifdlmaaGreatDoorQMF
import Derived.Test.YtahcokfoifdlmaaGreatDoorQWK
import Derived.SizedLaws
import Derived.Test.YtahcokfoifdlmaaGreatDoorLaw
import Derived.Test.YtahcokfoifdlmaaGreatDoorRows
import Derived.LaidSub
import Derived.Shelf.Vars
import Derived.Lib.LaidTab
namespace Go.Proofs.YtahcokfoifdlmaaGreatDoor.Al
open Go Go.RowKit Kt Kg Lw Li Df Kf

def neg (e : Ed) : Ed := ⟨-1, e.del, e.ins⟩
theorem flat_set {α : Type} (f : α → List Value) (n : Nat) (hf : ∀ a, (f a).length = n) : ∀ (l : List α) (i k : Nat) (a a' : α) (u : Value), l[i]? = some a → k < n → f a' = (f a).set k u → (l.set i a').flatMap f = (l.flatMap f).set (n * i + k) u
  | [], i, k, a, a', u, h, _, _ => by simp at h
  | x :: l, 0, k, a, a', u, h, hk, he => by
    simp at h
    subst h
    rw [List.set_cons_zero, List.flatMap_cons, List.flatMap_cons, he, Nat.mul_zero, Nat.zero_add, List.set_append_left _ _ (by rw [hf]; exact hk)]
  | x :: l, i + 1, k, a, a', u, h, hk, he => by
    rw [List.set_cons_succ, List.flatMap_cons, List.flatMap_cons, flat_set f n hf l i k a a' u (by simpa using h) hk he, List.set_append_right _ _ (by rw [hf, Nat.mul_succ]; omega), hf]
    congr 2
    rw [Nat.mul_succ]; omega
end Go.Proofs.YtahcokfoifdlmaaGreatDoor.Al
namespace Go.Proofs.YtahcokfoifdlmaaGreatDoor.Df
open Go Go.RowKit Kt Lw

def OwL (w : World) (B g cap : Nat) (vi : Value) (O : List Ed) (e : Ed) : Prop :=
  ∃ V : List (Ed × Value), V.map (·.1) = O ∧ w.ownsRow B tE 3 (.slice (some ⟨g, 0, none⟩) (O.length + 1) cap) (O.length + 1) (V.flatMap pairC ++ edC e vi) ∧ (∀ p ∈ V, OwT w B tS p.2 p.1.ins) ∧ OwT w B tS vi e.ins ∧
    ∀ p ∈ V, ∀ b, vi.ownBlock = some b → p.2.ownBlock ≠ some b
theorem row_own {w : World} {B g cap n : Nat} {xs : List Value} {u : Value} {l : Ls} (h : w.ownsRow B tE 3 (.slice (some ⟨g, 0, none⟩) n cap) n xs) (hu : OwT w B tS u l) : u.ownBlock ≠ some g := by
  intro hee
  rcases hu.2 with ⟨rfl, _⟩ | ⟨g', cap', cur', rfl, _, hgg', _⟩
  · cases hee
  · simp only [Value.ownBlock, Option.some.injEq] at hee
    subst hee
    rcases h.2 with ⟨h', _⟩ | ⟨g2, cap2, cur2, h', _, hgg2, _⟩
    · cases h'
    · simp only [Value.slice.injEq, Option.some.injEq, Addr.mk.injEq, and_true, true_and] at h'
      obtain ⟨rfl, _⟩ := h'
      rw [hgg'] at hgg2
      simp [tS, tE] at hgg2
section
variable {w w' : World} {B g cap : Nat} {vi : Value} {O : List Ed} {e : Ed}
theorem OwL.owe (h : OwL w B g cap vi O e) : OwE w B (.slice (some ⟨g, 0, none⟩) (O.length + 1) cap) (O ++ [e]) := by
  obtain ⟨V, hV, hr, hi, hv, _⟩ := h
  refine ⟨V ++ [(e, vi)], by simp [hV], ?_, fun p hp => ?_⟩
  · rw [List.flatMap_append, List.length_append]
    exact hr
  · rcases List.mem_append.1 hp with hp | hp
    · exact hi p hp
    · obtain rfl : p = (e, vi) := by simpa using hp
      exact hv
theorem OwL.flat (V : List (Ed × Value)) (hV : V.map (·.1) = O) : (V.flatMap pairC).length = O.length * 3 := by
  rw [flat_len pairC 3 pairC_len, ← hV, List.length_map]
theorem OwL.cell (h : OwL w B g cap vi O e) {N : Nat} (hN : N = O.length) (k : Nat) (hk : k < 3) : w.cell? ⟨g, N * 3 + k, none⟩ = (edC e vi)[k]? ∧ w.frozen? ⟨g, N * 3 + k, none⟩ = false := by
  subst hN
  obtain ⟨V, hV, hr, hi, hv, _⟩ := h
  refine ⟨?_, World.ownsRow.frozenAt hr _⟩
  rw [World.ownsRow.cellAt hr _ (by omega), List.getElem?_append_right (by rw [OwL.flat V hV]; omega), OwL.flat V hV, Nat.add_sub_cancel_left]
theorem OwL.lt (h : OwL w B g cap vi O e) : B ≤ g ∧ g < w.heap.size ∧ O.length + 1 ≤ cap := by
  obtain ⟨V, hV, hr, hi, hv, _⟩ := h
  have h2 := World.ownsRow.lt hr g rfl
  refine ⟨h2.1, h2.2, ?_⟩
  rcases hr.2 with ⟨h', _⟩ | ⟨g2, cap2, cur2, h', _, _, h3, _⟩
  · cases h'
  · simp only [Value.slice.injEq, Option.some.injEq, Addr.mk.injEq, and_true, true_and] at h'
    obtain ⟨_, rfl⟩ := h'
    exact h3
theorem OwL.keep (h : OwL w B g cap vi O e) (hb : Below w.heap.size w w') : OwL w' B g cap vi O e := by
  obtain ⟨V, hV, hr, hi, hv, hd⟩ := h
  refine ⟨V, hV, ⟨hr.1, ?_⟩, fun p hp => (hi p hp).kept hb, hv.kept hb, hd⟩
  rcases hr.2 with ⟨h1, h2⟩ | ⟨g, cap, cur, hv', h1, h2, h3⟩
  · exact .inl ⟨h1, h2⟩
  · exact .inr ⟨g, cap, cur, hv', h1, (hb.block g (Array.getElem?_eq_some_iff.1 h2).1).trans h2, h3⟩
end
section
variable {w w' : World} {B g cap : Nat} {vi : Value} {O : List Ed} {e : Ed}
theorem OwL.grown (h : OwL w B g cap vi O e) {N : Nat} (hN : N = O.length) (hg1 : w.grownBy w' vi.ownBlock) (k : Nat) (hk : k < 3) : w'.cell? ⟨g, N * 3 + k, none⟩ = (edC e vi)[k]? ∧ w'.frozen? ⟨g, N * 3 + k, none⟩ = false := by
  subst hN
  obtain ⟨V, hV, hr, hi, hv, hd⟩ := h
  have hr1 := World.ownsRow.kept hr hg1 (.inr (fun h => row_own hr hv h.symm))
  refine ⟨?_, World.ownsRow.frozenAt hr1 _⟩
  rw [World.ownsRow.cellAt hr1 _ (by omega), List.getElem?_append_right (by rw [OwL.flat V hV]; omega), OwL.flat V hV, Nat.add_sub_cancel_left]
theorem OwL.drewN (h : OwL w B g cap vi O e) (n : Nat) : OwL (w.drewN n) B g cap vi O e := h
theorem OwL.drew (h : OwL w B g cap vi O e) : OwL w.drew B g cap vi O e := h
theorem OwL.ins (h : OwL w B g cap vi O e) : OwT w B tS vi e.ins := by
  obtain ⟨V, hV, hr, hi, hv, hd⟩ := h
  exact hv
end
end Go.Proofs.YtahcokfoifdlmaaGreatDoor.Df
namespace Go.Proofs.YtahcokfoifdlmaaGreatDoor.Df
open Go Go.RowKit Kt Lw Li

theorem flat_set : ∀ (V : List (Ed × Value)) (i : Nat) (e : Ed) (vi : Value) (p : Int), V[i]? = some (e, vi) → (V.set i (⟨p, e.del, e.ins⟩, vi)).flatMap pairC = (V.flatMap pairC).set (i * 3) (.int .i64 p)
  | [], i, e, vi, p, h => by simp at h
  | q :: V, 0, e, vi, p, h => by
    simp at h
    subst h
    rfl
  | q :: V, i + 1, e, vi, p, h => by
    rw [List.set_cons_succ, List.flatMap_cons, List.flatMap_cons, flat_set V i e vi p (by simpa using h), List.set_append_right _ _ (by rw [pairC_len]; omega), pairC_len]
    congr 2
    omega
theorem OwE.form {w : World} {B : Nat} {v : Value} {L : List Ed} (h : OwE w B v L) (hn : 0 < L.length) : ∃ g cap, v = .slice (some ⟨g, 0, none⟩) L.length cap ∧ B ≤ g := by
  obtain ⟨V, _, hr, _⟩ := h
  rcases hr.2 with ⟨_, h0⟩ | ⟨g, cap, cur, hv, hB, _⟩
  · omega
  · exact ⟨g, cap, hv, hB⟩
/-- an edit's place, turned where it lies -/
theorem OwE.turned {w : World} {B g cap i : Nat} {M : List Ed} {e : Ed} (h : OwE w B (.slice (some ⟨g, 0, none⟩) M.length cap) M) (he : M[i]? = some e) :
    (w.cell? ⟨g, i * 3, none⟩ = some (.int .i64 e.pos) ∧ w.frozen? ⟨g, i * 3, none⟩ = false) ∧ ∀ p : Int, OwE (w.setCell ⟨g, i * 3, none⟩ (.int .i64 p)) B (.slice (some ⟨g, 0, none⟩) M.length cap) (M.set i ⟨p, e.del, e.ins⟩) := by
  obtain ⟨V, hV, hr, hi⟩ := h
  have hil : i < M.length := (List.getElem?_eq_some_iff.1 he).1
  subst hV
  rw [List.getElem?_map] at he
  cases hp : V[i]? with
  | none => rw [hp] at he; cases he
  | some q =>
    rw [hp] at he
    simp at he
    obtain ⟨e', vi⟩ := q
    simp at he
    subst he
    rw [List.length_map] at hil hr ⊢
    refine ⟨⟨?_, World.ownsRow.frozenAt hr _⟩, fun p => ?_⟩
    · rw [World.ownsRow.cellAt hr (i * 3) (by omega), Nat.mul_comm, show 3 * i = 3 * i + 0 from rfl, flat_at pairC 3 pairC_len V i 0 _ hp (by omega)]
      rfl
    · obtain ⟨hst, hg⟩ := World.ownsRow.stored hr (i * 3) (.int .i64 p)
      refine ⟨V.set i (⟨p, e'.del, e'.ins⟩, vi), by rw [List.map_set], ?_, fun q hq => ?_⟩
      · rw [flat_set V i e' vi p hp, List.length_set, List.length_map]
        exact hst
      · have key : ∀ (u : Value) (l : Ls), OwT w B tS u l → OwT (w.setCell ⟨g, i * 3, none⟩ (.int .i64 p)) B tS u l := by
          intro u l hu
          refine World.ownsRow.kept hu hg ?_
          rcases hu.2 with ⟨rfl, _⟩ | ⟨g', cap', cur', rfl, _, hgg', _⟩
          · exact .inl rfl
          · right
            intro hee
            simp only [Value.ownBlock, Option.some.injEq] at hee
            subst hee
            rcases hr.2 with ⟨h', _⟩ | ⟨g2, cap2, cur2, h', _, hgg2, _⟩
            · cases h'
            · simp only [Value.slice.injEq, Option.some.injEq, Addr.mk.injEq, and_true, true_and] at h'
              obtain ⟨rfl, _⟩ := h'
              rw [hgg'] at hgg2
              simp [tS, tE] at hgg2
        rcases List.mem_or_eq_of_mem_set hq with hq | hq
        · exact key _ _ (hi q hq)
        · subst hq
          exact key _ _ (hi (e', vi) (List.mem_of_getElem? hp))
theorem flat_le (M : Nat) : ∀ l : Ls, (∀ s ∈ l, s.length ≤ M) → l.flatten.length ≤ l.length * M
  | [], _ => by simp
  | a :: l, h => by
    have := flat_le M l fun s hs => h s (by simp [hs])
    have := h a (by simp)
    rw [List.flatten_cons, List.length_append, List.length_cons, Nat.succ_mul]
    omega
end Go.Proofs.YtahcokfoifdlmaaGreatDoor.Df
namespace Go.Proofs.YtahcokfoifdlmaaGreatDoor.Df
open Go Go.RowKit Kt Lw Li

/-- the row behind i lines, as far as place k -/
def Lined (x y : Ls) (i k : Nat) (L : List Int) : Prop := ∀ j, j ≤ k → L.getD j 0 = (lcs (x.take i) (y.take j) : Nat)
theorem Lined.first (x y : Ls) (k N : Nat) : Lined x y 0 k (List.replicate N 0) := by
  intro j _
  rw [List.take_zero, lcs_nil_left, List.getD_eq_getElem?_getD, List.getElem?_replicate]
  split <;> rfl
theorem Lined.start (x y : Ls) (i N : Nat) : Lined x y i 0 (List.replicate N 0) := by
  intro j hj
  obtain rfl : j = 0 := by omega
  rw [List.take_zero, lcs_nil_right, List.getD_eq_getElem?_getD, List.getElem?_replicate]
  split <;> rfl
theorem Lined.step {x y : Ls} {i k : Nat} {L : List Int} (h : Lined x y i k L) (hk : k + 1 < L.length) (z : Int) (hz : z = (lcs (x.take i) (y.take (k + 1)) : Nat)) : Lined x y i (k + 1) (L.set (k + 1) z) := by
  intro j hj
  rw [set_getD _ _ _ _ hk]
  split
  · rename_i e; rw [hz, e]
  · exact h j (by omega)
end Go.Proofs.YtahcokfoifdlmaaGreatDoor.Df
namespace Go.Proofs.YtahcokfoifdlmaaGreatDoor.Df
open Go Go.RowKit Kt Lw

/-- the state of the reference's loop -/
def St (w : World) (B : Nat) (v u : Value) (q : Nat) (xs ys : Ls) (T : List Ed) : Prop :=
  (u = .bool false ∧ ∃ L, OwE w B v L ∧ L ++ go xs ys q 0 [] = T ∧ L.length + xs.length + ys.length ≤ 1400) ∨
  (u = .bool true ∧ ∃ g cap Ai ci O p d I, v = .slice (some ⟨g, 0, none⟩) (O.length + 1) cap ∧ OwL w B g cap (.slice Ai I.length ci) O ⟨(p : Nat), (d : Nat), I⟩ ∧ (d ≠ 0 ∨ I ≠ []) ∧ q = p + d ∧ O ++ go xs ys p d I = T ∧ O.length + 1 + xs.length + ys.length ≤ 1400 ∧ I.length + ys.length ≤ 1400)
theorem St.drewN {w : World} {B : Nat} {v u : Value} {q : Nat} {xs ys : Ls} {T : List Ed} (h : St w B v u q xs ys T) (n : Nat) : St (w.drewN n) B v u q xs ys T := h
theorem St.ends {w : World} {B : Nat} {v u : Value} {q : Nat} {T : List Ed} (h : St w B v u q [] [] T) : OwE w B v T := by
  rcases h with ⟨rfl, L, h1, h2, h3⟩ | ⟨rfl, g, cap, Ai, ci, O, p, d, I, rfl, h1, h2, rfl, h3, h4, h5⟩
  · rw [go_nil] at h2
    have : L = T := by simpa [emit] using h2
    rw [← this]
    exact h1
  · rw [go_nil] at h3
    rw [← h3]
    unfold emit
    rw [if_neg (by intro h; rcases h2 with h2 | h2; exact h2 h.1; exact h2 h.2)]
    exact h1.owe
end Go.Proofs.YtahcokfoifdlmaaGreatDoor.Df
namespace Go.Proofs.YtahcokfoifdlmaaGreatDoor.Df
open Go Go.RowKit Kt Lw Li

theorem OwE.lit {w : World} {B : Nat} {e : Ed} {vi : Value} (h : OwT w B tS vi e.ins) (hB : B ≤ w.heap.size) : OwE (w.alloc (.cells (edC e vi).toArray tE)) B (.slice (some ⟨w.heap.size, 0, none⟩) 1 1) [e] := by
  refine ⟨[(e, vi)], rfl, ?_, fun p hp => ?_⟩
  · have := World.ownsRow_lit (e := tE) (size := 3) (base := B) w (edC e vi).toArray 1 hB (by decide) rfl
    simpa [pairC] using this
  · obtain rfl : p = (e, vi) := by simpa using hp
    exact OwT.alloc h _
end Go.Proofs.YtahcokfoifdlmaaGreatDoor.Df
namespace Go.Proofs.YtahcokfoifdlmaaGreatDoor.Al
open Go Go.RowKit Kt Kg Lw Li Df Kf

/-- the edits, those gone through marked -/
def cur (F G : List Ed) (U : Nat → Bool) (i : Nat) : Ed := if U i = true then neg (el F G i).2 else (el F G i).2
end Go.Proofs.YtahcokfoifdlmaaGreatDoor.Al
namespace Go.Proofs.YtahcokfoifdlmaaGreatDoor.Al
open Go Go.RowKit Kt Kg Lw Li Df Kf

/-- the first edit that isn't gone through -/
theorem RInv.first {o a b : Ls} {V : List (Bool × Ed)} {s : St} {d : Bool} {e : Ed} {r : List (Bool × Ed)} {U : Nat → Bool} {N no X : Nat} {f1 f2 : Int} (h : RInv o a b V s ((d, e) :: r)) (hN : N = (D o a).length + (D o b).length) (hno : no = o.length) (hX : s.x = X)
    (hU : ∀ i, i < N → (U i = true ↔ el (D o a) (D o b) i ∈ V)) (hF : Fst (cur (D o a) (D o b) U) X (no + 1) N f1 f2) : ∃ f : Nat, f < N ∧ f1 = f ∧ f2 = e.pos ∧ el (D o a) (D o b) f ∈ clu d e r := by
  have hl := h.low
  obtain ⟨i0, hi0, he0⟩ := el_ex (F := D o a) (G := D o b) (p := (d, e)) (by rw [h.all]; simp)
  rw [← hN] at hi0
  have hu0 : U i0 = false := by
    cases hu : U i0
    · rfl
    · have hv := (hU i0 hi0).1 hu
      rw [he0] at hv
      exact absurd (by simp [clu] : (d, e) ∈ clu d e r) (h.apart (.inl hv))
  have hc0 : cur (D o a) (D o b) U i0 = e := by unfold cur; rw [hu0, he0]; simp
  have hle := hl (d, e) (by simp)
  simp only at hle
  rcases hF with ⟨h1, h2, h3⟩ | ⟨f, h1, h2, h3, h4, h5, h6⟩
  · exfalso
    have := h3 i0 hi0
    rw [hc0] at this
    omega
  · have huf : U f = false := by
      cases hu : U f
      · rfl
      · unfold cur at h4
        rw [if_pos hu] at h4
        simp only [neg] at h4
        omega
    have hcf : cur (D o a) (D o b) U f = (el (D o a) (D o b) f).2 := by unfold cur; rw [huf]; simp
    have hmem := el_mem (F := D o a) (G := D o b) (i := f) (by omega)
    have hmr : el (D o a) (D o b) f ∈ (d, e) :: r := by
      rw [h.all] at hmem
      rcases List.mem_append.1 hmem with hm | hm
      · rw [(hU f h1).2 hm] at huf; cases huf
      · exact hm
    have hge : e.pos ≤ (el (D o a) (D o b) f).2.pos := by
      rcases List.mem_cons.1 hmr with hm | hm
      · rw [hm]; exact Int.le_refl _
      · exact (List.pairwise_cons.1 h.inv.srt).1 _ hm
    have hmin := h6 i0 hi0 (by rw [hc0]; omega)
    rw [hc0, hcf] at hmin
    rw [hcf] at h3
    have hlf := hl _ hmr
    refine ⟨f, h1, h2, by omega, h.closed (p := (d, e)) (by simp [clu]) hmem (meetE_iff.2 ⟨?_, ?_⟩)⟩
    · simp only; omega
    · simp only; omega
theorem RInv.none {o a b : Ls} {V : List (Bool × Ed)} {s : St} {U : Nat → Bool} {N no X : Nat} {f1 f2 : Int} (h : RInv o a b V s []) (hN : N = (D o a).length + (D o b).length)
    (hU : ∀ i, i < N → (U i = true ↔ el (D o a) (D o b) i ∈ V)) (hF : Fst (cur (D o a) (D o b) U) X (no + 1) N f1 f2) : f1 = -1 ∧ f2 = no + 1 := by
  rcases hF with ⟨h1, h2, _⟩ | ⟨f, h1, h2, h3, h4, h5, h6⟩
  · exact ⟨h1, h2⟩
  · exfalso
    have hmem := el_mem (F := D o a) (G := D o b) (i := f) (by omega)
    rw [h.all, List.append_nil] at hmem
    have hu := (hU f h1).2 hmem
    unfold cur at h4
    rw [if_pos hu] at h4
    simp only [neg] at h4
    omega
end Go.Proofs.YtahcokfoifdlmaaGreatDoor.Al
namespace Go.Proofs.YtahcokfoifdlmaaGreatDoor.Tr
open Go Go.RowKit Kt Lw Li Lx Df

/-- what is done is so much of what is to do -/
def goes (p : Bs) (l : List Bs) (k : Nat) (dn : Bool) (acc : List Bs) : Prop := acc.length ≤ 2 * k ∧ insP p l = acc ++ insR p dn (l.drop k)
theorem goes.zero (p : Bs) (l : List Bs) : goes p l 0 false [] := ⟨Nat.le_refl _, by rw [List.drop_zero, insR_is]; rfl⟩
theorem goes.ahead {p q : Bs} {l acc : List Bs} {k : Nat} (h : goes p l k false acc) (hd : l.drop k = q :: l.drop (k + 1)) (hq : (q == p) = false) (hl : lt p q = false) : goes p l (k + 1) false (acc ++ [q]) := by
  refine ⟨by have := h.1; simp only [List.length_append, List.length_cons, List.length_nil]; omega, ?_⟩
  rw [h.2, hd, insR, hq, hl, List.append_assoc]; rfl
theorem goes.full {p : Bs} {l acc : List Bs} (h : goes p l l.length true acc) : acc = insP p l := by
  rw [h.2, List.drop_length]; simp [insR]
theorem goes.last {p : Bs} {l acc : List Bs} (h : goes p l l.length false acc) : acc ++ [p] = insP p l := by
  rw [h.2, List.drop_length]; rfl
end Go.Proofs.YtahcokfoifdlmaaGreatDoor.Tr

namespace Go.Proofs.YtahcokfoifdlmaaGreatDoor.Tr
open Go Go.RowKit Kt Lw Li Lx Df Wr Al

/-- what the two sides' trees are, and what becomes of them -/
theorem blend_facts {t : List Fl} {l : List Ch} (s : List Bool) (hl : cgo none l = true) (ht : go none t = true) (ht12 : t.length ≤ 12) (hl12 : l.length ≤ 12) :
    (cgo none (sides l s).1 = true ∧ cgo none (sides l s).2 = true ∧ (sides l s).1.length ≤ 12 ∧ (sides l s).2.length ≤ 12) ∧
    (go none (play t (sides l s).1) = true ∧ (play t (sides l s).1).length ≤ 24) ∧ (go none (play t (sides l s).2) = true ∧ (play t (sides l s).2).length ≤ 24) ∧ (play t l).length ≤ 24 ∧
    trees mgT t (play t (sides l s).1) (play t (sides l s).2) = (play t l, []) ∧ play (play t (sides l s).1) (sides l s).2 = play t l ∧ play (play t (sides l s).2) (sides l s).1 = play t l ∧
    ∀ p, get (play t (sides l s).1) p = get t p ∨ get (play t (sides l s).2) p = get t p := by
  obtain ⟨gx, gy, hd⟩ := sides_go s hl
  have hlen := sides_len l s
  have hm := fun c => sides_mem (l := l) (s := s) (c := c)
  generalize (sides l s).1 = x at *
  generalize (sides l s).2 = y at *
  obtain ⟨a1, a2, _⟩ := play_any gx ht (by omega)
  obtain ⟨b1, b2, _⟩ := play_any gy ht (by omega)
  obtain ⟨z1, z2, _⟩ := play_any hl ht (by omega)
  refine ⟨⟨gx, gy, by omega, by omega⟩, ⟨a1, by omega⟩, ⟨b1, by omega⟩, by omega, trees_blend mgT hl gx gy ht hm hd (by omega), play_sides hl gx gy ht hm hd (by omega), play_sides hl gy gx ht (fun c => (hm c).trans Or.comm) (fun c hc d hd' e => hd d hd' c hc e.symm) (by omega), fun p => ?_⟩
  by_cases h : ∃ c ∈ x, c.path = p
  · obtain ⟨c, hc, rfl⟩ := h
    exact .inr (play_get_out gy ht (by omega) fun d hd' e => hd c hc d hd' e.symm)
  · exact .inl (play_get_out gx ht (by omega) fun c hc e => h ⟨c, hc, e⟩)
theorem row_bool {w : World} {P : Nat → Prop} {A : Option Addr} {c : Nat} {s : List Bool} (h : Vs w P A c (bools s)) {k : Nat} (hk : k < s.length) : ∃ b o, A = some ⟨b, o, none⟩ ∧ P b ∧ w.cell? ⟨b, o + k, none⟩ = some (.bool (s.getD k false)) := by
  obtain ⟨b, o, e, hp, hc⟩ := h.2 (by simp [bools]; omega)
  refine ⟨b, o, e, hp, hc k _ ?_⟩
  simp [bools, List.getD_eq_getElem?_getD, List.getElem?_eq_getElem hk]
theorem grow_two {wr w' : World} {v u : Value} {X Y : List Ch} {e : Ch} {B g len cap : Nat} (hy : OwC wr B u Y) (hxy : Apart v u) (hyx : Apart u v)
    (_h1 : OwC w' B (.slice (some ⟨g, 0, none⟩) len cap) (X ++ [e])) (h3 : wr.grownBy w' v.ownBlock) (h4 : v.ownBlock = some g ∨ wr.heap.size < g) : OwC w' B u Y ∧ Apart (.slice (some ⟨g, 0, none⟩) len cap) u ∧ Apart u (.slice (some ⟨g, 0, none⟩) len cap) := by
  have key : u.ownBlock ≠ some g := fun e => h4.elim (fun h => hxy g h e) fun h => by have := (World.ownsRow.lt hy g e).2; omega
  refine ⟨hy.grown h3 fun g' hg' e => hyx g' hg' e.symm, fun g' hg' e => ?_, fun g' hg' e => ?_⟩
  · obtain rfl : g = g' := by simpa [Value.ownBlock] using hg'
    exact key e
  · obtain rfl : g = g' := by simpa [Value.ownBlock] using e
    exact key hg'
set_option maxRecDepth 100000 in
set_option maxHeartbeats 16000000 in
theorem lawBlends_any (t : List Fl) (l : List Ch) (s : List Bool) (A A' As : Option Addr) (c c' cs : Nat) (w : World) (hs : Fls w A c t) (hl : Chs w A' c' l) (hsi : Vs w (fun b => b < w.heap.size) As cs (bools s)) (hE : Env w) (hm : ∀ f ∈ t, f.path.length ≤ 9223372036854775807 ∧ f.text.length ≤ 9223372036854775807) (hn : t.length ≤ 9223372036854775807)
    (hm' : ∀ f ∈ l, f.path.length ≤ 9223372036854775807 ∧ f.text.length ≤ 9223372036854775807) (hn' : l.length ≤ 9223372036854775807) :
    Calls Tryz.prog 3 #[.slice A t.length c, .slice A' l.length c', .slice As s.length cs] w fun y w' => y = .returned (.bool true) ∧ Below w.heap.size w w' := by
  have HFew := hide (fun (wz : World) (h : Fls wz A c t) => few_any t A c wz h)
  have HFp := hide (fun (wz : World) (h : Chs wz A' c' l) => show Calls Tryz.prog 6 #[.agg #[.slice none 0 0, .string ⟨#[]⟩, .string ⟨#[]⟩, .slice A' l.length c']] wz _ from pfew_any (only l) none A' 0 c' _ wz (pin_only h hm' hn').ids h (Nat.zero_le _) (Nat.zero_le _))
  have HRt := hide (fun (hl : t.length ≤ 12) (wz : World) (h : Fls wz A c t) => rright_any t A c wz h (by omega) (fun f hf => (hm f hf).1))
  have HRp := hide (fun (wz : World) (h : Chs wz A' c' l) (hE : Env wz) => show Calls Tryz.prog 8 #[.agg #[.slice none 0 0, .string ⟨#[]⟩, .string ⟨#[]⟩, .slice A' l.length c']] wz _ from pright_any (only l) none A' 0 c' wz (pin_only h hm' hn') hE.most)
  have HX := hide (fun (h1 : t.length ≤ 12) (h2 : l.length ≤ 12) (g1 : right t = true) (g2 : pright (only l) = true) => (show go none t = true ∧ cgo none l = true ∧ _ from ⟨(right_go g1).1, only_cgo g2, blend_facts s (only_cgo g2) (right_go g1).1 h1 h2⟩))
  have HPl := hide (fun (X : List Fl) (x : List Ch) (h1 : go none X = true) (hn1 : X.length ≤ 24) (g2 : cgo none x = true) (h2 : x.length ≤ 12) (wz : World) (B B' : Option Addr) (d d' : Nat) (h : Fls wz B d X) (h' : Chs wz B' d' x) (hE : Env wz) => play_call X x B B' d d' wz h h' hE.most h1 g2 (by omega))
  have HTr := hide (fun (a b z : List Fl) (h1 : go none t = true) (h2 : go none a = true) (h3 : go none b = true) (n1 : t.length ≤ 24) (n2 : a.length ≤ 24) (n3 : b.length ≤ 24) (hz : trees mgT t a b = (z, [])) (hp : ∀ p, get a p = get t p ∨ get b p = get t p) (wz : World) (Ba Bb : Option Addr) (da db : Nat) (h : Fls wz A c t) (ha : Fls wz Ba da a) (hb : Fls wz Bb db b) => by
    have := btrees_any t a b A Ba Bb c da db wz h ha hb h1 h2 h3 (by omega) (by omega) (by omega) (fun p _ q1 q2 => absurd (hp p) fun x => x.elim q2 q1) (fun p _ q1 q2 => absurd (hp p) fun x => x.elim q2 q1)
    rw [hz] at this
    exact this)
  have HS := hide (fun (X : List Fl) (hn1 : X.length ≤ 24) (wz : World) (B B' : Option Addr) (d d' : Nat) (h1 : Fls wz B d X) (h2 : Fls wz B' d' X) => same_any X X B B' d d' wz h1 h2 (by omega))
  have HFi := hide (fun h => (few_is (t := t) h).1)
  have HFj := hide (fun h => (fewP_is (p := only l) h).2.1)
  have HTk := hide (fun k f (h : l[k]? = some f) => sides_take (s := s) h)
  have HLs := hide (fun k => show (sides (l.take k) s).1.length + (sides (l.take k) s).2.length ≤ l.length by rw [sides_len, List.length_take]; exact Nat.min_le_right _ _)
  have HLst := hide (show sides (l.take l.length) s = sides l s by rw [List.take_length])
  obtain ⟨N, hN⟩ : ∃ N, N = t.length := ⟨_, rfl⟩
  obtain ⟨M, hM⟩ : ∃ N, N = l.length := ⟨_, rfl⟩
  obtain ⟨Ns, hNs⟩ : ∃ N, N = s.length := ⟨_, rfl⟩
  rw [← hN] at HFew HRt HFi HX HTr
  simp only [] at HFj
  rw [← hM] at HFp HRp HFj HX HLs HLst
  rw [← hN, ← hM, ← hNs]
  generalize fewB t = fb at *
  generalize fewP (only l) = gb at *
  generalize right t = rt at *
  generalize pright (only l) = rl at *
  have HM := hide hM
  have HNs := hide hNs
  have HN := hide hN
  have HSi := hide hsi
  have E_0 := hide (hE)
  have B_0 := hide (Below.refl w.heap.size w)
  have F_0 := hide (hs)
  have L_0 := hide (hl)
  have HL0 := hide hl
  clear hE hs hl hm hn hm' hn' hN hM hNs hsi
  go_enter Tryz.func3, Tryz.ntmps3
  go_wp2_with fail
  refine (pwake_any w E_0.out).mono ?_
  rintro y w1 ⟨rfl, hb1⟩
  have E_1 := hide (E_0.out.keep hb1)
  have B_1 := hide (B_0.out.trans (hb1.mono B_0.out.size))
  have F_1 := hide (F_0.out.keep hb1)
  have L_1 := hide (L_0.out.keep hb1)
  clear hb1 E_0 B_0 F_0 L_0
  go_wp2_with fail
  refine (HFew.out w1 F_1.out).mono ?_
  rintro y w2 ⟨rfl, hb2⟩
  have E_2 := hide (E_1.out.keep hb2)
  have B_2 := hide (B_1.out.trans (hb2.mono B_1.out.size))
  have F_2 := hide (F_1.out.keep hb2)
  have L_2 := hide (L_1.out.keep hb2)
  clear hb2 E_1 B_1 F_1 L_1 HFew
  go_wp2_with fail
  refine (HFp.out w2 L_2.out).mono ?_
  rintro y w3 ⟨rfl, hb3⟩
  have E_3 := hide (E_2.out.keep hb3)
  have B_3 := hide (B_2.out.trans (hb3.mono B_2.out.size))
  have F_3 := hide (F_2.out.keep hb3)
  have L_3 := hide (L_2.out.keep hb3)
  clear hb3 E_2 B_2 F_2 L_2 HFp
  cases fb with
  | false =>
    go_wp2
    go_ret
    exact ⟨rfl, B_3.out⟩
  | true =>
    cases gb with
    | false =>
      go_wp2
      go_ret
      exact ⟨rfl, B_3.out⟩
    | true =>
      have h12 := HFi.out rfl
      have m12 := HFj.out rfl
      go_wp2_with fail
      refine (HRt.out h12 w3 F_3.out).mono ?_
      rintro y w4 ⟨rfl, hb4⟩
      have E_4 := hide (E_3.out.keep hb4)
      have B_4 := hide (B_3.out.trans (hb4.mono B_3.out.size))
      have F_4 := hide (F_3.out.keep hb4)
      have L_4 := hide (L_3.out.keep hb4)
      clear hb4 E_3 B_3 F_3 L_3 HRt
      go_wp2_with fail
      refine (HRp.out w4 L_4.out E_4.out).mono ?_
      rintro y w5 ⟨rfl, hb5⟩
      have E_5 := hide (E_4.out.keep hb5)
      have B_5 := hide (B_4.out.trans (hb5.mono B_4.out.size))
      have F_5 := hide (F_4.out.keep hb5)
      have L_5 := hide (L_4.out.keep hb5)
      clear hb5 E_4 B_4 F_4 L_4 HRp
      cases rt with
      | false =>
        go_wp2
        go_ret
        exact ⟨rfl, B_5.out⟩
      | true =>
        cases rl with
        | false =>
          go_wp2
          go_ret
          exact ⟨rfl, B_5.out⟩
        | true =>
          have HXX := hide (HX.out h12 m12 rfl rfl)
          clear HX HFi HFj
          go_wp2
          have HLc := hide (show ∀ wz, Below w5.heap.size w5 wz → Chs wz A' c' l from fun wz h => L_5.out.keep h)
          go_loopw [12, 13, 14] (fun vx vy i wr => ∃ (k : Nat) (v u : Value), v = vx ∧ u = vy ∧ k ≤ M ∧ i = .int .i64 k ∧ OwC wr w5.heap.size v (sides (l.take k) s).1 ∧ OwC wr w5.heap.size u (sides (l.take k) s).2 ∧ Apart v u ∧ Apart u v ∧ Below w5.heap.size w5 wr) (fun _ _ i _ => M - (intOf i).toNat)
          case atStart => exact ⟨0, _, _, rfl, rfl, Nat.zero_le _, rfl, OwC.nil _ _, OwC.nil _ _, fun g h => (by cases h), fun g h => (by cases h), Below.refl _ _⟩
          case round =>
            obtain ⟨k, v, u, rfl, rfl, hk, rfl, hx, hy, hxy, hyx, hb⟩ := hrel
            have Hx := hide hx
            have Hy := hide hy
            have Hxy := hide hxy
            have Hyx := hide hyx
            have Hb := hide hb
            clear hx hy hxy hyx
            by_cases hlt : k < M
            · obtain ⟨b, o, f, rfl, hbl, hkf, _, c0, c1, c2⟩ := (HLc.out w5 (Below.refl _ _)).at hb (k := k) (by have := HM.out; omega)
              have HTk2 := hide (HTk.out k f hkf)
              have Hll := hide (show (sides (l.take k) s).1.length + 1 ≤ 1000000000 ∧ (sides (l.take k) s).2.length + 1 ≤ 1000000000 from by have := HLs.out k; omega)
              clear hkf hbl
              have tail : ∀ bb : Bool, s.getD k false = bb → True := fun _ _ => trivial
              clear tail
              by_cases hns : k < Ns
              · obtain ⟨sb, so, rfl, hpb, hcb⟩ := row_bool HSi.out (k := k) (by have := HNs.out; omega)
                have cbo : wr.cell? ⟨sb, so + k, none⟩ = some (.bool (s.getD k false)) := (World.cell?_of_block (a := ⟨sb, so + k, none⟩) ((hb.block sb (Nat.lt_of_lt_of_le hpb B_5.out.size)).trans (B_5.out.block sb hpb))).trans hcb
                clear hpb hcb hb
                by_cases hsk : s.getD k false = true
                · rw [hsk] at cbo
                  rw [if_pos hsk] at HTk2
                  clear hsk
                  go_wp2_with (at_builtin; go_loud (refine wpList_pushC2 rfl (.tmp 60) (.tmp 65) rfl w5.heap.size w5 _ (sides (l.take k) s).1 f _ rfl rfl rfl Hx.out Hll.out.1 Hb.out Hb.out.size ?_; intro g cap w' h1 h2 h3 h4; have H1 := hide h1; have H2 := hide h2; have H3 := hide (grow_two Hy.out Hxy.out Hyx.out h1 h3 h4); clear h1 h2 h3 h4))
                  exact ⟨⟨k + 1, _, _, rfl, rfl, by omega, by go_num, by rw [HTk2.out]; exact H1.out, by rw [HTk2.out]; exact H3.out.1, H3.out.2.1, H3.out.2.2, H2.out⟩, by simp [intOf]; omega⟩
                · have hsk' : s.getD k false = false := by simpa using hsk
                  rw [hsk'] at cbo
                  rw [if_neg hsk] at HTk2
                  clear hsk hsk'
                  go_wp2_with (at_builtin; go_loud (refine wpList_pushC2 rfl (.tmp 67) (.tmp 72) rfl w5.heap.size w5 _ (sides (l.take k) s).2 f _ rfl rfl rfl Hy.out Hll.out.2 Hb.out Hb.out.size ?_; intro g cap w' h1 h2 h3 h4; have H1 := hide h1; have H2 := hide h2; have H3 := hide (grow_two Hx.out Hyx.out Hxy.out h1 h3 h4); clear h1 h2 h3 h4))
                  exact ⟨⟨k + 1, _, _, rfl, rfl, by omega, by go_num, by rw [HTk2.out]; exact H3.out.1, by rw [HTk2.out]; exact H1.out, H3.out.2.2, H3.out.2.1, H2.out⟩, by simp [intOf]; omega⟩
              · have hsk : ¬ s.getD k false = true := by rw [List.getD_eq_getElem?_getD, List.getElem?_eq_none (by have := HNs.out; omega)]; decide
                rw [if_neg hsk] at HTk2
                clear hsk hb
                go_wp2_with (at_builtin; go_loud (refine wpList_pushC2 rfl (.tmp 67) (.tmp 72) rfl w5.heap.size w5 _ (sides (l.take k) s).2 f _ rfl rfl rfl Hy.out Hll.out.2 Hb.out Hb.out.size ?_; intro g cap w' h1 h2 h3 h4; have H1 := hide h1; have H2 := hide h2; have H3 := hide (grow_two Hx.out Hyx.out Hxy.out h1 h3 h4); clear h1 h2 h3 h4))
                exact ⟨⟨k + 1, _, _, rfl, rfl, by omega, by go_num, by rw [HTk2.out]; exact H3.out.1, by rw [HTk2.out]; exact H1.out, H3.out.2.2, H3.out.2.1, H2.out⟩, by simp [intOf]; omega⟩
            · obtain rfl : k = M := by omega
              rw [HLst.out] at Hx Hy
              obtain ⟨w6, hw6⟩ : ∃ z, z = wr := ⟨_, rfl⟩
              subst hw6
              obtain ⟨gt, gl, ⟨gx, gy, nx, ny⟩, ⟨ga, na⟩, ⟨gb, nb⟩, nz, htr, hp1, hp2, hpt⟩ := HXX.out
              have P1 := hide (HPl.out t (sides l s).1 gt (by have := HN.out; omega) gx nx)
              have P2 := hide (HPl.out t (sides l s).2 gt (by have := HN.out; omega) gy ny)
              have P3 := hide (HPl.out t l gt (by have := HN.out; omega) gl (by have := HM.out; omega))
              have P4 := hide (HPl.out _ (sides l s).2 ga na gy ny)
              have P5 := hide (HPl.out _ (sides l s).1 gb nb gx nx)
              have T1 := hide (HTr.out _ _ _ gt ga gb (by omega) na nb htr hpt)
              have S1 := hide (HS.out _ nz)
              rw [hp1] at P4
              rw [hp2] at P5
              rw [← HN.out] at P1 P2 P3
              rw [← HM.out] at P3
              generalize play t (sides l s).1 = a at *
              generalize play t (sides l s).2 = b at *
              generalize play t l = z at *
              obtain ⟨Ax, cx, rfl, hX⟩ := Hx.out.fls
              obtain ⟨Ay, cy, rfl, hY⟩ := Hy.out.fls
              generalize (sides l s).1 = X at *
              generalize (sides l s).2 = Y at *
              have hb := Hb.out
              have E_6 := hide (E_5.out.keep hb)
              have B_6 := hide (B_5.out.trans (hb.mono B_5.out.size))
              have F_6 := hide (F_5.out.keep hb)
              have L_6 := hide (L_5.out.keep hb)
              have X_6 := hide hX
              have Y_6 := hide hY
              clear hX hY hb Hb Hx Hy Hxy Hyx E_5 B_5 F_5 L_5 gt gl gx gy nx ny ga na gb nb nz htr hp1 hp2 hpt HXX HPl HTr HS HTk HLs HLst HLc HL0 HSi HM HNs HN h12 m12
              go_wp2_with fail
              refine (P1.out w6 A Ax c cx F_6.out X_6.out E_6.out).mono ?_
              rintro y w7 ⟨v7, rfl, hown7, hb7⟩
              obtain ⟨A7, c7, rfl, hf7⟩ := hown7.fls
              have E_7 := hide (E_6.out.keep hb7)
              have B_7 := hide (B_6.out.trans (hb7.mono B_6.out.size))
              have F_7 := hide (F_6.out.keep hb7)
              have L_7 := hide (L_6.out.keep hb7)
              have X_7 := hide (X_6.out.keep hb7)
              have Y_7 := hide (Y_6.out.keep hb7)
              have G_7 := hide (hf7)
              clear hb7 E_6 B_6 F_6 L_6 X_6 Y_6 hown7 hf7 P1
              go_wp2_with fail
              refine (P2.out w7 A Ay c cy F_7.out Y_7.out E_7.out).mono ?_
              rintro y w8 ⟨v8, rfl, hown8, hb8⟩
              obtain ⟨A8, c8, rfl, hf8⟩ := hown8.fls
              have E_8 := hide (E_7.out.keep hb8)
              have B_8 := hide (B_7.out.trans (hb8.mono B_7.out.size))
              have F_8 := hide (F_7.out.keep hb8)
              have L_8 := hide (L_7.out.keep hb8)
              have X_8 := hide (X_7.out.keep hb8)
              have Y_8 := hide (Y_7.out.keep hb8)
              have G_8 := hide (G_7.out.keep hb8)
              have H_8 := hide (hf8)
              clear hb8 E_7 B_7 F_7 L_7 X_7 Y_7 G_7 hown8 hf8 P2
              go_wp2_with fail
              refine (T1.out w8 A7 A8 c7 c8 F_8.out G_8.out H_8.out).mono ?_
              rintro y w9 ⟨v9, u9, rfl, hown9, hodd9, hb9⟩
              obtain ⟨A9, c9, rfl, hf9⟩ := hown9.fls
              obtain ⟨Au, cu, rfl, _⟩ := hodd9.vs
              have E_9 := hide (E_8.out.keep hb9)
              have B_9 := hide (B_8.out.trans (hb9.mono B_8.out.size))
              have F_9 := hide (F_8.out.keep hb9)
              have L_9 := hide (L_8.out.keep hb9)
              have X_9 := hide (X_8.out.keep hb9)
              have Y_9 := hide (Y_8.out.keep hb9)
              have G_9 := hide (G_8.out.keep hb9)
              have H_9 := hide (H_8.out.keep hb9)
              have Z_9 := hide (hf9)
              clear hb9 E_8 B_8 F_8 L_8 X_8 Y_8 G_8 H_8 hown9 hf9 hodd9 T1
              go_wp2_with fail
              refine (P3.out w9 A A' c c' F_9.out L_9.out E_9.out).mono ?_
              rintro y w10 ⟨v10, rfl, hown10, hb10⟩
              obtain ⟨A10, c10, rfl, hf10⟩ := hown10.fls
              have E_10 := hide (E_9.out.keep hb10)
              have B_10 := hide (B_9.out.trans (hb10.mono B_9.out.size))
              have F_10 := hide (F_9.out.keep hb10)
              have L_10 := hide (L_9.out.keep hb10)
              have X_10 := hide (X_9.out.keep hb10)
              have Y_10 := hide (Y_9.out.keep hb10)
              have G_10 := hide (G_9.out.keep hb10)
              have H_10 := hide (H_9.out.keep hb10)
              have Z_10 := hide (Z_9.out.keep hb10)
              have U_10 := hide (hf10)
              clear hb10 E_9 B_9 F_9 L_9 X_9 Y_9 G_9 H_9 Z_9 hown10 hf10 P3
              go_wp2_with fail
              refine (S1.out w10 A9 A10 c9 c10 Z_10.out U_10.out).mono ?_
              rintro y w11 ⟨rfl, hb11⟩
              have E_11 := hide (E_10.out.keep hb11)
              have B_11 := hide (B_10.out.trans (hb11.mono B_10.out.size))
              have F_11 := hide (F_10.out.keep hb11)
              have L_11 := hide (L_10.out.keep hb11)
              have X_11 := hide (X_10.out.keep hb11)
              have Y_11 := hide (Y_10.out.keep hb11)
              have G_11 := hide (G_10.out.keep hb11)
              have H_11 := hide (H_10.out.keep hb11)
              have Z_11 := hide (Z_10.out.keep hb11)
              clear hb11 E_10 B_10 F_10 L_10 X_10 Y_10 G_10 H_10 Z_10 U_10
              go_wp2_with fail
              refine (P4.out w11 A7 Ay c7 cy G_11.out Y_11.out E_11.out).mono ?_
              rintro y w12 ⟨v12, rfl, hown12, hb12⟩
              obtain ⟨A12, c12, rfl, hf12⟩ := hown12.fls
              have E_12 := hide (E_11.out.keep hb12)
              have B_12 := hide (B_11.out.trans (hb12.mono B_11.out.size))
              have F_12 := hide (F_11.out.keep hb12)
              have L_12 := hide (L_11.out.keep hb12)
              have X_12 := hide (X_11.out.keep hb12)
              have Y_12 := hide (Y_11.out.keep hb12)
              have G_12 := hide (G_11.out.keep hb12)
              have H_12 := hide (H_11.out.keep hb12)
              have Z_12 := hide (Z_11.out.keep hb12)
              have U_12 := hide (hf12)
              clear hb12 E_11 B_11 F_11 L_11 X_11 Y_11 G_11 H_11 Z_11 hown12 hf12 P4
              go_wp2_with fail
              refine (S1.out w12 A9 A12 c9 c12 Z_12.out U_12.out).mono ?_
              rintro y w13 ⟨rfl, hb13⟩
              have E_13 := hide (E_12.out.keep hb13)
              have B_13 := hide (B_12.out.trans (hb13.mono B_12.out.size))
              have F_13 := hide (F_12.out.keep hb13)
              have L_13 := hide (L_12.out.keep hb13)
              have X_13 := hide (X_12.out.keep hb13)
              have Y_13 := hide (Y_12.out.keep hb13)
              have G_13 := hide (G_12.out.keep hb13)
              have H_13 := hide (H_12.out.keep hb13)
              have Z_13 := hide (Z_12.out.keep hb13)
              clear hb13 E_12 B_12 F_12 L_12 X_12 Y_12 G_12 H_12 Z_12 U_12
              go_wp2_with fail
              refine (P5.out w13 A8 Ax c8 cx H_13.out X_13.out E_13.out).mono ?_
              rintro y w14 ⟨v14, rfl, hown14, hb14⟩
              obtain ⟨A14, c14, rfl, hf14⟩ := hown14.fls
              have E_14 := hide (E_13.out.keep hb14)
              have B_14 := hide (B_13.out.trans (hb14.mono B_13.out.size))
              have F_14 := hide (F_13.out.keep hb14)
              have L_14 := hide (L_13.out.keep hb14)
              have X_14 := hide (X_13.out.keep hb14)
              have Y_14 := hide (Y_13.out.keep hb14)
              have G_14 := hide (G_13.out.keep hb14)
              have H_14 := hide (H_13.out.keep hb14)
              have Z_14 := hide (Z_13.out.keep hb14)
              have U_14 := hide (hf14)
              clear hb14 E_13 B_13 F_13 L_13 X_13 Y_13 G_13 H_13 Z_13 hown14 hf14 P5
              go_wp2_with fail
              refine (S1.out w14 A9 A14 c9 c14 Z_14.out U_14.out).mono ?_
              rintro y w15 ⟨rfl, hb15⟩
              have E_15 := hide (E_14.out.keep hb15)
              have B_15 := hide (B_14.out.trans (hb15.mono B_14.out.size))
              have F_15 := hide (F_14.out.keep hb15)
              have L_15 := hide (L_14.out.keep hb15)
              have X_15 := hide (X_14.out.keep hb15)
              have Y_15 := hide (Y_14.out.keep hb15)
              have G_15 := hide (G_14.out.keep hb15)
              have H_15 := hide (H_14.out.keep hb15)
              have Z_15 := hide (Z_14.out.keep hb15)
              clear hb15 E_14 B_14 F_14 L_14 X_14 Y_14 G_14 H_14 Z_14 U_14
              go_wp2
              go_ret
              exact ⟨by simp, B_15.out⟩
end Go.Proofs.YtahcokfoifdlmaaGreatDoor.Tr
namespace Go.Proofs.YtahcokfoifdlmaaGreatDoor.Tr
open Go Go.RowKit Go.WideShapes Go.ChangeShapes Go.ChangeAt Go.ChangeMaps Go.Deep Kt Lw Li Df
section
variable {H : Type} {enc : TypeId × Value → H}
end
theorem own : ownKnob Tryz.prog.godebug = none := by kernel_rfl
theorem laidOut : laidOutB Tryz.prog = true := by kernel_rfl
theorem gTab : Tryz.prog.globalNamed "grapevine/digest.steps" = some 1 := by kernel_rfl
theorem gTabType : (Tryz.prog.globals[1]?).map (·.type) = some 82 := by kernel_rfl
theorem gTabR : Tryz.prog.globalNamed "grapevine/grapevineref01.keys" = some 0 := by kernel_rfl
theorem gTabTypeR : (Tryz.prog.globals[0]?).map (·.type) = some 82 := by kernel_rfl
theorem cells64 : Tryz.prog.cellsOf 82 = 64 := by kernel_rfl
theorem cells32 : Tryz.prog.cellsOf 77 = 1 := by kernel_rfl
def keysI : List Int := [1116352408, 1899447441, 3049323471, 3921009573, 961987163, 1508970993, 2453635748, 2870763221, 3624381080, 310598401, 607225278, 1426881987, 1925078388, 2162078206, 2614888103, 3248222580, 3835390401, 4022224774, 264347078, 604807628, 770255983, 1249150122, 1555081692, 1996064986, 2554220882, 2821834349, 2952996808, 3210313671, 3336571891, 3584528711, 113926993, 338241895, 666307205, 773529912, 1294757372, 1396182291, 1695183700, 1986661051, 2177026350, 2456956037, 2730485921, 2820302411, 3259730800, 3345764771, 3516065817, 3600352804, 4094571909, 275423344, 430227734, 506948616, 659060556, 883997877, 958139571, 1322822218, 1537002063, 1747873779, 1955562222, 2024104815, 2227730452, 2361852424, 2428436474, 2756734187, 3204031479, 3329325298]
theorem keysI_get : ∀ i, i < 64 → keysI.getD i 0 = ((Sha.keys.getD i 0 : Nat) : Int) := by decide +kernel
theorem tab_of {W : World} (h : Lib.TabIs Tryz.prog W "grapevine/digest.steps" .u32 keysI) : Dg.Tab W := by
  intro i hi
  rw [h.cell gTab i (by simpa [keysI] using hi), keysI_get i hi]
theorem tabR_of {W : World} (h : Lib.TabIs Tryz.prog W "grapevine/grapevineref01.keys" .u32 keysI) : Dg.TabR W := by
  intro i hi
  rw [h.cell gTabR i (by simpa [keysI] using hi), keysI_get i hi]
theorem most_of {W : World} (h : W.ShapedOpen Tryz.prog) : Most W :=
  cell_of_shapedOpen_int (zero := #[.int .i64 0]) (t := 3) h (of_decide_eq_true (by kernel_rfl)) (by kernel_rfl) rfl (by kernel_rfl) (by kernel_rfl) Tryz.underlying3
abbrev laid4 : List (String × DataW Unit) := [("grapevine/grapevineref01.keys", Rows.laid_grapevine_grapevineref01_keys), ("unicode/utf8.acceptRanges", Rows.laid_unicode_utf8_acceptRanges), ("grapevine/digest.steps", Rows.laid_grapevine_digest_steps), ("unicode/utf8.first", Rows.laid_unicode_utf8_first)]
theorem env_of {W : World} (h : laidMetH Tryz.prog laid4 W) (hsh : W.ShapedOpen Tryz.prog) : Env W := by
  have h1 : laidMet Tryz.prog [("grapevine/digest.steps", Rows.laid_grapevine_digest_steps)] W := h.filter fun x => x.1 == "grapevine/digest.steps"
  have h2 : laidMet Tryz.prog [("grapevine/grapevineref01.keys", Rows.laid_grapevine_grapevineref01_keys)] W := h.filter fun x => x.1 == "grapevine/grapevineref01.keys"
  exact ⟨most_of hsh, tab_of (Lib.tabIs_of_head (rest := []) gTab gTabType Tryz.underlying82 Tryz.underlying77 cells32 cells64 h1), tabR_of (Lib.tabIs_of_head (rest := []) gTabR gTabTypeR Tryz.underlying82 Tryz.underlying77 cells32 cells64 h2)⟩
end Go.Proofs.YtahcokfoifdlmaaGreatDoor.Tr
