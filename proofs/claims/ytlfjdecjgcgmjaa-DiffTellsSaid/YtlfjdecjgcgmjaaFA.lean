/-
  What DiffAround needs of rows: an edit's place is turned; what is put around lists.
-/
import Derived.Test.YtlfjdecjgcgmjaaEOs
import Derived.Test.YtlfjdecjgcgmjaaEV
namespace Go.Proofs.Ytlfjdecjgcgmjaa.Df
open Go Go.RowKit Kt Lw Li

theorem flat_set : ∀ (V : List (Ed × Value)) (i : Nat) (e : Ed) (vi : Value) (p : Int), V[i]? = some (e, vi) → (V.set i (⟨p, e.del, e.ins⟩, vi)).flatMap pairC = (V.flatMap pairC).set (i * 3) (.int .i64 p)
  | [], i, e, vi, p, h => by simp at h
  | q :: V, 0, e, vi, p, h => by
    simp at h
    subst h
    rfl
  | q :: V, i + 1, e, vi, p, h => by
    rw [List.set_cons_succ, List.flatMap_cons, List.flatMap_cons, flat_set V i e vi p (by simpa using h), List.set_append_right _ _ (by rw [pairC_len]; omega), pairC_len]
    congr 2
    omega
theorem OwE.form {w : World} {B : Nat} {v : Value} {L : List Ed} (h : OwE w B v L) (hn : 0 < L.length) : ∃ g cap, v = .slice (some ⟨g, 0, none⟩) L.length cap ∧ B ≤ g := by
  obtain ⟨V, _, hr, _⟩ := h
  rcases hr.2 with ⟨_, h0⟩ | ⟨g, cap, cur, hv, hB, _⟩
  · omega
  · exact ⟨g, cap, hv, hB⟩
/-- an edit's place, turned where it lies -/
theorem OwE.turned {w : World} {B g cap i : Nat} {M : List Ed} {e : Ed} (h : OwE w B (.slice (some ⟨g, 0, none⟩) M.length cap) M) (he : M[i]? = some e) :
    (w.cell? ⟨g, i * 3, none⟩ = some (.int .i64 e.pos) ∧ w.frozen? ⟨g, i * 3, none⟩ = false) ∧ ∀ p : Int, OwE (w.setCell ⟨g, i * 3, none⟩ (.int .i64 p)) B (.slice (some ⟨g, 0, none⟩) M.length cap) (M.set i ⟨p, e.del, e.ins⟩) := by
  obtain ⟨V, hV, hr, hi⟩ := h
  have hil : i < M.length := (List.getElem?_eq_some_iff.1 he).1
  subst hV
  rw [List.getElem?_map] at he
  cases hp : V[i]? with
  | none => rw [hp] at he; cases he
  | some q =>
    rw [hp] at he
    simp at he
    obtain ⟨e', vi⟩ := q
    simp at he
    subst he
    rw [List.length_map] at hil hr ⊢
    refine ⟨⟨?_, World.ownsRow.frozenAt hr _⟩, fun p => ?_⟩
    · rw [World.ownsRow.cellAt hr (i * 3) (by omega), Nat.mul_comm, show 3 * i = 3 * i + 0 from rfl, flat_at pairC 3 pairC_len V i 0 _ hp (by omega)]
      rfl
    · obtain ⟨hst, hg⟩ := World.ownsRow.stored hr (i * 3) (.int .i64 p)
      refine ⟨V.set i (⟨p, e'.del, e'.ins⟩, vi), by rw [List.map_set], ?_, fun q hq => ?_⟩
      · rw [flat_set V i e' vi p hp, List.length_set, List.length_map]
        exact hst
      · have key : ∀ (u : Value) (l : Ls), OwT w B tS u l → OwT (w.setCell ⟨g, i * 3, none⟩ (.int .i64 p)) B tS u l := by
          intro u l hu
          refine World.ownsRow.kept hu hg ?_
          rcases hu.2 with ⟨rfl, _⟩ | ⟨g', cap', cur', rfl, _, hgg', _⟩
          · exact .inl rfl
          · right
            intro hee
            simp only [Value.ownBlock, Option.some.injEq] at hee
            subst hee
            rcases hr.2 with ⟨h', _⟩ | ⟨g2, cap2, cur2, h', _, hgg2, _⟩
            · cases h'
            · simp only [Value.slice.injEq, Option.some.injEq, Addr.mk.injEq, and_true, true_and] at h'
              obtain ⟨rfl, _⟩ := h'
              rw [hgg'] at hgg2
              simp [tS, tE] at hgg2
        rcases List.mem_or_eq_of_mem_set hq with hq | hq
        · exact key _ _ (hi q hq)
        · subst hq
          exact key _ _ (hi (e', vi) (List.mem_of_getElem? hp))
/-- the first i edits are back, the others are n further on -/
def Mi (L : List Ed) (n i : Nat) : List Ed := L.take i ++ (shift n L).drop i
theorem shift_len (n : Nat) (L : List Ed) : (shift n L).length = L.length := by simp [shift]
theorem Mi_len (L : List Ed) (n i : Nat) (h : i ≤ L.length) : (Mi L n i).length = L.length := by
  unfold Mi; rw [List.length_append, List.length_take, List.length_drop, shift_len]; omega
theorem Mi_at {L : List Ed} {n i : Nat} {e : Ed} (h : L[i]? = some e) : (Mi L n i)[i]? = some ⟨e.pos + n, e.del, e.ins⟩ := by
  have hi := (List.getElem?_eq_some_iff.1 h).1
  unfold Mi
  rw [List.getElem?_append_right (by rw [List.length_take]; omega), List.length_take, Nat.min_eq_left (by omega), Nat.sub_self, List.getElem?_drop, Nat.add_zero]
  unfold shift
  rw [List.getElem?_map, h]
  rfl
theorem Mi_next {L : List Ed} {n i : Nat} {e : Ed} (h : L[i]? = some e) : Mi L n (i + 1) = (Mi L n i).set i ⟨e.pos + n - n, e.del, e.ins⟩ := by
  have hi := (List.getElem?_eq_some_iff.1 h).1
  have he : (⟨e.pos + n - n, e.del, e.ins⟩ : Ed) = e := by
    rw [Int.add_sub_cancel]
  rw [he]
  unfold Mi
  rw [List.set_append_right _ _ (by rw [List.length_take]; omega), List.length_take, Nat.min_eq_left (by omega), Nat.sub_self, List.take_add_one, h,
    List.drop_eq_getElem_cons (show i < (shift n L).length by rw [shift_len]; exact hi), List.set_cons_zero]
  simp
theorem Mi_first (L : List Ed) (n : Nat) : Mi L n 0 = shift n L := by simp [Mi]
theorem Mi_last (L : List Ed) (n : Nat) : Mi L n L.length = L := by simp [Mi, shift_len]
theorem right_pos (n : Nat) : ∀ (L : List Ed) (last : Int), -1 ≤ last → right n last L = true → ∀ e ∈ L, 0 ≤ e.pos ∧ e.pos ≤ n ∧ e.ins.length ≤ 1000000000000 + e.ins.length
  | [], _, _, _, e, he => by cases he
  | a :: l, last, h1, hr, e, he => by
    obtain ⟨p, d, ep, ed, hpd, hlp, hne, hr'⟩ := right_head hr h1
    rcases List.mem_cons.1 he with rfl | he
    · rw [ep]; omega
    · exact right_pos n l _ (by omega) hr' e he
theorem size_mem : ∀ (L : List Ed) (e : Ed), e ∈ L → (e.ins.length : Int) ≤ size L
  | a :: l, e, he => by
    rw [size]
    have h0 := size_pos l
    rcases List.mem_cons.1 he with rfl | he
    · omega
    · have := size_mem l e he
      omega
theorem flat_snoc (l : Ls) (k : Nat) (h : k < l.length) : (l.take (k + 1)).flatten = (l.take k).flatten ++ l.getD k [] := by
  rw [List.take_succ_eq_append_getElem h, List.flatten_append]; simp [List.getElem?_eq_getElem h]
theorem flat_le (M : Nat) : ∀ l : Ls, (∀ s ∈ l, s.length ≤ M) → l.flatten.length ≤ l.length * M
  | [], _ => by simp
  | a :: l, h => by
    have := flat_le M l fun s hs => h s (by simp [hs])
    have := h a (by simp)
    rw [List.flatten_cons, List.length_append, List.length_cons, Nat.succ_mul]
    omega
theorem flat_mem : ∀ (l : Ls) (s : List UInt8), s ∈ l → s.length ≤ l.flatten.length
  | a :: l, s, h => by
    rw [List.flatten_cons, List.length_append]
    rcases List.mem_cons.1 h with rfl | h
    · omega
    · have := flat_mem l s h
      omega
end Go.Proofs.Ytlfjdecjgcgmjaa.Df
