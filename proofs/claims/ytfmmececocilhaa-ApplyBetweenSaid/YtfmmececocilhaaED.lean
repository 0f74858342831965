/-
  diff.Size, diff.Right: over a slice of edits.
-/
import Derived.Test.YtfmmececocilhaaEC
import Derived.Test.YtfmmececocilhaaPA
namespace Go.Proofs.Ytfmmececocilhaa.Df
open Go Go.RowKit Kt Lw

theorem size_pos : ∀ L : List Ed, 0 ≤ size L
  | [] => Int.le_refl _
  | e :: l => by rw [size]; have := size_pos l; omega
theorem size_take (L : List Ed) (k : Nat) : size (L.take k) ≤ size L := by
  have h := size_append (L.take k) (L.drop k)
  rw [List.take_append_drop] at h
  have := size_pos (L.drop k)
  omega
theorem size_snoc (L : List Ed) (k : Nat) (e : Ed) (h : L[k]? = some e) : size (L.take (k + 1)) = size (L.take k) + (max 0 e.del + e.ins.length) := by
  rw [List.take_add_one, h, size_append]
  simp [size]
/-- the edit number k, in a world behind -/
theorem Es.at {w w' : World} {A : Option Addr} {c : Nat} {L : List Ed} (h : Es w A c L) (hb : Below w.heap.size w w') {k : Nat} (hk : k < L.length) :
    ∃ b o e A' c', A = some ⟨b, o, none⟩ ∧ L[k]? = some e ∧ (w'.cell? ⟨b, o + k * 3, none⟩ = some (.int .i64 e.pos) ∧ w'.cell? ⟨b, o + k * 3 + 1, none⟩ = some (.int .i64 e.del) ∧ w'.cell? ⟨b, o + k * 3 + 2, none⟩ = some (.slice A' e.ins.length c')) ∧ Vs w (fun b => b < w.heap.size) A' c' (texts e.ins) := by
  obtain ⟨b, o, rfl, hlt, he⟩ := h.2 (by omega)
  obtain ⟨A', c', h1, h2⟩ := he k _ (List.getElem?_eq_getElem hk)
  rw [Nat.mul_comm] at h1
  have h3 : ∀ i v, (edC L[k] (.slice A' (L[k]).ins.length c'))[i]? = some v → w'.cell? ⟨b, o + k * 3 + i, none⟩ = some v := fun i v hi => (World.cell?_of_block (a := ⟨b, o + k * 3 + i, none⟩) (hb.block b hlt)).trans (h1 i v hi)
  exact ⟨b, o, _, A', c', rfl, List.getElem?_eq_getElem hk, ⟨h3 0 _ rfl, h3 1 _ rfl, h3 2 _ rfl⟩, h2⟩
theorem box_kept {w w2 : World} {B : Nat} {v : Value} {l : Ls} {cs : Array Value} {t : TypeId} (hown : OwT w B tS v l) (hg : (w.alloc (.cells cs t)).grownBy w2 v.ownBlock) : Row w2 w.heap.size t cs.toList :=
  (Row.fresh w t cs).grown hg (fun h => by have := (World.ownsRow.lt hown _ h.symm).2; omega)

set_option maxHeartbeats 1000000 in
set_option maxRecDepth 100000 in
theorem right_any (n : Int) (L : List Ed) (A : Option Addr) (c : Nat) (w : World) (hs : Es w A c L) (hl : L.length ≤ 1000000) (hn : n ≤ 1099511627776) (hn0 : -1099511627776 ≤ n) :
    Calls Try.prog 44 #[.int .i64 n, .slice A L.length c] w fun y w' => y = .returned (.bool (right n (-1) L)) ∧ Below w.heap.size w w' := by
  have Hs := hide hs
  obtain ⟨N, hN⟩ : ∃ N, N = L.length := ⟨_, rfl⟩
  rw [← hN] at hl ⊢
  have HN := hide hN
  clear hs hN
  go_enter Try.func44, Try.ntmps44
  go_wp2
  go_loopw [5, 10] (fun s i wr => ∃ (k : Nat) (q : Int), k ≤ N ∧ i = .int .i64 k ∧ s = .int .i64 q ∧ (-1 ≤ q ∧ (k ≠ 0 → q ≤ n)) ∧ right n (-1) L = right n q (L.drop k) ∧ Below w.heap.size w wr) (fun _ i _ => N - (intOf i).toNat)
  case atStart => exact ⟨0, -1, Nat.zero_le _, rfl, rfl, ⟨Int.le_refl _, fun h => absurd rfl h⟩, rfl, Below.refl _ _⟩
  case round =>
    obtain ⟨k, q, hk, rfl, rfl, ⟨hq1, hq2⟩, he, hb⟩ := hrel
    have Hb := hide hb
    have He := hide he
    clear hb he
    by_cases hlt : k < N
    · obtain ⟨b, o, e, A', c', rfl, hke, ⟨c0, c1, c2⟩, hv⟩ := Hs.out.at Hb.out (k := k) (by have := HN.out; omega)
      have hdk : L.drop k = e :: L.drop (k + 1) := by
        have h1 : k < L.length := by have := HN.out; omega
        rw [List.drop_eq_getElem_cons h1]
        rw [List.getElem?_eq_getElem h1] at hke
        injection hke with hke
        rw [hke]
      have Hr := hide (show right n (-1) L = ((decide (0 ≤ e.del) && decide (e.del ≠ 0 ∨ e.ins ≠ []) && decide (q < e.pos) && decide (e.pos ≤ n) && decide (e.del ≤ n - e.pos)) && right n (e.pos + e.del) (L.drop (k + 1))) by
        rw [He.out, hdk, right])
      clear hdk hke hv He
      by_cases h1 : e.del < 0
      · have d1 : decide (e.del < 0) = true := decide_eq_true h1
        have Hf := hide (show right n (-1) L = false by rw [Hr.out, decide_eq_false (show ¬ 0 ≤ e.del by omega)]; simp)
        clear Hr
        go_wp2
        go_ret
        exact ⟨by rw [Hf.out]; rfl, Hb.out.alloc Hb.out.size _⟩
      have d1 : decide (e.del < 0) = false := decide_eq_false h1
      by_cases h2 : e.del = 0 ∧ e.ins = []
      · obtain ⟨h21, h22⟩ := h2
        have d2 : ((e.del : Int) == 0) = true := by rw [h21]; rfl
        have d6 : ((e.ins.length : Int) == 0) = true := by rw [h22]; rfl
        have Hr2 := hide (show right n (-1) L = false by rw [Hr.out, decide_eq_false (show ¬ (e.del ≠ 0 ∨ e.ins ≠ []) by rw [h21, h22]; simp)]; simp)
        clear h21 h22 Hr
        go_wp2
        go_ret
        exact ⟨by rw [Hr2.out]; rfl, Hb.out.alloc Hb.out.size _⟩
      have H2 := hide (show e.del ≠ 0 ∨ e.ins ≠ [] by
        by_cases hd : e.del = 0
        · exact .inr fun h => h2 ⟨hd, h⟩
        · exact .inl hd)
      have H1 := hide (show 0 ≤ e.del by omega)
      have hcase : (((e.del : Int) == 0) = false) ∨ (((e.del : Int) == 0) = true ∧ ((e.ins.length : Int) == 0) = false) := by
        by_cases hd : e.del = 0
        · refine .inr ⟨by rw [hd]; rfl, ?_⟩
          rw [beq_eq_false_iff_ne]
          have := List.length_pos_iff.2 fun h => h2 ⟨hd, h⟩
          omega
        · exact .inl (by rw [beq_eq_false_iff_ne]; exact hd)
      clear h2
      rcases hcase with d2 | ⟨d2, d6⟩
      · by_cases h3 : e.pos ≤ q
        · have d3 : decide (e.pos ≤ q) = true := decide_eq_true h3
          have Hf := hide (show right n (-1) L = false by rw [Hr.out, decide_eq_false (show ¬ q < e.pos by omega)]; simp)
          clear Hr
          go_wp2
          go_ret
          exact ⟨by rw [Hf.out]; rfl, Hb.out.alloc Hb.out.size _⟩
        have d3 : decide (e.pos ≤ q) = false := decide_eq_false h3
        by_cases h4 : n < e.pos
        · have d4 : decide (n < e.pos) = true := decide_eq_true h4
          have Hf := hide (show right n (-1) L = false by rw [Hr.out, decide_eq_false (show ¬ e.pos ≤ n by omega)]; simp)
          clear Hr
          go_wp2
          go_ret
          exact ⟨by rw [Hf.out]; rfl, Hb.out.alloc Hb.out.size _⟩
        have d4 : decide (n < e.pos) = false := decide_eq_false h4
        have hp0 : 0 ≤ e.pos := by omega
        by_cases h5 : n - e.pos < e.del
        · have d5 : decide (n - e.pos < e.del) = true := decide_eq_true h5
          have Hf := hide (show right n (-1) L = false by rw [Hr.out, decide_eq_false (show ¬ e.del ≤ n - e.pos by omega)]; simp)
          clear Hr
          go_wp2
          go_ret
          exact ⟨by rw [Hf.out]; rfl, Hb.out.alloc Hb.out.size _⟩
        have d5 : decide (n - e.pos < e.del) = false := decide_eq_false h5
        have Hr2 := hide (show right n (-1) L = right n (e.pos + e.del) (L.drop (k + 1)) by
          rw [Hr.out, decide_eq_true H1.out, decide_eq_true H2.out, decide_eq_true (show q < e.pos by omega), decide_eq_true (show e.pos ≤ n by omega), decide_eq_true (show e.del ≤ n - e.pos by omega)]; rfl)
        have hpd : e.pos + e.del ≤ n := by omega
        have hd0 := H1.out
        clear Hr h1 h3 h4 h5
        go_wp2
        exact ⟨⟨k + 1, e.pos + e.del, by omega, by go_num, rfl, ⟨by omega, fun _ => hpd⟩, Hr2.out, Hb.out.alloc Hb.out.size _⟩, by simp [intOf]; omega⟩
      · by_cases h3 : e.pos ≤ q
        · have d3 : decide (e.pos ≤ q) = true := decide_eq_true h3
          have Hf := hide (show right n (-1) L = false by rw [Hr.out, decide_eq_false (show ¬ q < e.pos by omega)]; simp)
          clear Hr
          go_wp2
          go_ret
          exact ⟨by rw [Hf.out]; rfl, Hb.out.alloc Hb.out.size _⟩
        have d3 : decide (e.pos ≤ q) = false := decide_eq_false h3
        by_cases h4 : n < e.pos
        · have d4 : decide (n < e.pos) = true := decide_eq_true h4
          have Hf := hide (show right n (-1) L = false by rw [Hr.out, decide_eq_false (show ¬ e.pos ≤ n by omega)]; simp)
          clear Hr
          go_wp2
          go_ret
          exact ⟨by rw [Hf.out]; rfl, Hb.out.alloc Hb.out.size _⟩
        have d4 : decide (n < e.pos) = false := decide_eq_false h4
        have hp0 : 0 ≤ e.pos := by omega
        by_cases h5 : n - e.pos < e.del
        · have d5 : decide (n - e.pos < e.del) = true := decide_eq_true h5
          have Hf := hide (show right n (-1) L = false by rw [Hr.out, decide_eq_false (show ¬ e.del ≤ n - e.pos by omega)]; simp)
          clear Hr
          go_wp2
          go_ret
          exact ⟨by rw [Hf.out]; rfl, Hb.out.alloc Hb.out.size _⟩
        have d5 : decide (n - e.pos < e.del) = false := decide_eq_false h5
        have Hr2 := hide (show right n (-1) L = right n (e.pos + e.del) (L.drop (k + 1)) by
          rw [Hr.out, decide_eq_true H1.out, decide_eq_true H2.out, decide_eq_true (show q < e.pos by omega), decide_eq_true (show e.pos ≤ n by omega), decide_eq_true (show e.del ≤ n - e.pos by omega)]; rfl)
        have hpd : e.pos + e.del ≤ n := by omega
        have hd0 := H1.out
        clear Hr h1 h3 h4 h5
        go_wp2
        exact ⟨⟨k + 1, e.pos + e.del, by omega, by go_num, rfl, ⟨by omega, fun _ => hpd⟩, Hr2.out, Hb.out.alloc Hb.out.size _⟩, by simp [intOf]; omega⟩
    · obtain rfl : k = N := by omega
      have Hr := hide (show right n (-1) L = true by rw [He.out, HN.out, List.drop_length]; rfl)
      go_wp2
      go_ret
      exact ⟨by rw [Hr.out]; rfl, Hb.out⟩
end Go.Proofs.Ytfmmececocilhaa.Df
