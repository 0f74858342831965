/-
  The reference's store in memory: Has, Get, Record.
-/
import Derived.Test.YtcmjdepjckhpdaaDoorQZB
import Derived.Test.YtcmjdepjckhpdaaDoorQSF
import Derived.Test.YtcmjdepjckhpdaaDoorRfE
import Derived.Test.YtcmjdepjckhpdaaDoorQWD
import Derived.Deep.AppendLies
import Derived.Test.YtcmjdepjckhpdaaDoorQRfB
namespace Go.Proofs.YtcmjdepjckhpdaaDoor.So
open Go Go.RowKit Kt Kg Wr Lw Sha Dk

abbrev tId : TypeId := 41
abbrev tS : TypeId := 9
abbrev tIds : TypeId := 50
abbrev tSs : TypeId := 22
abbrev tSt : TypeId := 71
/-- texts in a row whose block is one of S -/
def OTS (w : World) (S : Nat → Prop) (E : TypeId) (v : Value) (l : List Bs) : Prop := OwT w 0 E v l ∧ ∀ g, v.ownBlock = some g → S g
theorem OTS.nil (w : World) (S : Nat → Prop) (E : TypeId) : OTS w S E (.slice none 0 0) [] := ⟨OwT.nil _ _ _, fun g h => by cases h⟩
theorem OTS.lt {w : World} {S : Nat → Prop} {E : TypeId} {v : Value} {l : List Bs} (h : OTS w S E v l) {g : Nat} (hg : v.ownBlock = some g) : g < w.heap.size := (World.ownsRow.lt h.1 g hg).2
theorem OTS.imp {w : World} {S T : Nat → Prop} {E : TypeId} {v : Value} {l : List Bs} (h : OTS w S E v l) (hi : ∀ b, b < w.heap.size → S b → T b) : OTS w T E v l := ⟨h.1, fun g hg => hi g (h.lt hg) (h.2 g hg)⟩
theorem OTS.move {w w' : World} {S : Nat → Prop} {E : TypeId} {v : Value} {l : List Bs} (h : OTS w S E v l) (hk : ∀ b, S b → b < w.heap.size → w'.heap[b]? = w.heap[b]?) : OTS w' S E v l := by
  refine ⟨⟨h.1.1, ?_⟩, h.2⟩
  rcases h.1.2 with h1 | ⟨g, cap, cur, hv, h1, h2, h3⟩
  · exact .inl h1
  · exact .inr ⟨g, cap, cur, hv, h1, (hk g (h.2 g (by rw [hv]; rfl)) (Array.getElem?_eq_some_iff.1 h2).1).trans h2, h3⟩
theorem OTS.vs {w : World} {S : Nat → Prop} {E : TypeId} {v : Value} {l : List Bs} (h : OTS w S E v l) : ∃ A c, v = .slice A l.length c ∧ Vs w S A c (texts l) := by
  obtain ⟨A, c, e, hv⟩ := h.1.vs
  exact ⟨A, c, e, hv.1, fun hn => by
    obtain ⟨b, o, e1, hp, hc⟩ := hv.2 hn
    exact ⟨b, o, e1, h.2 b hp.2, hc⟩⟩
/-- a text of a slice of texts -/
theorem vs_at {w : World} {S : Nat → Prop} {A : Option Addr} {c : Nat} {l : List Bs} (h : Vs w S A c (texts l)) {k : Nat} {x : Bs} (hk : l[k]? = some x) : ∃ b o, A = some ⟨b, o, none⟩ ∧ S b ∧ w.cell? ⟨b, o + k, none⟩ = some (.string ⟨x.toArray⟩) := by
  have hlt := (List.getElem?_eq_some_iff.1 hk).1
  obtain ⟨b, o, e, hp, hc⟩ := h.2 (by rw [texts_len]; omega)
  refine ⟨b, o, e, hp, hc k _ ?_⟩
  unfold texts
  rw [List.getElem?_map, hk]; rfl
/-- the reference's store in block gs, on the disk in block gd -/
def RsIn (w : World) (S : Nat → Prop) (gs gd : Nat) (L : List Bs) : Prop :=
  ∃ vi va, Row w gs tSt [.pointer (some ⟨gd, 0, none⟩), vi, va] ∧ OTS w (fun b => S b ∧ b ≠ gs) tId vi (L.map sha) ∧ OTS w (fun b => S b ∧ b ≠ gs) tS va L ∧ S gs ∧ ∀ k, S k → k < w.heap.size
section
variable {w w' : World} {S T : Nat → Prop} {gs gd : Nat} {L : List Bs}
theorem RsIn.lt (h : RsIn w S gs gd L) : ∀ k, S k → k < w.heap.size := by obtain ⟨_, _, _, _, _, _, h4⟩ := h; exact h4
theorem RsIn.move (h : RsIn w S gs gd L) (hk : ∀ b, S b → w'.heap[b]? = w.heap[b]?) (hsz : w.heap.size ≤ w'.heap.size) : RsIn w' S gs gd L := by
  obtain ⟨vi, va, h1, h2, h3, h4, h5⟩ := h
  exact ⟨vi, va, (hk gs h4).trans h1, h2.move fun b hb _ => hk b hb.1, h3.move fun b hb _ => hk b hb.1, h4, fun k hk => Nat.lt_of_lt_of_le (h5 k hk) hsz⟩
theorem RsIn.below (h : RsIn w S gs gd L) (hb : Below w.heap.size w w') : RsIn w' S gs gd L := h.move (fun b hS => hb.block b (h.lt b hS)) hb.size
theorem RsIn.oth (h : RsIn w S gs gd L) (ho : Oth T w w') (hd : ∀ k, S k → ¬ T k) : RsIn w' S gs gd L := h.move (fun b hS => ho.block b (h.lt b hS) (hd b hS)) ho.size
end
set_option maxHeartbeats 1000000 in
set_option maxRecDepth 100000 in
theorem rhas_any {w : World} {S : Nat → Prop} {gs gd : Nat} {L : List Bs} (h : RsIn w S gs gd L) (id : Bs) (hl : L.length ≤ 1000000) :
    Calls Tryd.prog 36 #[.pointer (some ⟨gs, 0, none⟩), .string ⟨id.toArray⟩] w fun y w' => y = .returned (.bool (decide (id ∈ L.map sha))) ∧ Below w.heap.size w w' := by
  obtain ⟨vi, va, hr, hi, _⟩ := h
  obtain ⟨A, c, rfl, hv⟩ := hi.vs
  obtain ⟨ids, hids⟩ : ∃ ids, ids = L.map sha := ⟨_, rfl⟩
  have hlen : ids.length ≤ 1000000 := by rw [hids, List.length_map]; exact hl
  rw [← hids] at hr hv ⊢
  obtain ⟨N, hN⟩ : ∃ N, N = ids.length := ⟨_, rfl⟩
  rw [← hN] at hr hlen
  have HR := hide hr
  have HV := hide hv
  have HN := hide hN
  clear hr hv hi hids hN hl
  go_enter Tryd.func36, Tryd.ntmps36
  go_wp2
  go_loopw [5] (fun i wr => ∃ k : Nat, k ≤ N ∧ i = .int .i64 k ∧ (∀ j x, j < k → ids[j]? = some x → x ≠ id) ∧ Below w.heap.size w wr) (fun i _ => N - (intOf i).toNat)
  case atStart => exact ⟨0, Nat.zero_le _, rfl, fun j x h => absurd h (Nat.not_lt_zero _), Below.refl _ _⟩
  case round =>
    obtain ⟨k, hk, rfl, hall, hb⟩ := hrel
    have Hb := hide hb
    have Hall := hide hall
    have k1 : wr.cell? ⟨gs, 1, none⟩ = some (.slice A N c) := (HR.out.below hb HR.out.lt).cell 1
    clear hb hall
    by_cases hlt : k < N
    · obtain ⟨x, hx⟩ : ∃ x, ids[k]? = some x := ⟨_, List.getElem?_eq_getElem (by have := HN.out; omega)⟩
      obtain ⟨b, o, rfl, hS, c0⟩ := vs_at HV.out hx
      have c0' := (World.cell?_of_block (a := ⟨b, o + k, none⟩) (Hb.out.block b (World.block_lt_of_cell? w _ c0))).trans c0
      have Hx := hide hx
      clear c0 hx hS
      by_cases he : x = id
      · subst he
        have hbb : (x == x) = true := by simp
        have Hy := hide (show decide (x ∈ ids) = true from decide_eq_true (List.mem_of_getElem? Hx.out))
        go_wp2
        go_ret
        exact ⟨by rw [Hy.out]; rfl, Hb.out⟩
      · have hbb : (x == id) = false := by rw [beq_eq_false_iff_ne]; exact he
        have He := hide he
        go_wp2
        refine ⟨⟨k + 1, by omega, by go_num, fun j x' hj hx' => ?_, Hb.out⟩, by simp [intOf]; omega⟩
        rcases Nat.lt_or_ge j k with hl | hl
        · exact Hall.out j x' hl hx'
        · obtain rfl : j = k := by omega
          rw [Hx.out] at hx'
          injection hx' with hx'
          rw [← hx']; exact He.out
    · obtain rfl : k = N := by omega
      have Hy := hide (show decide (id ∈ ids) = false from decide_eq_false fun hm => by
        obtain ⟨j, hj⟩ := List.getElem?_of_mem hm
        exact Hall.out j id (by have := (List.getElem?_eq_some_iff.1 hj).1; have := HN.out; omega) hj rfl)
      go_wp2
      go_ret
      exact ⟨by rw [Hy.out]; rfl, Hb.out⟩
end Go.Proofs.YtcmjdepjckhpdaaDoor.So
