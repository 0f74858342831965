/-
  Operations on a disk: such that came in, and what one comes to; the example.
-/
import Derived.Test.YtcmjdepjckhpdaaDoorQSE
import Derived.Test.YtcmjdepjckhpdaaDoorLaw
import Derived.Deep.Slices
import Derived.Deep.Fields
import Derived.Deep.Strs
import Derived.Lib.SlBytesConst
import Derived.Test.YtcmjdepjckhpdaaDoorQZB
namespace Go.Proofs.YtcmjdepjckhpdaaDoor.Dk
open Go Go.RowKit Go.WideShapes Go.ChangeShapes Go.ChangeAt Go.ChangeMaps Go.Deep Kt Kg Wr Lw

/-- an operation's cells -/
def opC (e : Op) (v : Value) : List Value := [.int .u8 (e.kind : Int), v, .int .i64 e.n]
/-- '.slice A n c' reads as these operations -/
def Ops (w : World) (A : Option Addr) (c : Nat) (L : List Op) : Prop :=
  L.length ≤ c ∧ (0 < L.length → ∃ b o, A = some ⟨b, o, none⟩ ∧ b < w.heap.size ∧ ∀ j e, L[j]? = some e →
    ∃ A' c', w.rangeAt b (o + 3 * j) (opC e (.slice A' e.b.length c')) ∧ Sl w (fun b => b < w.heap.size) A' c' e.b)
theorem Ops.keep {w w' : World} {A : Option Addr} {c : Nat} {L : List Op} (h : Ops w A c L) (hb : Below w.heap.size w w') : Ops w' A c L :=
  ⟨h.1, fun hn => by
    obtain ⟨b, o, rfl, hlt, he⟩ := h.2 hn
    refine ⟨b, o, rfl, Nat.lt_of_lt_of_le hlt hb.size, fun j e hj => ?_⟩
    obtain ⟨A', c', hr, hv⟩ := he j e hj
    exact ⟨A', c', fun i v hi => (World.cell?_of_block (a := ⟨b, o + 3 * j + i, none⟩) (hb.block b hlt)).trans (hr i v hi), (hv.move fun b hlt _ => hb.block b hlt).imp fun b _ hlt => Nat.lt_of_lt_of_le hlt hb.size⟩⟩
theorem Ops.nil (w : World) (A : Option Addr) (c : Nat) : Ops w A c [] := ⟨Nat.zero_le _, fun h => by simp at h⟩
theorem Ops.at {w w' : World} {A : Option Addr} {c : Nat} {L : List Op} (h : Ops w A c L) (hb : Below w.heap.size w w') {k : Nat} (hk : k < L.length) :
    ∃ b o e A' c', A = some ⟨b, o, none⟩ ∧ L[k]? = some e ∧ (w'.cell? ⟨b, o + k * 3, none⟩ = some (.int .u8 (e.kind : Int)) ∧ w'.cell? ⟨b, o + k * 3 + 1, none⟩ = some (.slice A' e.b.length c') ∧ w'.cell? ⟨b, o + k * 3 + 2, none⟩ = some (.int .i64 e.n)) ∧ Sl w' (fun b => b < w.heap.size) A' c' e.b := by
  obtain ⟨b, o, rfl, hlt, he⟩ := h.2 (by omega)
  obtain ⟨A', c', h1, h2⟩ := he k _ (List.getElem?_eq_getElem hk)
  rw [Nat.mul_comm] at h1
  have h3 : ∀ i v, (opC L[k] (.slice A' (L[k]).b.length c'))[i]? = some v → w'.cell? ⟨b, o + k * 3 + i, none⟩ = some v := fun i v hi => (World.cell?_of_block (a := ⟨b, o + k * 3 + i, none⟩) (hb.block b hlt)).trans (h1 i v hi)
  exact ⟨b, o, _, A', c', rfl, List.getElem?_eq_getElem hk, ⟨h3 0 _ rfl, h3 1 _ rfl, h3 2 _ rfl⟩, h2.move fun b hlt _ => hb.block b hlt⟩
abbrev opV (e : Op) (A' : Option Addr) (n c' : Nat) : Value := .agg #[.int .u8 (e.kind : Int), .slice A' n c', .int .i64 e.n]
end Go.Proofs.YtcmjdepjckhpdaaDoor.Dk
namespace Go.Proofs.YtcmjdepjckhpdaaDoor.Dk
open Go Go.RowKit Kt Kg Wr Lw

theorem wake_put1 : put (new 5) [97, 98, 99] = (⟨[97, 98, 99], 5, -1, false⟩, 0) := rfl
theorem wake_put2 : put (fused ⟨[97, 98, 99], 5, -1, false⟩ 1) [100, 101] = (⟨[97, 98, 99, 100], 5, -1, true⟩, 9) := rfl
theorem lit_sl (w : World) (l : List UInt8) (cs : Array Value) (fr : Nat × Nat) (hc : cs = (u8s l).toArray) : Sl (w.alloc (.cells cs tU8 fr)) (fun b => b = w.heap.size) (some ⟨w.heap.size, 0, none⟩) l.length l := by
  subst hc
  refine ⟨Nat.le_refl _, fun _ => ⟨w.heap.size, 0, rfl, rfl, fun j hj => ?_⟩⟩
  rw [Nat.zero_add, cell_of_row (w.alloc (.cells (u8s l).toArray tU8 fr)) w.heap.size j (u8s l).toArray tU8 fr (heap_alloc_new w _)]
  have := u8s_get l j hj
  simpa using this
theorem oth_low {S : Nat → Prop} {w0 a b : World} (h : Oth S a b) (hb : Below w0.heap.size w0 a) (hS : ∀ k, S k → w0.heap.size ≤ k) : Below w0.heap.size w0 b :=
  h.below hb hb.size fun k hk hs => by have := hS k hs; omega
end Go.Proofs.YtcmjdepjckhpdaaDoor.Dk
namespace Go.Proofs.YtcmjdepjckhpdaaDoor.Dk
open Go Go.RowKit Kt Kg Wr Lw

theorem DkIn.drewN {w : World} {S : Nat → Prop} {g : Nat} {s : St} (h : DkIn w S g s) (n : Nat) : DkIn (w.drewN n) S g s := h
theorem ap {S S' T : Nat → Prop} {n : Nat} (hS' : ∀ k, S' k → S k ∨ n ≤ k) (hap : ∀ k, S k → ¬ T k) (hT : ∀ k, T k → k < n) : ∀ k, S' k → ¬ T k :=
  fun k hk ht => (hS' k hk).elim (fun h => hap k h ht) fun h => by have := hT k ht; omega
theorem lo {S S' : Nat → Prop} {m n : Nat} (hS' : ∀ k, S' k → S k ∨ n ≤ k) (hlow : ∀ k, S k → m ≤ k) (hb : m ≤ n) : ∀ k, S' k → m ≤ k :=
  fun k hk => (hS' k hk).elim (hlow k) fun h => Nat.le_trans hb h
theorem sl_front {w : World} {P : Nat → Prop} {A : Option Addr} {c : Nat} {l : List UInt8} (h : Sl w P A c l) (k : Nat) : Sl w P A c (l.take k) := ⟨by have := h.1; rw [List.length_take]; omega, fun h0 => by
  have hlt : (l.take k).length ≤ l.length := by rw [List.length_take]; omega
  obtain ⟨b, o, h1, h2, h3⟩ := h.2 (by omega)
  refine ⟨b, o, h1, h2, fun j hj => ?_⟩
  rw [h3 j (by omega)]
  have hjf : j < k := by rw [List.length_take] at hj; omega
  simp [List.getD_eq_getElem?_getD, hjf]⟩
theorem run_back (w : World) (A : Option Addr) (n c k : Nat) (hk : k ≤ n) (_hn : n ≤ c) :
    (Instr.slice 38 (.slice A n c) (some (.int .i64 (k : Int))) none none).run Tryd.prog w = .ok (.slice (if c = k then A else A.map (·.add k)) (n - k) (c - k)) w := by
  have hu := run_underlying Tryd.underlying38
  cases A with
  | none =>
    go_simp
  | some ad =>
    go_simp
theorem bytes_two (l r : List UInt8) (A A' : Option Addr) (n n' c c' : Nat) (Pb Pb' : Nat → Prop) (w : World) (hs : Sl w Pb A c l) (hs' : Sl w Pb' A' c' r) (hn : n = l.length) (hn' : n' = r.length) (hl : l.length ≤ 9223372036854775807) :
    Calls Tryd.prog 18 #[.slice A n c, .slice A' n' c'] w fun y w' => y = .returned (.bool (decide (l = r))) ∧ Below w.heap.size w w' := by
  subst hn hn'
  exact bytes_any l r A A' c c' Pb Pb' w hs hs' hl

/-- what becomes of a disk behind a start, with a fuse -/
theorem tears_is (s : St) (b : List UInt8) (f : Nat) (hs : s.k.length ≤ s.room) : ∃ q e s', put (fused (begun s) f) b = (s', e) ∧ s'.k = s.k ++ b.take q ∧ q ≤ b.length ∧ s'.room = s.room ∧
    ((e = 8 ∧ q = 0 ∧ s'.room - s'.k.length < b.length) ∨ (e = 9 ∧ s'.dead = true ∧ q = f ∧ q < b.length) ∨ (e = 0 ∧ q = b.length ∧ s'.dead = false ∧ b.length ≤ f)) := by
  rw [tears]
  split
  · exact ⟨0, 8, _, rfl, by simp, Nat.zero_le _, rfl, .inl ⟨rfl, rfl, by simp only []; omega⟩⟩
  · split
    · exact ⟨f, 9, _, rfl, rfl, by omega, rfl, .inr (.inl ⟨rfl, rfl, rfl, by omega⟩)⟩
    · exact ⟨b.length, 0, _, rfl, by simp, Nat.le_refl _, rfl, .inr (.inr ⟨rfl, rfl, rfl, by omega⟩)⟩
end Go.Proofs.YtcmjdepjckhpdaaDoor.Dk
namespace Go.Proofs.YtcmjdepjckhpdaaDoor.Dk
open Go Go.RowKit Kt Kg Wr Lw

abbrev tR : TypeId := 40
def rtC (v : Value) (room : Nat) (has : Bool) (fuse : Int) (dead : Bool) : List Value := [v, .int .i64 (room : Int), .bool has, .int .i64 fuse, .bool dead]
/-- the reference's disk in block g; what it is made of are blocks of S -/
def RtIn (w : World) (S : Nat → Prop) (g : Nat) (r : Rt) : Prop :=
  ∃ v, Row w g tR (rtC v r.room r.has r.fuse r.dead) ∧ OwnS w (fun b => S b ∧ b ≠ g) tU8 v r.k ∧ S g ∧ ∀ k, S k → k < w.heap.size
section
variable {w w' : World} {S T : Nat → Prop} {g : Nat} {s : Rt}
theorem RtIn.lt (h : RtIn w S g s) : ∀ k, S k → k < w.heap.size := by obtain ⟨_, _, _, _, h4⟩ := h; exact h4
theorem RtIn.move (h : RtIn w S g s) (hk : ∀ b, S b → w'.heap[b]? = w.heap[b]?) (hsz : w.heap.size ≤ w'.heap.size) : RtIn w' S g s := by
  obtain ⟨v, h1, h2, h3, h4⟩ := h
  exact ⟨v, (hk g h3).trans h1, h2.move fun b hb _ => hk b hb.1, h3, fun k hk => Nat.lt_of_lt_of_le (h4 k hk) hsz⟩
theorem RtIn.below (h : RtIn w S g s) (hb : Below w.heap.size w w') : RtIn w' S g s := h.move (fun b hS => hb.block b (h.lt b hS)) hb.size
theorem RtIn.oth (h : RtIn w S g s) (ho : Oth T w w') (hd : ∀ k, S k → ¬ T k) : RtIn w' S g s := h.move (fun b hS => ho.block b (h.lt b hS) (hd b hS)) ho.size
end
abbrev RDoes (w : World) (S : Nat → Prop) (g : Nat) (r : Rt × Nat) (y : Ending) (w' : World) : Prop :=
  y = .returned (.int .i64 (r.2 : Int)) ∧ ∃ S', RtIn w' S' g r.1 ∧ Oth S w w' ∧ ∀ k, S' k → S k ∨ w.heap.size ≤ k
theorem RDoes.over {w W : World} {S : Nat → Prop} {g : Nat} {r : Rt × Nat} {y : Ending} {w' : World} (h : RDoes W S g r y w') (hb : Below w.heap.size w W) : RDoes w S g r y w' := by
  obtain ⟨h1, S', h2, h3, h4⟩ := h
  exact ⟨h1, S', h2, (Oth.of_below S hb).trans h3 fun _ _ x => x, fun k hk => (h4 k hk).imp id fun x => Nat.le_trans hb.size x⟩
/-- a new slice is put in its place -/
theorem rt_new {w w' : World} {S : Nat → Prop} {g : Nat} {v : Value} {l : List UInt8} {room : Nat} {has : Bool} {fuse : Int} {dead : Bool} (hg : S g) (hb : ∀ k, S k → k < w.heap.size) (hsz : w.heap.size ≤ w'.heap.size)
    (hr : Row w' g tR (rtC v room has fuse dead)) (ho : Own w' w.heap.size tU8 v l) : ∃ S', RtIn w' S' g ⟨l, room, has, fuse, dead⟩ ∧ ∀ k, S' k → S k ∨ w.heap.size ≤ k := by
  refine ⟨fun k => (S k ∨ w.heap.size ≤ k) ∧ k < w'.heap.size, ⟨v, hr, (OwnS.of ho).imp fun b hlt h => ⟨⟨.inr h.1, hlt⟩, ?_⟩, ⟨.inl hg, ?_⟩, fun k hk => hk.2⟩, fun k hk => hk.1⟩
  · have := hb g hg; have := h.1; omega
  · have := hb g hg; omega
theorem take_snoc (b : List UInt8) (i : Nat) (h : i < b.length) : b.take (i + 1) = b.take i ++ [b.getD i 0] := by
  rw [List.take_add_one]; simp [List.getElem?_eq_getElem h]
theorem rput_dead {s : Rt} {b : List UInt8} (h : s.dead = true) : rput s b = (s, 9) := if_pos h
theorem rput_full {s : Rt} {b : List UInt8} (h : ¬ s.dead = true) (h2 : s.room < s.k.length + b.length) : rput s b = (s, 8) := by unfold rput; rw [if_neg h, if_pos h2]
theorem rput_tear {s : Rt} {b : List UInt8} (h : ¬ s.dead = true) (h2 : ¬ s.room < s.k.length + b.length) (h3 : s.has = true) (h4 : s.fuse < (b.length : Int)) : rput s b = (⟨s.k ++ b.take s.fuse.toNat, s.room, false, 0, true⟩, 9) := by
  unfold rput; rw [if_neg h, if_neg h2, if_pos ⟨h3, h4⟩]
theorem rput_has {s : Rt} {b : List UInt8} (h : ¬ s.dead = true) (h2 : ¬ s.room < s.k.length + b.length) (h3 : s.has = true) (h4 : ¬ s.fuse < (b.length : Int)) : rput s b = (⟨s.k ++ b, s.room, true, s.fuse - (b.length : Int), false⟩, 0) := by
  unfold rput; rw [if_neg h, if_neg h2, if_neg (fun x => h4 x.2), if_pos h3, h3]
theorem rput_not {s : Rt} {b : List UInt8} (h : ¬ s.dead = true) (h2 : ¬ s.room < s.k.length + b.length) (h3 : s.has = false) : rput s b = (⟨s.k ++ b, s.room, false, s.fuse, false⟩, 0) := by
  unfold rput; rw [if_neg h, if_neg h2, if_neg (fun x => by rw [h3] at x; exact Bool.noConfusion x.1), if_neg (by rw [h3]; decide), h3]
set_option maxHeartbeats 2000000 in
set_option maxRecDepth 100000 in
theorem rput_any {w : World} {S : Nat → Prop} {g : Nat} {s : Rt} (h : RtIn w S g s) (hf : s.fit) (bs : List UInt8) (A : Option Addr) (c : Nat) (Pb : Nat → Prop) (hs : Sl w Pb A c bs) (hP : ∀ b, Pb b → ¬ S b) (hbl : bs.length ≤ 1000000) :
    Calls Tryd.prog 22 #[.pointer (some ⟨g, 0, none⟩), .slice A bs.length c] w fun y w' => RDoes w S g (rput s bs) y w' := by
  have H := hide h
  obtain ⟨v, hr, ho, hg, hb⟩ := h
  obtain ⟨A0, c0, rfl, hs0⟩ := ho.sl
  obtain ⟨f1, f2, f3, f4⟩ := hf
  obtain ⟨N, hN⟩ : ∃ N, N = s.k.length := ⟨_, rfl⟩
  obtain ⟨n, hn⟩ : ∃ n, n = bs.length := ⟨_, rfl⟩
  obtain ⟨M, hM⟩ : ∃ N, N = s.room := ⟨_, rfl⟩
  obtain ⟨F, hF⟩ : ∃ F, F = s.fuse := ⟨_, rfl⟩
  rw [← hN] at hr f1
  rw [← hM] at hr f1 f2
  rw [← hF] at hr f3 f4
  rw [← hn] at hbl ⊢
  have k0 := hr.cell 0
  have k1 := hr.cell 1
  have k2 := hr.cell 2
  have k3 := hr.cell 3
  have k4 := hr.cell 4
  simp only [rtC, List.getElem?_cons_zero, List.getElem?_cons_succ] at k0 k1 k2 k3 k4
  by_cases hd : s.dead = true
  · have HRes := hide (rput_dead (b := bs) hd)
    rw [hd] at k4
    clear hr ho hs0 hs hN hn hM hF k0 k1 k2 k3
    go_enter Tryd.func22, Tryd.ntmps22
    go_wp2
    go_ret
    rw [HRes.out]
    exact ⟨rfl, S, H.out, Oth.refl S w, fun k hk => .inl hk⟩
  · have hd' : s.dead = false := by simpa using hd
    rw [hd'] at k4 hr
    have hws : IntKind.i64.wrap ((N : Int) + (n : Int)) = ((N + n : Nat) : Int) := by rw [IntWalk.i64_in _ (by omega)]; omega
    by_cases hfl : s.room < s.k.length + n
    · have HRes := hide (rput_full (b := bs) hd (by rw [← hn]; exact hfl))
      have hfl1 : M < N + n := by omega
      obtain ⟨Z, hZ⟩ : ∃ Z, Z = N + n := ⟨_, rfl⟩
      rw [← hZ] at hws hfl1
      have hfl2 : decide (M < Z) = true := decide_eq_true hfl1
      clear hr ho hs0 hs hN hn hM hF hfl hZ
      go_enter Tryd.func22, Tryd.ntmps22
      go_wp2
      go_quiet (fail)
      go_wp2
      go_ret
      rw [HRes.out]
      exact ⟨rfl, S, H.out, (Oth.refl S w).drewN nq, fun k hk => .inl hk⟩
    · have hfl0 : ¬ s.room < s.k.length + bs.length := by rw [← hn]; exact hfl
      have HT1 := hide (rput_tear (b := bs) hd hfl0)
      have HT2 := hide (rput_has (b := bs) hd hfl0)
      have HT3 := hide (rput_not (b := bs) hd hfl0)
      have hfl1 : ¬ M < N + n := by omega
      obtain ⟨Z, hZ⟩ : ∃ Z, Z = N + n := ⟨_, rfl⟩
      rw [← hZ] at hws hfl1
      have hfl2 : decide (M < Z) = false := decide_eq_false hfl1
      have HR := hide hr
      have HS := hide hs.bound
      have HSo := hide hs.bound
      have HO := hide ho
      have Hg := hide hg
      have Hb := hide hb
      have Hs0 := hide hs0
      have HN := hide hN
      have Hn := hide hn
      have HM := hide hM
      have HF := hide hF
      have HP := hide hP
      clear hr ho hs0 hs hg hb hZ hN hn hM hF hfl hP hfl0 hd hd'
      generalize hhas : s.has = has at *
      have Hhas := hide hhas
      clear hhas
      go_enter Tryd.func22, Tryd.ntmps22
      go_wp2
      go_quiet (fail)
      obtain ⟨w1, hw⟩ : ∃ z, z = w.drewN nq := ⟨_, rfl⟩
      have HR1 := hide (show Row w1 g tR (rtC (.slice A0 N c0) M has F false) by rw [hw]; exact HR.out)
      have HS1 := hide (show Sl w1 (fun b => Pb b ∧ b < w.heap.size) A c bs by rw [hw]; exact HS.out)
      have Hs1 := hide (show Sl w1 (fun b => S b ∧ b ≠ g) A0 c0 s.k by rw [hw]; exact Hs0.out)
      have Hsz := hide (show w1.heap.size = w.heap.size by rw [hw]; rfl)
      have HO1 := hide (show Oth S w w1 by rw [hw]; exact (Oth.refl S w).drewN nq)
      have HOl := hide (show Below w.heap.size w w1 by rw [hw]; exact below_drewN (Below.refl _ w) nq)
      have j0 : w1.cell? ⟨g, 0, none⟩ = some (.slice A0 N c0) := HR1.out.cell 0
      rw [← hw]
      clear hw k0 k1 k2 k3 k4 HR HS Hs0 hws hfl1 hfl2
      go_wp2_with (at_builtin; go_loud (refine wpList_cat rfl (.tmp 24) (.tmp 28) 38 rfl Tryd.underlying38 info8 w1.heap.size w1 (.slice none 0 0) [] s.k _ A0 c0 rfl (by rw [← HN.out]; rfl) (Own.nil _ _ _) Hs1.out (by have := HN.out; simp; omega) (Below.refl _ _) (Nat.le_refl _) ?_; intro v' w2 hown hb2 _; have HOw := hide hown; have HB2 := hide hb2; clear hown hb2))
      have HOwB := hide (show Own w2 w.heap.size tU8 v' s.k from by have := HOw.out; rw [List.nil_append, Hsz.out] at this; exact this)
      have HRB := hide (HR1.out.below HB2.out HR1.out.lt)
      have HOB := hide (show Oth (fun b => b = g) w w2 from ((Oth.of_below (fun b => b = g) (show Below w.heap.size w w1 from HOl.out)).trans (Oth.of_below (fun b => b = g) HB2.out) fun _ _ h => h))
      have Hlt := hide (Hb.out g Hg.out)
      have HPg := hide (show ∀ b, Pb b → b ≠ g from fun b h e => HP.out b h (by rw [e]; exact Hg.out))
      have HS1w := hide (show Sl w (fun b => Pb b ∧ b < w.heap.size) A c bs from HSo.out)
      have hF0 : 0 ≤ F := f3
      clear HOw HR1 HS1 Hs1 HB2 HO1 j0 Hsz H HO
      cases has with
      | true =>
        go_loopw [5, 6] (fun l i wr => ∃ (k : Nat) (vl : Value), vl = l ∧ k ≤ n ∧ i = .int .i64 k ∧ Own wr w.heap.size tU8 vl (s.k ++ bs.take k) ∧ (k : Int) ≤ F ∧ Row wr g tR (rtC (.slice A0 N c0) M true (F - (k : Int)) false) ∧ Oth (fun b => b = g) w wr) (fun _ i _ => n - (intOf i).toNat)
        case atStart => exact ⟨0, v', rfl, Nat.zero_le _, rfl, by simpa using HOwB.out, by simpa using hF0, by simpa using HRB.out, HOB.out⟩
        case round =>
          obtain ⟨k, vl, rfl, hk, rfl, how, hkF, hrw, hoth⟩ := hrel
          have HOw := hide how
          have HRw := hide hrw
          have HOt := hide hoth
          have k0 := hrw.cell 0
          have k2 := hrw.cell 2
          have k3 := hrw.cell 3
          have k4 := hrw.cell 4
          have f0 := hrw.free 0
          have f2 := hrw.free 2
          have f3 := hrw.free 3
          have f4 := hrw.free 4
          simp only [rtC, List.getElem?_cons_zero, List.getElem?_cons_succ] at k0 k2 k3 k4
          have Hsz := hide (show w.heap.size ≤ wr.heap.size from hoth.size)
          have HSw := hide (HS1w.out.move (w' := wr) fun b hb _ => hoth.block b hb.2 fun e => HPg.out b hb.1 e)
          clear how hrw hoth
          by_cases hlt : k < n
          · by_cases hz : F = (k : Int)
            · have hz1 : ((F - (k : Int)) == 0) = true := by rw [beq_iff_eq]; omega
              have hz2 : F - (k : Int) = 0 := by omega
              obtain ⟨Al, nl, cl, rfl⟩ : ∃ A n c, vl = .slice A n c := by obtain ⟨A, c, e, _⟩ := HOw.out.sl; exact ⟨A, _, c, e⟩
              have HE := hide (((HRw.out.put 4 (.bool true)).put 2 (.bool false)).put 0 (.slice Al nl cl))
              have c1 := ((HRw.out.put 4 (.bool true)).cell 2)
              have c2 := (((HRw.out.put 4 (.bool true)).put 2 (.bool false)).cell 0)
              have g1 := ((HRw.out.put 4 (.bool true)).free 2)
              have g2 := (((HRw.out.put 4 (.bool true)).put 2 (.bool false)).free 0)
              simp only [rtC, List.set_cons_succ, List.set_cons_zero, List.getElem?_cons_zero, List.getElem?_cons_succ] at c1 c2
              have HOe := hide (show Own (((wr.setCell ⟨g, 4, none⟩ (.bool true)).setCell ⟨g, 2, none⟩ (.bool false)).setCell ⟨g, 0, none⟩ (.slice Al nl cl)) w.heap.size tU8 (.slice Al nl cl) (s.k ++ bs.take k) from ownsRow_setCell_below (ownsRow_setCell_below (ownsRow_setCell_below HOw.out (a := ⟨g, 4, none⟩) Hlt.out _) (a := ⟨g, 2, none⟩) Hlt.out _) (a := ⟨g, 0, none⟩) Hlt.out _)
              have HOx := hide ((((HOt.out.mono (T := S) fun b _ e => by rw [e]; exact Hg.out).put (g := g) (i := 4) (.inl Hg.out) (.bool true)).put (g := g) (i := 2) (.inl Hg.out) (.bool false)).put (g := g) (i := 0) (.inl Hg.out) (.slice Al nl cl))
              have Hz := hide hz2
              have Hz0 := hide hz
              clear HOw HRw HOt hz hz2
              go_wp2
              go_ret
              rw [HT1.out trivial (by have := HF.out; have := Hz0.out; have := Hn.out; omega)]
              have he := HE.out
              rw [Hz.out] at he
              obtain ⟨S', q1, q2⟩ := rt_new Hg.out Hb.out HOx.out.size (show Row _ g tR (rtC (.slice Al nl cl) M false 0 true) from he) HOe.out
              rw [HM.out] at q1
              rw [show s.fuse.toNat = k by have := HF.out; have := Hz0.out; omega]
              exact ⟨rfl, S', q1, HOx.out, q2⟩
            · have hz1 : ((F - (k : Int)) == 0) = false := by rw [beq_eq_false_iff_ne]; omega
              have hw1 : IntKind.i64.wrap (F - (k : Int) - 1) = F - ((k + 1 : Nat) : Int) := by rw [IntWalk.i64_in _ (by omega)]; omega
              have hkF2 : ((k + 1 : Nat) : Int) ≤ F := by omega
              have HkF2 := hide hkF2
              obtain ⟨G, hG⟩ : ∃ G, G = F - ((k + 1 : Nat) : Int) := ⟨_, rfl⟩
              rw [← hG] at hw1
              obtain ⟨G0, hG0⟩ : ∃ G, G = F - (k : Int) := ⟨_, rfl⟩
              rw [← hG0] at hw1 hz1 k3 HRw
              have HGe := hide hG
              have Htk := hide (show s.k ++ bs.take (k + 1) = (s.k ++ bs.take k) ++ [bs.getD k 0] by rw [take_snoc bs k (by have := Hn.out; omega), List.append_assoc])
              have Hll := hide (show (s.k ++ bs.take k).length + 1 ≤ 70368744177664 by have := HN.out; have := Hn.out; rw [List.length_append, List.length_take]; omega)
              have HRp := hide (HRw.out.put 3 (.int .i64 G))
              have HOwp := hide (show Own (wr.setCell ⟨g, 3, none⟩ (.int .i64 G)) w.heap.size tU8 vl (s.k ++ bs.take k) from ownsRow_setCell_below HOw.out (a := ⟨g, 3, none⟩) Hlt.out _)
              have HOtp := hide (HOt.out.put (g := g) (i := 3) (.inl rfl) (.int .i64 G))
              have Hszp := hide (show w.heap.size ≤ (wr.setCell ⟨g, 3, none⟩ (.int .i64 G)).heap.size from HOtp.out.size)
              simp only [rtC, List.set_cons_succ, List.set_cons_zero] at HRp
              clear hz hkF hkF2 hG hG0
              obtain ⟨Ab, ob, rfl, hpb, hcb⟩ := HSw.out.2 (by have := Hn.out; omega)
              have cb : (wr.setCell ⟨g, 3, none⟩ (.int .i64 G)).cell? ⟨Ab, ob + k, none⟩ = some (.int .u8 ((bs.getD k 0).toNat : Int)) := (World.cell?_of_block (a := ⟨Ab, ob + k, none⟩) (Below.heap_setCell wr ⟨g, 3, none⟩ _ Ab fun e => HPg.out Ab hpb.1 e)).trans (hcb k (by have := Hn.out; omega))
              have hkc : k < c := Nat.lt_of_lt_of_le hlt (by rw [Hn.out]; exact HSw.out.1)
              clear hcb
              clear HRw HOw HOt
              go_wp2_with (at_builtin; go_loud (refine wpList_push rfl (.tmp 69) (.tmp 74) 38 rfl Tryd.underlying38 info8 w.heap.size (wr.setCell ⟨g, 3, none⟩ (.int .i64 G)) _ (s.k ++ bs.take k) [bs.getD k 0] 1 1 rfl (by rw [show (wr.setCell ⟨g, 3, none⟩ (.int .i64 G)).heap.size = wr.heap.size from by simp [World.setCell]]; rfl) HOwp.out rfl rfl Hll.out (Below.refl _ _) Hszp.out ?_; intro v' w3 hown hb3 hgr; have HOw3 := hide hown; have HG3 := hide hgr; clear hown hb3 hgr))
              have HRow3 := hide (HRp.out.grown HG3.out (fun e => by have := (World.ownsRow.lt HOwp.out g e.symm).1; have := Hlt.out; omega))
              refine ⟨⟨k + 1, _, rfl, by omega, by go_num, by rw [Htk.out]; exact HOw3.out, HkF2.out, by rw [← HGe.out]; exact HRow3.out, HOtp.out.trans (Oth.of_grown (S := fun b => w.heap.size ≤ b) HG3.out fun g e => (World.ownsRow.lt HOwp.out g e).1) fun i hi h => by omega⟩, by simp [intOf]; omega⟩
          · obtain rfl : k = n := by omega
            obtain ⟨Al, nl, cl, rfl⟩ : ∃ A n c, vl = .slice A n c := by obtain ⟨A, c, e, _⟩ := HOw.out.sl; exact ⟨A, _, c, e⟩
            have HE := hide (HRw.out.put 0 (.slice Al nl cl))
            have HOe := hide (show Own (wr.setCell ⟨g, 0, none⟩ (.slice Al nl cl)) w.heap.size tU8 (.slice Al nl cl) (s.k ++ bs.take k) from ownsRow_setCell_below HOw.out (a := ⟨g, 0, none⟩) Hlt.out _)
            have HOx := hide ((HOt.out.mono (T := S) fun b _ e => by rw [e]; exact Hg.out).put (g := g) (i := 0) (.inl Hg.out) (.slice Al nl cl))
            have HkF := hide hkF
            clear HOw HRw HOt hkF
            go_wp2
            go_ret
            rw [HT2.out trivial (by have := HF.out; have := HkF.out; have := Hn.out; omega)]
            obtain ⟨S', q1, q2⟩ := rt_new Hg.out Hb.out HOx.out.size HE.out HOe.out
            rw [show bs.take k = bs by rw [Hn.out, List.take_length]] at q1
            rw [HF.out, Hn.out, HM.out] at q1
            exact ⟨rfl, S', q1, HOx.out, q2⟩
      | false =>
        go_loopw [5, 6] (fun l i wr => ∃ (k : Nat) (vl : Value), vl = l ∧ k ≤ n ∧ i = .int .i64 k ∧ Own wr w.heap.size tU8 vl (s.k ++ bs.take k) ∧ Row wr g tR (rtC (.slice A0 N c0) M false F false) ∧ Oth (fun b => b = g) w wr) (fun _ i _ => n - (intOf i).toNat)
        case atStart => exact ⟨0, v', rfl, Nat.zero_le _, rfl, by simpa using HOwB.out, HRB.out, HOB.out⟩
        case round =>
          obtain ⟨k, vl, rfl, hk, rfl, how, hrw, hoth⟩ := hrel
          have HOw := hide how
          have HRw := hide hrw
          have HOt := hide hoth
          have k0 := hrw.cell 0
          have k2 := hrw.cell 2
          have k3 := hrw.cell 3
          have k4 := hrw.cell 4
          have f0 := hrw.free 0
          have f2 := hrw.free 2
          have f3 := hrw.free 3
          have f4 := hrw.free 4
          simp only [rtC, List.getElem?_cons_zero, List.getElem?_cons_succ] at k0 k2 k3 k4
          have Hsz := hide (show w.heap.size ≤ wr.heap.size from hoth.size)
          have HSw := hide (HS1w.out.move (w' := wr) fun b hb _ => hoth.block b hb.2 fun e => HPg.out b hb.1 e)
          clear how hrw hoth
          by_cases hlt : k < n
          · have Htk := hide (show s.k ++ bs.take (k + 1) = (s.k ++ bs.take k) ++ [bs.getD k 0] by rw [take_snoc bs k (by have := Hn.out; omega), List.append_assoc])
            have Hll := hide (show (s.k ++ bs.take k).length + 1 ≤ 70368744177664 by have := HN.out; have := Hn.out; rw [List.length_append, List.length_take]; omega)
            obtain ⟨Ab, ob, rfl, hpb, hcb⟩ := HSw.out.2 (by have := Hn.out; omega)
            have cb : wr.cell? ⟨Ab, ob + k, none⟩ = some (.int .u8 ((bs.getD k 0).toNat : Int)) := hcb k (by have := Hn.out; omega)
            have hkc : k < c := Nat.lt_of_lt_of_le hlt (by rw [Hn.out]; exact HSw.out.1)
            clear hcb
            go_wp2_with (at_builtin; go_loud (refine wpList_push rfl (.tmp 69) (.tmp 74) 38 rfl Tryd.underlying38 info8 w.heap.size wr _ (s.k ++ bs.take k) [bs.getD k 0] 1 1 rfl rfl HOw.out rfl rfl Hll.out (Below.refl _ _) Hsz.out ?_; intro v' w3 hown hb3 hgr; have HOw3 := hide hown; have HG3 := hide hgr; clear hown hb3 hgr))
            refine ⟨⟨k + 1, _, rfl, by omega, by go_num, by rw [Htk.out]; exact HOw3.out, HRw.out.grown HG3.out (fun e => ?_), HOt.out.trans (Oth.of_grown (S := fun b => w.heap.size ≤ b) HG3.out fun g e => (World.ownsRow.lt HOw.out g e).1) fun i hi h => by omega⟩, by simp [intOf]; omega⟩
            have := (World.ownsRow.lt HOw.out g e.symm).1
            have := Hlt.out
            omega
          · obtain rfl : k = n := by omega
            obtain ⟨Al, nl, cl, rfl⟩ : ∃ A n c, vl = .slice A n c := by obtain ⟨A, c, e, _⟩ := HOw.out.sl; exact ⟨A, _, c, e⟩
            have HE := hide (HRw.out.put 0 (.slice Al nl cl))
            have HOe := hide (show Own (wr.setCell ⟨g, 0, none⟩ (.slice Al nl cl)) w.heap.size tU8 (.slice Al nl cl) (s.k ++ bs.take k) from ownsRow_setCell_below HOw.out (a := ⟨g, 0, none⟩) Hlt.out _)
            have HOx := hide ((HOt.out.mono (T := S) fun b _ e => by rw [e]; exact Hg.out).put (g := g) (i := 0) (.inl Hg.out) (.slice Al nl cl))
            clear HOw HRw HOt
            go_wp2
            go_ret
            rw [HT3.out trivial]
            obtain ⟨S', q1, q2⟩ := rt_new Hg.out Hb.out HOx.out.size HE.out HOe.out
            rw [show bs.take k = bs by rw [Hn.out, List.take_length], HF.out, HM.out] at q1
            exact ⟨rfl, S', q1, HOx.out, q2⟩
end Go.Proofs.YtcmjdepjckhpdaaDoor.Dk
namespace Go.Proofs.YtcmjdepjckhpdaaDoor.Lw
open Go Go.RowKit Go.WideShapes Go.ChangeShapes Go.ChangeAt Go.ChangeMaps Kt

/-- the slice '.slice A n c' reads as these values, which lie in a block of which P holds -/
def Vs (w : World) (P : Nat → Prop) (A : Option Addr) (c : Nat) (vs : List Value) : Prop :=
  vs.length ≤ c ∧ (0 < vs.length → ∃ b o, A = some ⟨b, o, none⟩ ∧ P b ∧ ∀ j v, vs[j]? = some v → w.cell? ⟨b, o + j, none⟩ = some v)
theorem Vs.move {w w' : World} {P : Nat → Prop} {A : Option Addr} {c : Nat} {vs : List Value} (h : Vs w P A c vs) (hk : ∀ b, P b → b < w.heap.size → w'.heap[b]? = w.heap[b]?) : Vs w' P A c vs :=
  ⟨h.1, fun hn => by
    obtain ⟨b, o, rfl, hp, hc⟩ := h.2 hn
    refine ⟨b, o, rfl, hp, fun j v hj => ?_⟩
    rw [World.cell?_of_block (w := w) (a := ⟨b, o + j, none⟩) (hk b hp (World.block_lt_of_cell? w ⟨b, o + j, none⟩ (hc j v hj)))]
    exact hc j v hj⟩
theorem Vs.below {w w' : World} {P : Nat → Prop} {A : Option Addr} {c : Nat} {vs : List Value} (h : Vs w P A c vs) (hb : Below w.heap.size w w') : Vs w' P A c vs := h.move fun b _ hlt => hb.block b hlt
def nums (k : IntKind) (l : List Int) : List Value := l.map (.int k)
def texts (l : List (List UInt8)) : List Value := l.map fun s => .string ⟨s.toArray⟩
theorem nums_len (k : IntKind) (l : List Int) : (nums k l).length = l.length := by simp [nums]
theorem texts_len (l : List (List UInt8)) : (texts l).length = l.length := by simp [texts]
theorem nums_at (k : IntKind) (l : List Int) (j : Nat) (h : j < l.length) : (nums k l)[j]? = some (.int k (l.getD j 0)) := by simp [nums, List.getElem?_eq_getElem h]
theorem texts_at (l : List (List UInt8)) (j : Nat) (h : j < l.length) : (texts l)[j]? = some (.string ⟨(l.getD j []).toArray⟩) := by simp [texts, List.getElem?_eq_getElem h]

section
variable {H : Type} {enc : TypeId × Value → H} {P : Program}
theorem open_nums {k : IntKind} {t e : TypeId} {W : World} {base : Nat} {v : Value} {d : DataW H} {ps : List MemPlace} (ht : P.underlying t = some (.slice e)) (he : P.underlying e = some (.int k)) (hc : P.cellsOf e = 1)
    (hval : Value.okWide P W .any base t v) (h : DataW.Trod enc P W 0 (fun _ => true) true t v d ps) :
    ∃ (l : List Int) (A : Option Addr) (c : Nat), v = .slice A l.length c ∧ (Vs W (fun _ => True) A c (nums k l) ∧ ∀ z ∈ l, (Lit.int k z).wf = true) ∧ l.length ≤ maxLen := by
  obtain ⟨a1, len, cap, rfl⟩ := okWide_slice ht hval
  obtain ⟨fuel, hf⟩ := h
  rcases open_ints ht he hc hf with ⟨hcs, hx⟩ | ⟨a, len', cap', zs, hcs, _, hl, hm, hz, hx, hcell, hwz⟩
  · simp [Value.cells] at hcs
    obtain ⟨rfl, rfl, rfl⟩ := hcs
    exact ⟨[], none, 0, rfl, ⟨⟨Nat.zero_le _, fun h => by simp [nums] at h⟩, fun z hz => by cases hz⟩, Nat.zero_le _⟩
  · simp [Value.cells] at hcs
    obtain ⟨rfl, rfl, rfl⟩ := hcs
    simp only [if_true] at hz
    have hlen : (zs.take len).length = len := by rw [List.length_take]; omega
    refine ⟨zs.take len, some a, cap, by rw [hlen], ⟨⟨by rw [nums_len, hlen]; exact hl, fun hn => ?_⟩, fun z hzm => hwz z (List.mem_of_mem_take hzm)⟩, by rw [hlen]; omega⟩
    rw [nums_len, hlen] at hn
    obtain ⟨ab, ao, spot⟩ := a
    have hspot : spot = none := by simpa [Addr.add] using World.cell?_spot (hcell 0 (by omega))
    subst hspot
    refine ⟨ab, ao, rfl, trivial, fun j v hj => ?_⟩
    have hjl : j < len := by have := (List.getElem?_eq_some_iff.1 hj).1; rw [nums_len, hlen] at this; exact this
    have hcj := hcell j (by omega)
    rw [Addr.add_mid] at hcj
    rw [hcj, ← hj, nums_at _ _ _ (by rw [hlen]; exact hjl)]
    simp [List.getD_eq_getElem?_getD, hjl]
theorem open_texts {t e : TypeId} {W : World} {base : Nat} {v : Value} {d : DataW H} {ps : List MemPlace} (ht : P.underlying t = some (.slice e)) (he : P.underlying e = some .string) (hc : P.cellsOf e = 1)
    (hval : Value.okWide P W .any base t v) (h : DataW.Trod enc P W 0 (fun _ => true) true t v d ps) :
    ∃ (l : List (List UInt8)) (A : Option Addr) (c : Nat), v = .slice A l.length c ∧ (Vs W (fun _ => True) A c (texts l) ∧ ∀ s ∈ l, s.length ≤ maxLen) ∧ l.length ≤ maxLen := by
  obtain ⟨a1, len, cap, rfl⟩ := okWide_slice ht hval
  obtain ⟨fuel, hf⟩ := h
  rcases open_strings ht he hc hf with ⟨hcs, hx⟩ | ⟨a, len', cap', zs, hcs, _, hl, hm, hz, hx, hcell, hwz⟩
  · simp [Value.cells] at hcs
    obtain ⟨rfl, rfl, rfl⟩ := hcs
    exact ⟨[], none, 0, rfl, ⟨⟨Nat.zero_le _, fun h => by simp [texts] at h⟩, fun z hz => by cases hz⟩, Nat.zero_le _⟩
  · simp [Value.cells] at hcs
    obtain ⟨rfl, rfl, rfl⟩ := hcs
    simp only [if_true] at hz
    have hlen : ((zs.take len).map fun s => s.data.toList).length = len := by rw [List.length_map, List.length_take]; omega
    refine ⟨(zs.take len).map fun s => s.data.toList, some a, cap, by rw [hlen], ⟨⟨by rw [texts_len, hlen]; exact hl, fun hn => ?_⟩, fun z hzm => ?_⟩, by rw [hlen]; omega⟩
    · rw [texts_len, hlen] at hn
      obtain ⟨ab, ao, spot⟩ := a
      have hspot : spot = none := by simpa [Addr.add] using World.cell?_spot (hcell 0 (by omega))
      subst hspot
      refine ⟨ab, ao, rfl, trivial, fun j v hj => ?_⟩
      have hjl : j < len := by have := (List.getElem?_eq_some_iff.1 hj).1; rw [texts_len, hlen] at this; exact this
      have hcj := hcell j (by omega)
      rw [Addr.add_mid] at hcj
      rw [hcj, ← hj, texts_at _ _ (by rw [hlen]; exact hjl)]
      simp [List.getD_eq_getElem?_getD, hjl, List.getElem?_eq_getElem (show j < zs.length by omega)]
    · obtain ⟨s, hs, rfl⟩ := List.mem_map.1 hzm
      rw [Array.length_toList]
      exact hwz s (List.mem_of_mem_take hs)
end
end Go.Proofs.YtcmjdepjckhpdaaDoor.Lw
namespace Go.Proofs.YtcmjdepjckhpdaaDoor.Kt
open Go Go.RowKit Lw

/-- a list of texts in a row of the call's own (E: the number of the type string) -/
def OwT (w : World) (B : Nat) (E : TypeId) (v : Value) (l : List (List UInt8)) : Prop := w.ownsRow B E 1 v l.length (texts l)
theorem texts_append (l r : List (List UInt8)) : texts (l ++ r) = texts l ++ texts r := by simp [texts]
theorem texts_one (l : List (List UInt8)) : ∀ v ∈ texts l, v.oneCell' = true := by
  intro v hv; simp only [texts, List.mem_map] at hv; obtain ⟨_, _, rfl⟩ := hv; rfl
section
variable {w w' : World} {B : Nat} {E : TypeId} {v : Value} {l : List (List UInt8)}
theorem OwT.nil (w : World) (B : Nat) (E : TypeId) : OwT w B E (.slice none 0 0) [] := World.ownsRow_nil w B E 1
theorem OwT.lit (w : World) (B : Nat) (E : TypeId) (l : List (List UInt8)) (c : Array Value) (hc : c = (texts l).toArray) (hB : B ≤ w.heap.size) (hl : l.length ≤ maxLen) :
    OwT (w.alloc (.cells c E)) B E (.slice (some ⟨w.heap.size, 0, none⟩) l.length l.length) l := by
  subst hc
  have := World.ownsRow_lit (e := E) (size := 1) (base := B) w (texts l).toArray l.length hB hl (by simp [texts_len])
  simpa [OwT] using this
theorem OwT.alloc (h : OwT w B E v l) (o : Obj) : OwT (w.alloc o) B E v l := World.ownsRow.alloc h o
theorem OwT.drew (h : OwT w B E v l) : OwT w.drew B E v l := h
theorem OwT.drewN (h : OwT w B E v l) (n : Nat) : OwT (w.drewN n) B E v l := h
theorem OwT.below (h : OwT w B E v l) {B' : Nat} (hb : Below B' w w') (hv : ∀ g, v.ownBlock = some g → g < B') : OwT w' B E v l := by
  refine ⟨h.1, ?_⟩
  rcases h.2 with ⟨h1, h2⟩ | ⟨g, cap, cur, hv', h1, h2, h3⟩
  · exact .inl ⟨h1, h2⟩
  · exact .inr ⟨g, cap, cur, hv', h1, (hb.block g (hv g (by rw [hv']; rfl))).trans h2, h3⟩
theorem OwT.kept (h : OwT w B E v l) (hb : Below w.heap.size w w') : OwT w' B E v l := h.below hb fun g hg => (World.ownsRow.lt h g hg).2
theorem OwT.vs (h : OwT w B E v l) : ∃ A c, v = .slice A l.length c ∧ Vs w (fun b => B ≤ b ∧ v.ownBlock = some b) A c (texts l) := by
  rcases h.2 with ⟨rfl, h0⟩ | ⟨g, cap, cur, rfl, hB, hg, hnc, hcm, hs, ht⟩
  · have e : l = [] := List.eq_nil_of_length_eq_zero h0
    subst e
    exact ⟨none, 0, rfl, Nat.le_refl _, fun h => by simp [texts] at h⟩
  · refine ⟨_, cap, rfl, by rw [texts_len]; exact hnc, fun _ => ⟨g, 0, rfl, ⟨hB, rfl⟩, fun j v hj => ?_⟩⟩
    have hlt : j < l.length := by have := (List.getElem?_eq_some_iff.1 hj).1; rwa [texts_len] at this
    have := World.ownsRow.cellAt (cap := cap) h j (by omega)
    rw [Nat.zero_add, this, hj]
end

theorem run_append_nothingT {P : Program} {w : World} {t ty e : TypeId} {i : TypeInfo} (ht : P.underlying t = some (.slice e)) (hi : P.info? e = some i) {B size : Nat}
    {v : Value} {n : Nat} {xs : List Value} (hown : w.ownsRow B e size v n xs) (c : Nat) : (Builtin.append_ #[t, t] ty #[v, .slice none 0 c]).run P w = .ok v w := by
  rcases hown.2 with ⟨rfl, rfl⟩ | ⟨g, cap, cur, rfl, _, _, hnc, _⟩
  · simp [Builtin.append_, run_underlying ht, sizeOf, typeInfo, hi, Builtin.lenOf, Builtin.firstCells]
  · simp [Builtin.append_, run_underlying ht, sizeOf, typeInfo, hi, Builtin.lenOf, Builtin.firstCells, hnc, storeCells]

/-- append(s, texts..) onto a row of texts of the call's own -/
theorem wp_catT {P : Program} {o : Oper} {a : Act} {K : Act → World → Prop} {Q : Exit → Act → World → Prop} {w : World} {E : TypeId}
    (s x : Operand) (t : TypeId) (ho : o.op = .call { callee := .builtin .append, args := #[s, x], argTypes := #[t, t] })
    (ht : P.underlying t = some (.slice E)) (hi : (P.info? E).map (fun i => (i.zero, i.size, i.bytes)) = some (some (.string ⟨#[]⟩), 1, 16))
    (B : Nat) (w0 : World) (v : Value) (l r : List (List UInt8)) (Pb : Nat → Prop) (A : Option Addr) (c : Nat) (hs : a.eval s = v) (hx : a.eval x = .slice A r.length c)
    (hown : OwT w B E v l) (hsl : Vs w Pb A c (texts r)) (hlen : l.length + r.length ≤ 4398046511104) (hb : Below B w0 w) (hbase : B ≤ w.heap.size)
    (h : ∀ v' w', OwT w' B E v' (l ++ r) → Below B w0 w' → w.grownBy w' v.ownBlock → K (a.put o.dst v') w') : o.wp P a w K Q := by
  obtain ⟨i0, hi0, hz0, hz1, hz2⟩ := info_parts hi
  cases A with
  | none =>
    have h0 : r = [] := by
      cases r with
      | nil => rfl
      | cons b r => obtain ⟨_, _, he, _⟩ := hsl.2 (by simp [texts]); cases he
    subst h0
    have hrun := run_append_nothingT (P := P) (ty := o.type) ht hi0 hown c
    simp only [List.length_nil] at hx
    unfold Oper.wp execOp
    simp only [ho, resolve, invoke, builtin, Sem.run_bind, Sem.run_pure, Result.andThen_ok, List.map_toArray, List.map_cons, List.map_nil, hs, hx, hrun]
    exact h v w (by simpa using hown) hb (World.grownBy.refl _ _)
  | some ad =>
    refine wp_append_own _ s x t ho B E i0 (.string ⟨#[]⟩) 1 16 ht hi0 hz0 hz1 hz2 rfl (by omega) v l.length (texts l) hs hown ad r.length c (texts r) hx (by simp [texts_len])
      (fun j u hu => ?_) (texts_one r) (by unfold maxLen; omega) (by omega) hbase (fun v' w' h1 h2 _ => ?_)
    · have hj : j < r.length := by have := (List.getElem?_eq_some_iff.1 hu).1; rwa [texts_len] at this
      obtain ⟨b, k, he, _, hc⟩ := hsl.2 (by rw [texts_len]; omega)
      injection he with he
      subst he
      rw [Addr.add_mid]
      exact hc j u hu
    · refine h v' w' ?_ (hb.grown h2 hbase fun k hk => (World.ownsRow.lt hown k hk).1) h2
      unfold OwT
      rw [List.length_append, texts_append]
      exact h1
theorem wpList_catT {P : Program} {ops : Array Oper} {rest : List Oper} {o : Oper} {a : Act} {Q : Exit → Act → World → Prop} {w : World} {E : TypeId}
    (hgd : o.guard = none) (s x : Operand) (t : TypeId) (ho : o.op = .call { callee := .builtin .append, args := #[s, x], argTypes := #[t, t] })
    (ht : P.underlying t = some (.slice E)) (hi : (P.info? E).map (fun i => (i.zero, i.size, i.bytes)) = some (some (.string ⟨#[]⟩), 1, 16))
    (B : Nat) (w0 : World) (v : Value) (l r : List (List UInt8)) (Pb : Nat → Prop) (A : Option Addr) (c : Nat) (hs : a.eval s = v) (hx : a.eval x = .slice A r.length c)
    (hown : OwT w B E v l) (hsl : Vs w Pb A c (texts r)) (hlen : l.length + r.length ≤ 4398046511104) (hb : Below B w0 w) (hbase : B ≤ w.heap.size)
    (h : ∀ v' w', OwT w' B E v' (l ++ r) → Below B w0 w' → w.grownBy w' v.ownBlock → wpList P ops Q rest (a.put o.dst v') w') : wpList P ops Q (o :: rest) a w :=
  wpList_plain hgd fun _ hK => wp_catT s x t ho ht hi B w0 v l r Pb A c hs hx hown hsl hlen hb hbase fun v' w' h1 h2 h3 => hK _ _ (h v' w' h1 h2 h3)
/-- the same where the operation's guard says yes -/
theorem wpList_catTg {P : Program} {ops : Array Oper} {rest : List Oper} {o : Oper} {a : Act} {Q : Exit → Act → World → Prop} {w : World} {E : TypeId}
    (hgd : Region.wanted o (yielded ops a.tmps) = true) (s x : Operand) (t : TypeId) (ho : o.op = .call { callee := .builtin .append, args := #[s, x], argTypes := #[t, t] })
    (ht : P.underlying t = some (.slice E)) (hi : (P.info? E).map (fun i => (i.zero, i.size, i.bytes)) = some (some (.string ⟨#[]⟩), 1, 16))
    (B : Nat) (w0 : World) (v : Value) (l r : List (List UInt8)) (Pb : Nat → Prop) (A : Option Addr) (c : Nat) (hs : a.eval s = v) (hx : a.eval x = .slice A r.length c)
    (hown : OwT w B E v l) (hsl : Vs w Pb A c (texts r)) (hlen : l.length + r.length ≤ 4398046511104) (hb : Below B w0 w) (hbase : B ≤ w.heap.size)
    (h : ∀ v' w', OwT w' B E v' (l ++ r) → Below B w0 w' → w.grownBy w' v.ownBlock → wpList P ops Q rest (a.put o.dst v') w') : wpList P ops Q (o :: rest) a w :=
  wpList_step fun K hK => by
    rw [if_pos hgd]
    exact wp_catT s x t ho ht hi B w0 v l r Pb A c hs hx hown hsl hlen hb hbase fun v' w' h1 h2 h3 => hK _ _ (h v' w' h1 h2 h3)
theorem Vs.one (w : World) (E : TypeId) (y : List UInt8) : Vs (w.alloc (.cells #[.string ⟨y.toArray⟩] E)) (fun _ => True) (some ⟨w.heap.size, 0, none⟩) 1 (texts [y]) :=
  ⟨by simp [texts], fun _ => ⟨w.heap.size, 0, rfl, trivial, fun j v hj => by
    rw [Nat.zero_add, (Row.fresh w _ _).cell]
    exact hj⟩⟩
end Go.Proofs.YtcmjdepjckhpdaaDoor.Kt
