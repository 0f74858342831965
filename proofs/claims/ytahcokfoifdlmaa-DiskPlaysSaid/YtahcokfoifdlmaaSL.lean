/-
  The reference's disk in memory: what its Append, Cut and Do come to.
-/
import Derived.Test.YtahcokfoifdlmaaSI
namespace Go.Proofs.Ytahcokfoifdlmaa.Dk
open Go Go.RowKit Kt Kg Wr Lw

abbrev tR : TypeId := 32
def rtC (v : Value) (room : Nat) (has : Bool) (fuse : Int) (dead : Bool) : List Value := [v, .int .i64 (room : Int), .bool has, .int .i64 fuse, .bool dead]
/-- the reference's disk in block g; what it is made of are blocks of S -/
def RtIn (w : World) (S : Nat → Prop) (g : Nat) (r : Rt) : Prop :=
  ∃ v, Row w g tR (rtC v r.room r.has r.fuse r.dead) ∧ OwnS w (fun b => S b ∧ b ≠ g) tU8 v r.k ∧ S g ∧ ∀ k, S k → k < w.heap.size
section
variable {w w' : World} {S T : Nat → Prop} {g : Nat} {s : Rt}
theorem RtIn.lt (h : RtIn w S g s) : ∀ k, S k → k < w.heap.size := by obtain ⟨_, _, _, _, h4⟩ := h; exact h4
theorem RtIn.move (h : RtIn w S g s) (hk : ∀ b, S b → w'.heap[b]? = w.heap[b]?) (hsz : w.heap.size ≤ w'.heap.size) : RtIn w' S g s := by
  obtain ⟨v, h1, h2, h3, h4⟩ := h
  exact ⟨v, (hk g h3).trans h1, h2.move fun b hb _ => hk b hb.1, h3, fun k hk => Nat.lt_of_lt_of_le (h4 k hk) hsz⟩
theorem RtIn.below (h : RtIn w S g s) (hb : Below w.heap.size w w') : RtIn w' S g s := h.move (fun b hS => hb.block b (h.lt b hS)) hb.size
theorem RtIn.oth (h : RtIn w S g s) (ho : Oth T w w') (hd : ∀ k, S k → ¬ T k) : RtIn w' S g s := h.move (fun b hS => ho.block b (h.lt b hS) (hd b hS)) ho.size
end
abbrev RDoes (w : World) (S : Nat → Prop) (g : Nat) (r : Rt × Nat) (y : Ending) (w' : World) : Prop :=
  y = .returned (.int .i64 (r.2 : Int)) ∧ ∃ S', RtIn w' S' g r.1 ∧ Oth S w w' ∧ ∀ k, S' k → S k ∨ w.heap.size ≤ k
theorem RDoes.over {w W : World} {S : Nat → Prop} {g : Nat} {r : Rt × Nat} {y : Ending} {w' : World} (h : RDoes W S g r y w') (hb : Below w.heap.size w W) : RDoes w S g r y w' := by
  obtain ⟨h1, S', h2, h3, h4⟩ := h
  exact ⟨h1, S', h2, (Oth.of_below S hb).trans h3 fun _ _ x => x, fun k hk => (h4 k hk).imp id fun x => Nat.le_trans hb.size x⟩
/-- a new slice is put in its place -/
theorem rt_new {w w' : World} {S : Nat → Prop} {g : Nat} {v : Value} {l : List UInt8} {room : Nat} {has : Bool} {fuse : Int} {dead : Bool} (hg : S g) (hb : ∀ k, S k → k < w.heap.size) (hsz : w.heap.size ≤ w'.heap.size)
    (hr : Row w' g tR (rtC v room has fuse dead)) (ho : Own w' w.heap.size tU8 v l) : ∃ S', RtIn w' S' g ⟨l, room, has, fuse, dead⟩ ∧ ∀ k, S' k → S k ∨ w.heap.size ≤ k := by
  refine ⟨fun k => (S k ∨ w.heap.size ≤ k) ∧ k < w'.heap.size, ⟨v, hr, (OwnS.of ho).imp fun b hlt h => ⟨⟨.inr h.1, hlt⟩, ?_⟩, ⟨.inl hg, ?_⟩, fun k hk => hk.2⟩, fun k hk => hk.1⟩
  · have := hb g hg; have := h.1; omega
  · have := hb g hg; omega
theorem take_snoc (b : List UInt8) (i : Nat) (h : i < b.length) : b.take (i + 1) = b.take i ++ [b.getD i 0] := by
  rw [List.take_add_one]; simp [List.getElem?_eq_getElem h]
theorem rput_dead {s : Rt} {b : List UInt8} (h : s.dead = true) : rput s b = (s, 9) := if_pos h
theorem rput_full {s : Rt} {b : List UInt8} (h : ¬ s.dead = true) (h2 : s.room < s.k.length + b.length) : rput s b = (s, 8) := by unfold rput; rw [if_neg h, if_pos h2]
theorem rput_tear {s : Rt} {b : List UInt8} (h : ¬ s.dead = true) (h2 : ¬ s.room < s.k.length + b.length) (h3 : s.has = true) (h4 : s.fuse < (b.length : Int)) : rput s b = (⟨s.k ++ b.take s.fuse.toNat, s.room, false, 0, true⟩, 9) := by
  unfold rput; rw [if_neg h, if_neg h2, if_pos ⟨h3, h4⟩]
theorem rput_has {s : Rt} {b : List UInt8} (h : ¬ s.dead = true) (h2 : ¬ s.room < s.k.length + b.length) (h3 : s.has = true) (h4 : ¬ s.fuse < (b.length : Int)) : rput s b = (⟨s.k ++ b, s.room, true, s.fuse - (b.length : Int), false⟩, 0) := by
  unfold rput; rw [if_neg h, if_neg h2, if_neg (fun x => h4 x.2), if_pos h3, h3]
theorem rput_not {s : Rt} {b : List UInt8} (h : ¬ s.dead = true) (h2 : ¬ s.room < s.k.length + b.length) (h3 : s.has = false) : rput s b = (⟨s.k ++ b, s.room, false, s.fuse, false⟩, 0) := by
  unfold rput; rw [if_neg h, if_neg h2, if_neg (fun x => by rw [h3] at x; exact Bool.noConfusion x.1), if_neg (by rw [h3]; decide), h3]
set_option maxHeartbeats 2000000 in
set_option maxRecDepth 100000 in
theorem rput_any {w : World} {S : Nat → Prop} {g : Nat} {s : Rt} (h : RtIn w S g s) (hf : s.fit) (bs : List UInt8) (A : Option Addr) (c : Nat) (Pb : Nat → Prop) (hs : Sl w Pb A c bs) (hP : ∀ b, Pb b → ¬ S b) (hbl : bs.length ≤ 1000000) :
    Calls Try.prog 23 #[.pointer (some ⟨g, 0, none⟩), .slice A bs.length c] w fun y w' => RDoes w S g (rput s bs) y w' := by
  have H := hide h
  obtain ⟨v, hr, ho, hg, hb⟩ := h
  obtain ⟨A0, c0, rfl, hs0⟩ := ho.sl
  obtain ⟨f1, f2, f3, f4⟩ := hf
  obtain ⟨N, hN⟩ : ∃ N, N = s.k.length := ⟨_, rfl⟩
  obtain ⟨n, hn⟩ : ∃ n, n = bs.length := ⟨_, rfl⟩
  obtain ⟨M, hM⟩ : ∃ N, N = s.room := ⟨_, rfl⟩
  obtain ⟨F, hF⟩ : ∃ F, F = s.fuse := ⟨_, rfl⟩
  rw [← hN] at hr f1
  rw [← hM] at hr f1 f2
  rw [← hF] at hr f3 f4
  rw [← hn] at hbl ⊢
  have k0 := hr.cell 0
  have k1 := hr.cell 1
  have k2 := hr.cell 2
  have k3 := hr.cell 3
  have k4 := hr.cell 4
  simp only [rtC, List.getElem?_cons_zero, List.getElem?_cons_succ] at k0 k1 k2 k3 k4
  by_cases hd : s.dead = true
  · have HRes := hide (rput_dead (b := bs) hd)
    rw [hd] at k4
    clear hr ho hs0 hs hN hn hM hF k0 k1 k2 k3
    go_enter Try.func23, Try.ntmps23
    go_wp2
    go_ret
    rw [HRes.out]
    exact ⟨rfl, S, H.out, Oth.refl S w, fun k hk => .inl hk⟩
  · have hd' : s.dead = false := by simpa using hd
    rw [hd'] at k4 hr
    have hws : IntKind.i64.wrap ((N : Int) + (n : Int)) = ((N + n : Nat) : Int) := by rw [IntWalk.i64_in _ (by omega)]; omega
    by_cases hfl : s.room < s.k.length + n
    · have HRes := hide (rput_full (b := bs) hd (by rw [← hn]; exact hfl))
      have hfl1 : M < N + n := by omega
      obtain ⟨Z, hZ⟩ : ∃ Z, Z = N + n := ⟨_, rfl⟩
      rw [← hZ] at hws hfl1
      have hfl2 : decide (M < Z) = true := decide_eq_true hfl1
      clear hr ho hs0 hs hN hn hM hF hfl hZ
      go_enter Try.func23, Try.ntmps23
      go_wp2
      go_quiet (fail)
      go_wp2
      go_ret
      rw [HRes.out]
      exact ⟨rfl, S, H.out, (Oth.refl S w).drewN nq, fun k hk => .inl hk⟩
    · have hfl0 : ¬ s.room < s.k.length + bs.length := by rw [← hn]; exact hfl
      have HT1 := hide (rput_tear (b := bs) hd hfl0)
      have HT2 := hide (rput_has (b := bs) hd hfl0)
      have HT3 := hide (rput_not (b := bs) hd hfl0)
      have hfl1 : ¬ M < N + n := by omega
      obtain ⟨Z, hZ⟩ : ∃ Z, Z = N + n := ⟨_, rfl⟩
      rw [← hZ] at hws hfl1
      have hfl2 : decide (M < Z) = false := decide_eq_false hfl1
      have HR := hide hr
      have HS := hide hs.bound
      have HSo := hide hs.bound
      have HO := hide ho
      have Hg := hide hg
      have Hb := hide hb
      have Hs0 := hide hs0
      have HN := hide hN
      have Hn := hide hn
      have HM := hide hM
      have HF := hide hF
      have HP := hide hP
      clear hr ho hs0 hs hg hb hZ hN hn hM hF hfl hP hfl0 hd hd'
      generalize hhas : s.has = has at *
      have Hhas := hide hhas
      clear hhas
      go_enter Try.func23, Try.ntmps23
      go_wp2
      go_quiet (fail)
      obtain ⟨w1, hw⟩ : ∃ z, z = w.drewN nq := ⟨_, rfl⟩
      have HR1 := hide (show Row w1 g tR (rtC (.slice A0 N c0) M has F false) by rw [hw]; exact HR.out)
      have HS1 := hide (show Sl w1 (fun b => Pb b ∧ b < w.heap.size) A c bs by rw [hw]; exact HS.out)
      have Hs1 := hide (show Sl w1 (fun b => S b ∧ b ≠ g) A0 c0 s.k by rw [hw]; exact Hs0.out)
      have Hsz := hide (show w1.heap.size = w.heap.size by rw [hw]; rfl)
      have HO1 := hide (show Oth S w w1 by rw [hw]; exact (Oth.refl S w).drewN nq)
      have HOl := hide (show Below w.heap.size w w1 by rw [hw]; exact below_drewN (Below.refl _ w) nq)
      have j0 : w1.cell? ⟨g, 0, none⟩ = some (.slice A0 N c0) := HR1.out.cell 0
      rw [← hw]
      clear hw k0 k1 k2 k3 k4 HR HS Hs0 hws hfl1 hfl2
      go_wp2_with (at_builtin; go_loud (refine wpList_cat rfl (.tmp 24) (.tmp 28) 30 rfl Try.underlying30 info8 w1.heap.size w1 (.slice none 0 0) [] s.k _ A0 c0 rfl (by rw [← HN.out]; rfl) (Own.nil _ _ _) Hs1.out (by have := HN.out; simp; omega) (Below.refl _ _) (Nat.le_refl _) ?_; intro v' w2 hown hb2 _; have HOw := hide hown; have HB2 := hide hb2; clear hown hb2))
      have HOwB := hide (show Own w2 w.heap.size tU8 v' s.k from by have := HOw.out; rw [List.nil_append, Hsz.out] at this; exact this)
      have HRB := hide (HR1.out.below HB2.out HR1.out.lt)
      have HOB := hide (show Oth (fun b => b = g) w w2 from ((Oth.of_below (fun b => b = g) (show Below w.heap.size w w1 from HOl.out)).trans (Oth.of_below (fun b => b = g) HB2.out) fun _ _ h => h))
      have Hlt := hide (Hb.out g Hg.out)
      have HPg := hide (show ∀ b, Pb b → b ≠ g from fun b h e => HP.out b h (by rw [e]; exact Hg.out))
      have HS1w := hide (show Sl w (fun b => Pb b ∧ b < w.heap.size) A c bs from HSo.out)
      have hF0 : 0 ≤ F := f3
      clear HOw HR1 HS1 Hs1 HB2 HO1 j0 Hsz H HO
      cases has with
      | true =>
        go_loopw [5, 6] (fun l i wr => ∃ (k : Nat) (vl : Value), vl = l ∧ k ≤ n ∧ i = .int .i64 k ∧ Own wr w.heap.size tU8 vl (s.k ++ bs.take k) ∧ (k : Int) ≤ F ∧ Row wr g tR (rtC (.slice A0 N c0) M true (F - (k : Int)) false) ∧ Oth (fun b => b = g) w wr) (fun _ i _ => n - (intOf i).toNat)
        case atStart => exact ⟨0, v', rfl, Nat.zero_le _, rfl, by simpa using HOwB.out, by simpa using hF0, by simpa using HRB.out, HOB.out⟩
        case round =>
          obtain ⟨k, vl, rfl, hk, rfl, how, hkF, hrw, hoth⟩ := hrel
          have HOw := hide how
          have HRw := hide hrw
          have HOt := hide hoth
          have k0 := hrw.cell 0
          have k2 := hrw.cell 2
          have k3 := hrw.cell 3
          have k4 := hrw.cell 4
          have f0 := hrw.free 0
          have f2 := hrw.free 2
          have f3 := hrw.free 3
          have f4 := hrw.free 4
          simp only [rtC, List.getElem?_cons_zero, List.getElem?_cons_succ] at k0 k2 k3 k4
          have Hsz := hide (show w.heap.size ≤ wr.heap.size from hoth.size)
          have HSw := hide (HS1w.out.move (w' := wr) fun b hb _ => hoth.block b hb.2 fun e => HPg.out b hb.1 e)
          clear how hrw hoth
          by_cases hlt : k < n
          · by_cases hz : F = (k : Int)
            · have hz1 : ((F - (k : Int)) == 0) = true := by rw [beq_iff_eq]; omega
              have hz2 : F - (k : Int) = 0 := by omega
              obtain ⟨Al, nl, cl, rfl⟩ : ∃ A n c, vl = .slice A n c := by obtain ⟨A, c, e, _⟩ := HOw.out.sl; exact ⟨A, _, c, e⟩
              have HE := hide (((HRw.out.put 4 (.bool true)).put 2 (.bool false)).put 0 (.slice Al nl cl))
              have c1 := ((HRw.out.put 4 (.bool true)).cell 2)
              have c2 := (((HRw.out.put 4 (.bool true)).put 2 (.bool false)).cell 0)
              have g1 := ((HRw.out.put 4 (.bool true)).free 2)
              have g2 := (((HRw.out.put 4 (.bool true)).put 2 (.bool false)).free 0)
              simp only [rtC, List.set_cons_succ, List.set_cons_zero, List.getElem?_cons_zero, List.getElem?_cons_succ] at c1 c2
              have HOe := hide (show Own (((wr.setCell ⟨g, 4, none⟩ (.bool true)).setCell ⟨g, 2, none⟩ (.bool false)).setCell ⟨g, 0, none⟩ (.slice Al nl cl)) w.heap.size tU8 (.slice Al nl cl) (s.k ++ bs.take k) from ownsRow_setCell_below (ownsRow_setCell_below (ownsRow_setCell_below HOw.out (a := ⟨g, 4, none⟩) Hlt.out _) (a := ⟨g, 2, none⟩) Hlt.out _) (a := ⟨g, 0, none⟩) Hlt.out _)
              have HOx := hide ((((HOt.out.mono (T := S) fun b _ e => by rw [e]; exact Hg.out).put (g := g) (i := 4) (.inl Hg.out) (.bool true)).put (g := g) (i := 2) (.inl Hg.out) (.bool false)).put (g := g) (i := 0) (.inl Hg.out) (.slice Al nl cl))
              have Hz := hide hz2
              have Hz0 := hide hz
              clear HOw HRw HOt hz hz2
              go_wp2
              go_ret
              rw [HT1.out trivial (by have := HF.out; have := Hz0.out; have := Hn.out; omega)]
              have he := HE.out
              rw [Hz.out] at he
              obtain ⟨S', q1, q2⟩ := rt_new Hg.out Hb.out HOx.out.size (show Row _ g tR (rtC (.slice Al nl cl) M false 0 true) from he) HOe.out
              rw [HM.out] at q1
              rw [show s.fuse.toNat = k by have := HF.out; have := Hz0.out; omega]
              exact ⟨rfl, S', q1, HOx.out, q2⟩
            · have hz1 : ((F - (k : Int)) == 0) = false := by rw [beq_eq_false_iff_ne]; omega
              have hw1 : IntKind.i64.wrap (F - (k : Int) - 1) = F - ((k + 1 : Nat) : Int) := by rw [IntWalk.i64_in _ (by omega)]; omega
              have hkF2 : ((k + 1 : Nat) : Int) ≤ F := by omega
              have HkF2 := hide hkF2
              obtain ⟨G, hG⟩ : ∃ G, G = F - ((k + 1 : Nat) : Int) := ⟨_, rfl⟩
              rw [← hG] at hw1
              obtain ⟨G0, hG0⟩ : ∃ G, G = F - (k : Int) := ⟨_, rfl⟩
              rw [← hG0] at hw1 hz1 k3 HRw
              have HGe := hide hG
              have Htk := hide (show s.k ++ bs.take (k + 1) = (s.k ++ bs.take k) ++ [bs.getD k 0] by rw [take_snoc bs k (by have := Hn.out; omega), List.append_assoc])
              have Hll := hide (show (s.k ++ bs.take k).length + 1 ≤ 70368744177664 by have := HN.out; have := Hn.out; rw [List.length_append, List.length_take]; omega)
              have HRp := hide (HRw.out.put 3 (.int .i64 G))
              have HOwp := hide (show Own (wr.setCell ⟨g, 3, none⟩ (.int .i64 G)) w.heap.size tU8 vl (s.k ++ bs.take k) from ownsRow_setCell_below HOw.out (a := ⟨g, 3, none⟩) Hlt.out _)
              have HOtp := hide (HOt.out.put (g := g) (i := 3) (.inl rfl) (.int .i64 G))
              have Hszp := hide (show w.heap.size ≤ (wr.setCell ⟨g, 3, none⟩ (.int .i64 G)).heap.size from HOtp.out.size)
              simp only [rtC, List.set_cons_succ, List.set_cons_zero] at HRp
              clear hz hkF hkF2 hG hG0
              obtain ⟨Ab, ob, rfl, hpb, hcb⟩ := HSw.out.2 (by have := Hn.out; omega)
              have cb : (wr.setCell ⟨g, 3, none⟩ (.int .i64 G)).cell? ⟨Ab, ob + k, none⟩ = some (.int .u8 ((bs.getD k 0).toNat : Int)) := (World.cell?_of_block (a := ⟨Ab, ob + k, none⟩) (Below.heap_setCell wr ⟨g, 3, none⟩ _ Ab fun e => HPg.out Ab hpb.1 e)).trans (hcb k (by have := Hn.out; omega))
              have hkc : k < c := Nat.lt_of_lt_of_le hlt (by rw [Hn.out]; exact HSw.out.1)
              clear hcb
              clear HRw HOw HOt
              go_wp2_with (at_builtin; go_loud (refine wpList_push rfl (.tmp 69) (.tmp 74) 30 rfl Try.underlying30 info8 w.heap.size (wr.setCell ⟨g, 3, none⟩ (.int .i64 G)) _ (s.k ++ bs.take k) [bs.getD k 0] 1 1 rfl (by rw [show (wr.setCell ⟨g, 3, none⟩ (.int .i64 G)).heap.size = wr.heap.size from by simp [World.setCell]]; rfl) HOwp.out rfl rfl Hll.out (Below.refl _ _) Hszp.out ?_; intro v' w3 hown hb3 hgr; have HOw3 := hide hown; have HG3 := hide hgr; clear hown hb3 hgr))
              have HRow3 := hide (HRp.out.grown HG3.out (fun e => by have := (World.ownsRow.lt HOwp.out g e.symm).1; have := Hlt.out; omega))
              refine ⟨⟨k + 1, _, rfl, by omega, by go_num, by rw [Htk.out]; exact HOw3.out, HkF2.out, by rw [← HGe.out]; exact HRow3.out, HOtp.out.trans (Oth.of_grown (S := fun b => w.heap.size ≤ b) HG3.out fun g e => (World.ownsRow.lt HOwp.out g e).1) fun i hi h => by omega⟩, by simp [intOf]; omega⟩
          · obtain rfl : k = n := by omega
            obtain ⟨Al, nl, cl, rfl⟩ : ∃ A n c, vl = .slice A n c := by obtain ⟨A, c, e, _⟩ := HOw.out.sl; exact ⟨A, _, c, e⟩
            have HE := hide (HRw.out.put 0 (.slice Al nl cl))
            have HOe := hide (show Own (wr.setCell ⟨g, 0, none⟩ (.slice Al nl cl)) w.heap.size tU8 (.slice Al nl cl) (s.k ++ bs.take k) from ownsRow_setCell_below HOw.out (a := ⟨g, 0, none⟩) Hlt.out _)
            have HOx := hide ((HOt.out.mono (T := S) fun b _ e => by rw [e]; exact Hg.out).put (g := g) (i := 0) (.inl Hg.out) (.slice Al nl cl))
            have HkF := hide hkF
            clear HOw HRw HOt hkF
            go_wp2
            go_ret
            rw [HT2.out trivial (by have := HF.out; have := HkF.out; have := Hn.out; omega)]
            obtain ⟨S', q1, q2⟩ := rt_new Hg.out Hb.out HOx.out.size HE.out HOe.out
            rw [show bs.take k = bs by rw [Hn.out, List.take_length]] at q1
            rw [HF.out, Hn.out, HM.out] at q1
            exact ⟨rfl, S', q1, HOx.out, q2⟩
      | false =>
        go_loopw [5, 6] (fun l i wr => ∃ (k : Nat) (vl : Value), vl = l ∧ k ≤ n ∧ i = .int .i64 k ∧ Own wr w.heap.size tU8 vl (s.k ++ bs.take k) ∧ Row wr g tR (rtC (.slice A0 N c0) M false F false) ∧ Oth (fun b => b = g) w wr) (fun _ i _ => n - (intOf i).toNat)
        case atStart => exact ⟨0, v', rfl, Nat.zero_le _, rfl, by simpa using HOwB.out, HRB.out, HOB.out⟩
        case round =>
          obtain ⟨k, vl, rfl, hk, rfl, how, hrw, hoth⟩ := hrel
          have HOw := hide how
          have HRw := hide hrw
          have HOt := hide hoth
          have k0 := hrw.cell 0
          have k2 := hrw.cell 2
          have k3 := hrw.cell 3
          have k4 := hrw.cell 4
          have f0 := hrw.free 0
          have f2 := hrw.free 2
          have f3 := hrw.free 3
          have f4 := hrw.free 4
          simp only [rtC, List.getElem?_cons_zero, List.getElem?_cons_succ] at k0 k2 k3 k4
          have Hsz := hide (show w.heap.size ≤ wr.heap.size from hoth.size)
          have HSw := hide (HS1w.out.move (w' := wr) fun b hb _ => hoth.block b hb.2 fun e => HPg.out b hb.1 e)
          clear how hrw hoth
          by_cases hlt : k < n
          · have Htk := hide (show s.k ++ bs.take (k + 1) = (s.k ++ bs.take k) ++ [bs.getD k 0] by rw [take_snoc bs k (by have := Hn.out; omega), List.append_assoc])
            have Hll := hide (show (s.k ++ bs.take k).length + 1 ≤ 70368744177664 by have := HN.out; have := Hn.out; rw [List.length_append, List.length_take]; omega)
            obtain ⟨Ab, ob, rfl, hpb, hcb⟩ := HSw.out.2 (by have := Hn.out; omega)
            have cb : wr.cell? ⟨Ab, ob + k, none⟩ = some (.int .u8 ((bs.getD k 0).toNat : Int)) := hcb k (by have := Hn.out; omega)
            have hkc : k < c := Nat.lt_of_lt_of_le hlt (by rw [Hn.out]; exact HSw.out.1)
            clear hcb
            go_wp2_with (at_builtin; go_loud (refine wpList_push rfl (.tmp 69) (.tmp 74) 30 rfl Try.underlying30 info8 w.heap.size wr _ (s.k ++ bs.take k) [bs.getD k 0] 1 1 rfl rfl HOw.out rfl rfl Hll.out (Below.refl _ _) Hsz.out ?_; intro v' w3 hown hb3 hgr; have HOw3 := hide hown; have HG3 := hide hgr; clear hown hb3 hgr))
            refine ⟨⟨k + 1, _, rfl, by omega, by go_num, by rw [Htk.out]; exact HOw3.out, HRw.out.grown HG3.out (fun e => ?_), HOt.out.trans (Oth.of_grown (S := fun b => w.heap.size ≤ b) HG3.out fun g e => (World.ownsRow.lt HOw.out g e).1) fun i hi h => by omega⟩, by simp [intOf]; omega⟩
            have := (World.ownsRow.lt HOw.out g e.symm).1
            have := Hlt.out
            omega
          · obtain rfl : k = n := by omega
            obtain ⟨Al, nl, cl, rfl⟩ : ∃ A n c, vl = .slice A n c := by obtain ⟨A, c, e, _⟩ := HOw.out.sl; exact ⟨A, _, c, e⟩
            have HE := hide (HRw.out.put 0 (.slice Al nl cl))
            have HOe := hide (show Own (wr.setCell ⟨g, 0, none⟩ (.slice Al nl cl)) w.heap.size tU8 (.slice Al nl cl) (s.k ++ bs.take k) from ownsRow_setCell_below HOw.out (a := ⟨g, 0, none⟩) Hlt.out _)
            have HOx := hide ((HOt.out.mono (T := S) fun b _ e => by rw [e]; exact Hg.out).put (g := g) (i := 0) (.inl Hg.out) (.slice Al nl cl))
            clear HOw HRw HOt
            go_wp2
            go_ret
            rw [HT3.out trivial]
            obtain ⟨S', q1, q2⟩ := rt_new Hg.out Hb.out HOx.out.size HE.out HOe.out
            rw [show bs.take k = bs by rw [Hn.out, List.take_length], HF.out, HM.out] at q1
            exact ⟨rfl, S', q1, HOx.out, q2⟩
end Go.Proofs.Ytahcokfoifdlmaa.Dk
