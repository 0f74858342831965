/-
  apply: Right, work in memory, fail, take, keep.
-/
import Derived.Test.YtfmmececocilhaaPA
import Derived.Test.YtfmmececocilhaaHO
import Derived.Test.YtfmmececocilhaaRegB
import Derived.Defers
import Derived.Recover
import Derived.WalkLawsBesides
import Derived.Test.YtfmmececocilhaaEF
namespace Go.Proofs.Ytfmmececocilhaa.Ap
open Go Go.RowKit Kt Lw Li Df Hu

/-- a hunk's numbers are small -/
def Sm (h : Hk) : Prop := (-1073741824 ≤ h.a ∧ h.a ≤ 1073741824) ∧ (-1073741824 ≤ h.an ∧ h.an ≤ 1073741824) ∧ (-1073741824 ≤ h.b ∧ h.b ≤ 1073741824) ∧ (-1073741824 ≤ h.bn ∧ h.bn ≤ 1073741824) ∧ h.lines.length ≤ 100000
theorem drop_cons {L : List Hk} {k : Nat} {h : Hk} (hk : L[k]? = some h) : L.drop k = h :: L.drop (k + 1) := by
  obtain ⟨hlt, he⟩ := List.getElem?_eq_some_iff.1 hk
  rw [List.drop_eq_getElem_cons hlt, he]
theorem okL_no {e m : Int} {h : Hk} {t : List Hk} (hn : ¬ (hright h = true ∧ h.b - h.a = m ∧ e ≤ h.a)) : okL e m (h :: t) = false := by
  cases ho : okL e m (h :: t) with
  | false => rfl
  | true => exact absurd (okL_cons.1 ho).1 hn
theorem okL_yes {e m : Int} {h : Hk} {t : List Hk} (hn : hright h = true ∧ h.b - h.a = m ∧ e ≤ h.a) : okL e m (h :: t) = okL (h.a + h.an) (m + (h.bn - h.an)) t := by
  rw [Bool.eq_iff_iff, okL_cons]
  exact ⟨fun h => h.2, fun h => ⟨hn, h⟩⟩
set_option maxRecDepth 100000 in
set_option maxHeartbeats 4000000 in
theorem aright_any (L : List Hk) (A : Option Addr) (c : Nat) (w : World) (hs : Hks w A c L) (hn : L.length ≤ 1000) (hb : ∀ h ∈ L, Sm h) :
    Calls Try.prog 15 #[.slice A L.length c] w fun y w' => y = .returned (.bool (okL 0 0 L)) ∧ Below w.heap.size w w' := by
  have Hs := hide hs
  have Hsm := hide hb
  obtain ⟨N, hN⟩ : ∃ N, N = L.length := ⟨_, rfl⟩
  rw [← hN] at hn ⊢
  have HN := hide hN
  clear hs hN hb
  go_enter Try.func15, Try.ntmps15
  go_wp2
  go_loopw [3, 8] (fun o i wr => ∃ (k : Nat) (e m : Int), k ≤ N ∧ i = .int .i64 k ∧ o = .int .i64 m ∧ (-4294967296 * (k : Int) ≤ m ∧ m ≤ 4294967296 * (k : Int)) ∧ Hid (okL 0 0 L = okL e m (L.drop k)) ∧ Hid (k = 0 ∧ e = 0 ∨ ∃ p, 0 < k ∧ L[k - 1]? = some p ∧ e = p.a + p.an) ∧ Below w.heap.size w wr) (fun _ i _ => N - (intOf i).toNat)
  case atStart => exact ⟨0, 0, 0, Nat.zero_le _, rfl, rfl, by omega, hide rfl, hide (.inl ⟨rfl, rfl⟩), Below.refl _ _⟩
  case round =>
    obtain ⟨k, e, m, hk, rfl, rfl, hm, HO, HE, hb⟩ := hrel
    have Hb := hide hb
    clear hb
    by_cases hlt : k < N
    · obtain ⟨b, o, h, A', c', rfl, hke, ⟨c0, c1, c2, c3, c4⟩, hv⟩ := Hs.out.at Hb.out (k := k) (by have := HN.out; omega)
      have hsm := Hsm.out h (List.mem_of_getElem? hke)
      have Hd := hide (show okL 0 0 L = okL e m (h :: L.drop (k + 1)) by rw [HO.out, drop_cons hke])
      have Hke := hide hke
      have HR := hide (fun w' (hb : Below w.heap.size w w') => hright_any h.a h.an h.b h.bn h.lines A' c' _ w' (Lw.Vs.below hv hb) (by have := hsm.2.2.2.2; omega))
      have hte : hright ⟨h.a, h.an, h.b, h.bn, h.lines⟩ = hright h := rfl
      rw [hte] at HR
      have Hno := hide (fun hn => okL_no (t := L.drop (k + 1)) (e := e) (m := m) (h := h) hn)
      have Hyes := hide (fun hn => okL_yes (t := L.drop (k + 1)) (e := e) (m := m) (h := h) hn)
      have Hrf := hide (fun hr : hright h = true => (right_facts hr).2.2.1)
      unfold Sm at hsm
      generalize hright h = R at *
      obtain ⟨za, hza⟩ : ∃ z, z = h.a := ⟨_, rfl⟩
      obtain ⟨zan, hzan⟩ : ∃ z, z = h.an := ⟨_, rfl⟩
      obtain ⟨zb, hzb⟩ : ∃ z, z = h.b := ⟨_, rfl⟩
      obtain ⟨zbn, hzbn⟩ : ∃ z, z = h.bn := ⟨_, rfl⟩
      obtain ⟨nh, hnh⟩ : ∃ z, z = h.lines.length := ⟨_, rfl⟩
      rw [← hza] at c0 HR hsm Hno Hyes Hrf
      rw [← hzan] at c1 HR hsm Hyes
      rw [← hzb] at c2 HR hsm Hno Hyes
      rw [← hzbn] at c3 HR hsm Hyes
      rw [← hnh] at c4 HR hsm
      obtain ⟨⟨s1, s2⟩, ⟨s3, s4⟩, ⟨s5, s6⟩, ⟨s7, s8⟩, s9⟩ := hsm
      have HH := hide (show za = h.a ∧ zan = h.an from ⟨hza, hzan⟩)
      clear hte hke hv hza hzan hzb hzbn hnh HO
      go_wp2_with fail
      obtain ⟨w1, hw1⟩ : ∃ w1, w1 = wr.alloc (.cells #[.int .i64 za, .int .i64 zan, .int .i64 zb, .int .i64 zbn, .slice A' nh c'] tH) := ⟨_, rfl⟩
      obtain ⟨g, hg⟩ : ∃ g, g = wr.heap.size := ⟨_, rfl⟩
      have hb1 : Below w.heap.size w w1 := by rw [hw1]; exact Hb.out.alloc Hb.out.size _
      have hrow : Row w1 g tH [.int .i64 za, .int .i64 zan, .int .i64 zb, .int .i64 zbn, .slice A' nh c'] := by rw [hw1, hg]; exact Row.fresh wr tH _
      rw [← hw1, ← hg]
      have Hb1 := hide hb1
      have Hrow := hide hrow
      clear c0 c1 c2 c3 c4 hw1 hb1 hrow hg
      refine (HR.out w1 Hb1.out).mono ?_
      rintro y w2 ⟨rfl, hb2⟩
      have Hb2 := hide (Hb1.out.trans (hb2.mono Hb1.out.size))
      have hrow := Hrow.out.below hb2 Hrow.out.lt
      have c0 := hrow.cell 0
      have c1 := hrow.cell 1
      have c2 := hrow.cell 2
      have c3 := hrow.cell 3
      simp only [List.getElem?_cons_zero, List.getElem?_cons_succ] at c0 c1 c2 c3
      clear hrow Hrow Hb1 HR hb2 Hb
      cases R with
      | false =>
        have HF := hide (show okL 0 0 L = false by rw [Hd.out]; exact Hno.out fun h => by cases h.1)
        go_wp2
        go_ret
        exact ⟨by rw [HF.out]; rfl, Hb2.out⟩
      | true =>
      have hr0 := Hrf.out rfl
      clear Hrf
      by_cases hm2 : zb - za = m
      · have e1 : (zb - za == m) = true := by rw [beq_iff_eq]; exact hm2
        have e2 : (zb - za != m) = false := by rw [bne_eq_false_iff_eq]; exact hm2
        rcases Nat.eq_zero_or_pos k with hk0 | hk0
        · subst hk0
          have he : e ≤ za := by
            rcases HE.out with ⟨_, h⟩ | ⟨p, h, _⟩
            · omega
            · exact absurd h (Nat.lt_irrefl _)
          have HO' := hide (show okL 0 0 L = okL (za + zan) (m + (zbn - zan)) (L.drop (0 + 1)) by rw [Hd.out, Hyes.out ⟨rfl, hm2, he⟩])
          have HE' := hide (show (0 + 1 = 0 ∧ za + zan = 0 ∨ ∃ p, 0 < 0 + 1 ∧ L[0 + 1 - 1]? = some p ∧ za + zan = p.a + p.an) from .inr ⟨h, by omega, Hke.out, by rw [HH.out.1, HH.out.2]⟩)
          clear he hm2
          go_wp2_with fail
          go_quiet (fail)
          go_wp2
          exact ⟨⟨0 + 1, za + zan, m + (zbn - zan), by omega, by go_num, rfl, by omega, HO', HE', below_drewN Hb2.out _⟩, by simp [intOf]; omega⟩
        · obtain ⟨p, hp, he⟩ : ∃ p, L[k - 1]? = some p ∧ e = p.a + p.an := by
            rcases HE.out with ⟨h, _⟩ | ⟨p, _, h1, h2⟩
            · omega
            · exact ⟨p, h1, h2⟩
          obtain ⟨b', o', p', A2, c2', hA, hke', ⟨d0, d1, _, _, _⟩, _⟩ := Hs.out.at Hb2.out (k := k - 1) (by have := HN.out; omega)
          injection hA with hA
          injection hA with hA1 hA2
          subst hA1 hA2
          rw [hp] at hke'
          injection hke' with hpe
          subst hpe
          have hsp := Hsm.out p (List.mem_of_getElem? hp)
          unfold Sm at hsp
          obtain ⟨pa, hpa⟩ : ∃ z, z = p.a := ⟨_, rfl⟩
          obtain ⟨pan, hpan⟩ : ∃ z, z = p.an := ⟨_, rfl⟩
          rw [← hpa] at d0 hsp he
          rw [← hpan] at d1 hsp he
          obtain ⟨⟨t1, t2⟩, ⟨t3, t4⟩, -⟩ := hsp
          obtain ⟨q, hq⟩ : ∃ q, q = k - 1 := ⟨_, rfl⟩
          have hwq : IntKind.i64.wrap ((k : Int) - 1) = (q : Int) := by rw [IntWalk.i64_in _ (by omega)]; omega
          rw [← hq] at d0 d1
          have hkpos : decide ((0 : Int) < (k : Int)) = true := decide_eq_true (by omega)
          have hqN : q < N := by omega
          have He := hide he
          clear hp hpa hpan he hq
          by_cases hl : za - pan < pa
          · have d5 : decide (za - pan < pa) = true := decide_eq_true hl
            have HF := hide (show okL 0 0 L = false by rw [Hd.out]; exact Hno.out fun h => by have := h.2.2; have := He.out; omega)
            go_wp2_with fail
            go_quiet (fail)
            go_wp2
            go_ret
            exact ⟨by rw [HF.out]; rfl, below_drewN Hb2.out _⟩
          · have d5 : decide (za - pan < pa) = false := decide_eq_false hl
            have he : e ≤ za := by have := He.out; omega
            have HO' := hide (show okL 0 0 L = okL (za + zan) (m + (zbn - zan)) (L.drop (k + 1)) by rw [Hd.out, Hyes.out ⟨rfl, hm2, he⟩])
            have HE' := hide (show (k + 1 = 0 ∧ za + zan = 0 ∨ ∃ p, 0 < k + 1 ∧ L[k + 1 - 1]? = some p ∧ za + zan = p.a + p.an) from .inr ⟨h, by omega, Hke.out, by rw [HH.out.1, HH.out.2]⟩)
            clear he hm2 hl
            go_wp2_with fail
            go_quiet (fail)
            go_wp2
            exact ⟨⟨k + 1, za + zan, m + (zbn - zan), by omega, by go_num, rfl, by omega, HO', HE', below_drewN Hb2.out _⟩, by simp [intOf]; omega⟩
      · have e1 : (zb - za == m) = false := by rw [beq_eq_false_iff_ne]; exact hm2
        have e2 : (zb - za != m) = true := by rw [bne_iff_ne]; exact hm2
        have HF := hide (show okL 0 0 L = false by rw [Hd.out]; exact Hno.out fun h => hm2 h.2.1)
        clear hm2
        go_wp2
        go_ret
        exact ⟨by rw [HF.out]; rfl, Hb2.out⟩
    · obtain rfl : k = N := by omega
      have HF := hide (show okL 0 0 L = true by rw [HO.out, HN.out, List.drop_length]; rfl)
      go_wp2
      go_ret
      exact ⟨by rw [HF.out]; rfl, Hb.out⟩
end Go.Proofs.Ytfmmececocilhaa.Ap
namespace Go.Proofs.Ytfmmececocilhaa.Ap
open Go Go.RowKit Kt Lw Li Df Hu

abbrev tW : TypeId := 45
/-- the panic that tells what is wrong -/
def pn (e : Int) : List PanicEntry := [{ v := .iface 26 (.int .i64 e), recovered := false }]
set_option maxRecDepth 100000 in
set_option maxHeartbeats 1000000 in
theorem fail_any (g : Nat) (x0 x1 x2 : Value) (e0 e : Int) (w : World) (h : Row w g tW [x0, x1, x2, .int .i64 e0]) :
    Calls Try.prog 35 #[.pointer (some ⟨g, 0, none⟩), .int .i64 e] w fun y w' => y = .panicked (pn e) ∧ w' = w.setCell ⟨g, 3, none⟩ (.int .i64 e) := by
  have c3 := h.cell 3
  have f3 := h.free 3
  simp only [List.getElem?_cons_zero, List.getElem?_cons_succ] at c3
  clear h
  go_enter Try.func35, Try.ntmps35
  go_wp2
  exact ⟨rfl, rfl, rfl⟩
/-- work in block g: lines a of others, from z on not gone through; out: what came of those ahead -/
structure WkM (w : World) (B g : Nat) (A : Option Addr) (c : Nat) (a : Ls) (z : Nat) (out : Ls) : Prop where
  ex : ∃ v, Row w g tW [.slice A a.length c, .int .i64 (z : Int), v, .int .i64 0] ∧ OwT w B tS v out
  old : Vs w (fun b => b < B) A c (texts a)
  at_g : B ≤ g
  base : B ≤ w.heap.size
def FailM (w : World) (g : Nat) (e : Int) : Prop := ∃ x0 x1 x2, Row w g tW [x0, x1, x2, .int .i64 e]
theorem WkM.keep {w w' : World} {B g : Nat} {A : Option Addr} {c : Nat} {a : Ls} {z : Nat} {out : Ls} (h : WkM w B g A c a z out) (hb : Below w.heap.size w w') : WkM w' B g A c a z out := by
  obtain ⟨v, h1, h2⟩ := h.ex
  exact ⟨⟨v, h1.below hb h1.lt, h2.kept hb⟩, Lw.Vs.below h.old hb, h.at_g, Nat.le_trans h.base hb.size⟩
theorem row_put {w : World} {g : Nat} {x0 x1 x2 x3 : Value} (h : Row w g tW [x0, x1, x2, x3]) (u : Value) : Row (w.setCell ⟨g, 3, none⟩ u) g tW [x0, x1, x2, u] := h.put 3 u
theorem txt_ne (x y : List UInt8) : (x != y) = decide (x ≠ y) := by
  rw [Bool.eq_iff_iff, bne_iff_ne, decide_eq_true_iff]
theorem tW_ne : tW ≠ tS := by decide
/-- blocks below B stand, and rows that are neither work nor texts -/
structure Mv (B : Nat) (w w' : World) : Prop where
  below : Below B w w'
  far : ∀ (q : Nat) (ty : TypeId) (cs : List Value), Row w q ty cs → ty ≠ tW → ty ≠ tS → Row w' q ty cs
theorem Mv.refl (B : Nat) (w : World) : Mv B w w := ⟨Below.refl B w, fun _ _ _ h _ _ => h⟩
theorem Mv.trans {B : Nat} {a b c : World} (h : Mv B a b) (k : Mv B b c) : Mv B a c := ⟨h.below.trans k.below, fun q ty cs hr h1 h2 => k.far q ty cs (h.far q ty cs hr h1 h2) h1 h2⟩
theorem Mv.keep {B : Nat} {w w' : World} (hb : Below w.heap.size w w') (hB : B ≤ w.heap.size) : Mv B w w' := ⟨hb.mono hB, fun _ _ _ h _ _ => h.below hb h.lt⟩
theorem Mv.put {B g : Nat} {w : World} {cs : List Value} (h : Row w g tW cs) (hg : B ≤ g) (i : Nat) (u : Value) : Mv B w (w.setCell ⟨g, i, none⟩ u) :=
  ⟨below_put (Below.refl B w) hg u, fun q ty ds hr h1 _ => hr.off (fun e => h1 (by subst e; exact (hr.uniq h).1)) u⟩
theorem Mv.grown {B : Nat} {w w' : World} {v : Value} {l : Ls} (hv : OwT w B tS v l) (hb : Below B w w') (hg : w.grownBy w' v.ownBlock) : Mv B w w' :=
  ⟨hb, fun q _ty _ds hr _ h2 => hr.grown hg (fun e => row_ne hr h2 hv q e.symm rfl)⟩
/-- where the work stands is another line -/
theorem WkM.put1 {w : World} {B g : Nat} {A : Option Addr} {c : Nat} {a : Ls} {z : Nat} {out : Ls} (h : WkM w B g A c a z out) (z' : Nat) : WkM (w.setCell ⟨g, 1, none⟩ (.int .i64 (z' : Int))) B g A c a z' out ∧ Mv B w (w.setCell ⟨g, 1, none⟩ (.int .i64 (z' : Int))) := by
  obtain ⟨v, h1, h2⟩ := h.ex
  have hb := Mv.put h1 h.at_g 1 (.int .i64 (z' : Int))
  refine ⟨⟨⟨v, h1.put 1 _, owt_off h2 (row_ne h1 tW_ne h2) _⟩, Lw.Vs.move h.old fun b hb' _ => hb.below.block b hb', h.at_g, ?_⟩, hb⟩
  rw [World.size_setCell]; exact h.base
theorem WkM.drewN {w : World} {B g : Nat} {A : Option Addr} {c : Nat} {a : Ls} {z : Nat} {out : Ls} (h : WkM w B g A c a z out) (n : Nat) : WkM (w.drewN n) B g A c a z out := h.keep (below_drewN (Below.refl _ w) n)
/-- what is wrong is kept -/
theorem WkM.fail {w : World} {B g : Nat} {A : Option Addr} {c : Nat} {a : Ls} {z : Nat} {out : Ls} (h : WkM w B g A c a z out) (e : Int) : FailM (w.setCell ⟨g, 3, none⟩ (.int .i64 e)) g e ∧ Mv B w (w.setCell ⟨g, 3, none⟩ (.int .i64 e)) := by
  obtain ⟨v, h1, h2⟩ := h.ex
  exact ⟨⟨_, _, _, h1.put 3 _⟩, Mv.put h1 h.at_g 3 _⟩
/-- what came is more -/
theorem WkM.pushed {w w2 : World} {B g : Nat} {A : Option Addr} {c : Nat} {a : Ls} {z : Nat} {out out2 : Ls} {v v2 : Value} (h : WkM w B g A c a z out) (hrow : Row w g tW [.slice A a.length c, .int .i64 (z : Int), v, .int .i64 0]) (hv : OwT w B tS v out)
    (hown : OwT w2 B tS v2 out2) (hb : Below B w w2) (hg : w.grownBy w2 v.ownBlock) : WkM (w2.setCell ⟨g, 2, none⟩ v2) B g A c a z out2 ∧ Mv B w (w2.setCell ⟨g, 2, none⟩ v2) := by
  have hrow2 := hrow.grown hg (fun e => row_ne hrow tW_ne hv g e.symm rfl)
  have hrow3 := hrow2.put 2 v2
  simp only [List.set_cons_zero, List.set_cons_succ] at hrow3
  have hb3 : Mv B w (w2.setCell ⟨g, 2, none⟩ v2) := (Mv.grown hv hb hg).trans (Mv.put hrow2 h.at_g 2 _)
  exact ⟨⟨⟨_, hrow3, owt_off hown (row_ne hrow2 tW_ne hown) _⟩, Lw.Vs.move h.old fun b hb' _ => hb3.below.block b hb', h.at_g, Nat.le_trans h.base hb3.below.size⟩, hb3⟩
set_option maxRecDepth 100000 in
set_option maxHeartbeats 1000000 in
theorem take_yes (B g : Nat) (A : Option Addr) (c : Nat) (a : Ls) (z : Nat) (out : Ls) (x : List UInt8) (w : World) (h : WkM w B g A c a z out) (hx : a[z]? = some x) (hn : a.length ≤ 1000000) :
    Calls Try.prog 52 #[.pointer (some ⟨g, 0, none⟩), .string ⟨x.toArray⟩] w fun y w' => y = .returned (.tuple #[]) ∧ WkM w' B g A c a (z + 1) out ∧ Mv B w w' := by
  obtain ⟨v, hrow, hv⟩ := h.ex
  have hlt : z < a.length := (List.getElem?_eq_some_iff.1 hx).1
  obtain ⟨b, o, rfl, ck⟩ := (Lw.Vs.bound h.old).text (Below.refl _ w) (k := z) hlt
  have hxe : a.getD z [] = x := by rw [List.getD_eq_getElem?_getD, hx]; rfl
  rw [hxe] at ck
  have Hh := hide h
  have c0 := hrow.cell 0
  have c1 := hrow.cell 1
  have f1 := hrow.free 1
  simp only [List.getElem?_cons_zero, List.getElem?_cons_succ] at c0 c1
  obtain ⟨N, hN⟩ : ∃ N, N = a.length := ⟨_, rfl⟩
  rw [← hN] at c0 hlt hn
  have e1 : ((z : Int) == (N : Int)) = false := by rw [beq_eq_false_iff_ne]; omega
  have e2 : (x != x) = false := by rw [txt_ne]; simp
  clear h hrow hv hx hxe hN
  go_enter Try.func52, Try.ntmps52
  go_wp2
  go_quiet (fail)
  go_wp2
  refine bodyPost_end (results_none rfl _ _ _) rfl ?_
  have h1 := (Hh.out.drewN nq).put1 (z + 1)
  exact ⟨rfl, h1.1, (Mv.keep (below_drewN (Below.refl _ w) nq) Hh.out.base).trans h1.2⟩
set_option maxRecDepth 100000 in
set_option maxHeartbeats 1000000 in
theorem take_no (B g : Nat) (A : Option Addr) (c : Nat) (a : Ls) (z : Nat) (out : Ls) (x : List UInt8) (w : World) (h : WkM w B g A c a z out) (hx : a[z]? ≠ some x) (hz : z ≤ a.length) (hn : a.length ≤ 1000000) :
    Calls Try.prog 52 #[.pointer (some ⟨g, 0, none⟩), .string ⟨x.toArray⟩] w fun y w' => y = .panicked (pn 6) ∧ FailM w' g 6 ∧ Mv B w w' := by
  obtain ⟨v, hrow, hv⟩ := h.ex
  have Hh := hide h
  have c0 := hrow.cell 0
  have c1 := hrow.cell 1
  simp only [List.getElem?_cons_zero, List.getElem?_cons_succ] at c0 c1
  have HF := hide (fun n => fail_any g _ _ _ 0 6 (w.drewN n) (hrow.drewN n))
  have Ha := hide (fun hlt : z < a.length => (Lw.Vs.bound h.old).text (Below.refl _ w) (k := z) hlt)
  have Hxe := hide (fun hlt : z < a.length => (show a.getD z [] ≠ x from fun e => hx (by rw [← e, List.getD_eq_getElem?_getD, List.getElem?_eq_getElem hlt]; rfl)))
  obtain ⟨N, hN⟩ : ∃ N, N = a.length := ⟨_, rfl⟩
  rw [← hN] at c0 hz hn Ha Hxe
  clear h hrow hv hx hN
  rcases Nat.lt_or_ge z N with hlt | hge
  · obtain ⟨b, o, rfl, ck⟩ := Ha.out hlt
    have hxe := Hxe.out hlt
    obtain ⟨u, hu⟩ : ∃ u, u = a.getD z [] := ⟨_, rfl⟩
    rw [← hu] at ck hxe
    have e1 : ((z : Int) == (N : Int)) = false := by rw [beq_eq_false_iff_ne]; omega
    have e2 : (u != x) = true := by rw [txt_ne, decide_eq_true_iff]; exact hxe
    have e3 : (u == x) = false := by rw [beq_eq_false_iff_ne]; exact hxe
    have e4 : ¬ u = x := hxe
    clear hu hxe Ha Hxe
    go_enter Try.func52, Try.ntmps52
    go_wp2
    go_quiet (fail)
    go_wp2_with fail
    refine (HF.out nq).mono ?_
    rintro y w1 ⟨rfl, rfl⟩
    have h1 := (Hh.out.drewN nq).fail 6
    have h2 := (Mv.keep (below_drewN (Below.refl _ w) nq) Hh.out.base).trans h1.2
    go_wp2
    exact ⟨rfl, rfl, h1.1, h2⟩
  · obtain rfl : z = N := by omega
    have e1 : ((z : Int) == (z : Int)) = true := beq_self_eq_true _
    clear Ha Hxe
    go_enter Try.func52, Try.ntmps52
    go_wp2
    go_quiet (fail)
    go_wp2_with fail
    refine (HF.out nq).mono ?_
    rintro y w1 ⟨rfl, rfl⟩
    have h1 := (Hh.out.drewN nq).fail 6
    have h2 := (Mv.keep (below_drewN (Below.refl _ w) nq) Hh.out.base).trans h1.2
    go_wp2
    exact ⟨rfl, rfl, h1.1, h2⟩
end Go.Proofs.Ytfmmececocilhaa.Ap
namespace Go.Proofs.Ytfmmececocilhaa.Ap
open Go Go.RowKit Kt Lw Li Df Hu

set_option maxRecDepth 100000 in
set_option maxHeartbeats 2000000 in
theorem keep_no (B g : Nat) (A : Option Addr) (c : Nat) (a : Ls) (z : Nat) (out : Ls) (t : Int) (w : World) (h : WkM w B g A c a z out) (ht : (a.length : Int) < t) (_hn : a.length ≤ 1000000) :
    Calls Try.prog 37 #[.pointer (some ⟨g, 0, none⟩), .int .i64 t] w fun y w' => y = .panicked (pn 6) ∧ FailM w' g 6 ∧ Mv B w w' := by
  obtain ⟨v, hrow, hv⟩ := h.ex
  have Hh := hide h
  have c0 := hrow.cell 0
  simp only [List.getElem?_cons_zero] at c0
  have HF := hide (fail_any g _ _ _ 0 6 w hrow)
  obtain ⟨N, hN⟩ : ∃ N, N = a.length := ⟨_, rfl⟩
  rw [← hN] at c0 ht
  have e1 : decide ((N : Int) < t) = true := decide_eq_true ht
  clear h hrow hv hN
  go_enter Try.func37, Try.ntmps37
  go_wp2_with fail
  refine HF.out.mono ?_
  rintro y w1 ⟨rfl, rfl⟩
  have h1 := Hh.out.fail 6
  go_wp2
  exact ⟨rfl, rfl, h1.1, h1.2⟩
set_option maxRecDepth 100000 in
set_option maxHeartbeats 4000000 in
theorem keep_yes (B g : Nat) (A : Option Addr) (c : Nat) (a : Ls) (z t : Nat) (out : Ls) (w : World) (h : WkM w B g A c a z out) (hz : z ≤ t) (ht : t ≤ a.length) (hn : a.length ≤ 1000000) (ho : out.length ≤ 1000000000) :
    Calls Try.prog 37 #[.pointer (some ⟨g, 0, none⟩), .int .i64 (t : Int)] w fun y w' => y = .returned (.tuple #[]) ∧ WkM w' B g A c a t (out ++ (a.drop z).take (t - z)) ∧ Mv B w w' := by
  obtain ⟨v, hrow, hv⟩ := h.ex
  have Hh := hide h
  obtain ⟨N, hN⟩ : ∃ N, N = a.length := ⟨_, rfl⟩
  rw [← hN] at hrow
  have Hrow := hide hrow
  have c0 := hrow.cell 0
  have c1 := hrow.cell 1
  have c2 := hrow.cell 2
  have f2 := hrow.free 2
  simp only [List.getElem?_cons_zero, List.getElem?_cons_succ] at c0 c1 c2
  have Hcut := hide (vs_cut h.old hz ht)
  have HXl := hide (show ((a.drop z).take (t - z)).length = t - z by rw [List.length_take, List.length_drop]; omega)
  generalize (a.drop z).take (t - z) = X at *
  have hcap : a.length ≤ c := by have := h.old.1; rwa [texts_len] at this
  obtain ⟨Av, nv, cv, rfl⟩ := owt_form hv
  have Hv := hide hv
  rw [← hN] at hn ht hcap
  have HN := hide hN
  have e1 : decide ((N : Int) < (t : Int)) = false := decide_eq_false (by omega)
  have htc : t ≤ c := by omega
  clear h hrow hv hN
  go_enter Try.func37, Try.ntmps37
  go_wp2
  refine Rg.wp_region_ord (fun w' => w'.cell? ⟨g, 0, none⟩ = some (.slice A N c) ∧ w'.cell? ⟨g, 1, none⟩ = some (.int .i64 (z : Int)) ∧ w'.cell? ⟨g, 2, none⟩ = some (.slice Av nv cv)) [(0, true), (1, true), (2, true), (3, true), (4, true), (5, true), (6, true), (7, true), (8, true), (9, true), (10, true), (11, true), (12, true), (13, true), (14, true), (15, false), (16, true), (17, true), (18, false)] (by kernel_rfl) (by kernel_rfl) ?_
  simp only [Rg.pick, List.map_cons, List.map_nil, List.getD_cons_zero, List.getD_cons_succ]
  iterate 15 (refine Rg.ord_quiet (v := ?_) rfl (fun w' hS => ?_) ⟨c0, c1, c2⟩ ?_; rotate_left; (obtain ⟨s0, s1, s2⟩ := hS; go_simp; with_reducible rfl); simp only [Act.put, List.setIfInBounds_toArray, List.set_cons_succ, List.set_cons_zero])
  refine Rg.ord_loud rfl (fun K hK => ?_)
  have Hgv := hide (show some g ≠ (Value.slice Av nv cv).ownBlock from fun e => row_ne Hrow.out tW_ne Hv.out g e.symm rfl)
  refine wp_catT (.tmp 17) (.tmp 27) 22 rfl Try.underlying22 infoText B w (.slice Av nv cv) out X _ _ _ rfl (by rw [HXl.out]; rfl) (Hv.out.drew) (Lw.Vs.below Hcut.out (Below.refl _ w).drew) (by rw [HXl.out]; omega) (Below.refl _ w).drew Hh.out.base ?_
  intro v2 w2 hown2 hb2 hg2
  obtain ⟨A3, n3, c3, rfl⟩ := owt_form hown2
  have hrow2 := Hrow.out.drew.grown hg2 Hgv.out
  have Hrow2 := hide hrow2
  have Hown2 := hide hown2
  have Hb2 := hide ((Mv.keep (Below.refl _ w).drew Hh.out.base).trans (Mv.grown Hv.out.drew (show Below B w.drew w2 from ⟨hb2.os, hb2.tape, hb2.output, hb2.size, hb2.block⟩) hg2))
  clear hown2 hb2 hg2 c0 c1 c2
  have c0 := hrow2.cell 0
  have c1 := hrow2.cell 1
  have c2 := hrow2.cell 2
  have f2 := hrow2.free 2
  simp only [List.getElem?_cons_zero, List.getElem?_cons_succ] at c0 c1 c2
  refine hK _ _ (fun _ => ⟨c0, c1, c2⟩) ?_
  clear hK K hrow2
  simp only [Act.put, List.setIfInBounds_toArray, List.set_cons_succ, List.set_cons_zero]
  iterate 2 (refine Rg.ord_quiet (v := ?_) rfl (fun w' hS => ?_) ⟨c0, c1, c2⟩ ?_; rotate_left; (obtain ⟨s0, s1, s2⟩ := hS; go_simp; with_reducible rfl); simp only [Act.put, List.setIfInBounds_toArray, List.set_cons_succ, List.set_cons_zero])
  refine Rg.ord_loud rfl (fun K hK => ?_)
  go_simp
  refine hK _ _ (fun hf => absurd (show Rg.sink _ 18 = true from by kernel_rfl) (by rw [hf]; decide)) ?_
  clear hK K
  refine Rg.ord_nil ?_
  have hrow3 := Hrow2.out.put 2 (.slice A3 n3 c3)
  simp only [List.set_cons_zero, List.set_cons_succ] at hrow3
  have hb3 : Mv B w (w2.setCell ⟨g, 2, none⟩ (.slice A3 n3 c3)) := Hb2.out.trans (Mv.put Hrow2.out Hh.out.at_g 2 _)
  have h3 : WkM (w2.setCell ⟨g, 2, none⟩ (.slice A3 n3 c3)) B g A c a z (out ++ X) :=
    ⟨⟨_, by rw [← HN.out]; exact hrow3, owt_off Hown2.out (row_ne Hrow2.out tW_ne Hown2.out) _⟩, Lw.Vs.move Hh.out.old fun b hb' _ => hb3.below.block b hb', Hh.out.at_g, Nat.le_trans Hh.out.base hb3.below.size⟩
  have H4 := hide (h3.put1 t)
  have Hb3 := hide hb3
  clear c0 c1 c2 f2 h3 hb3
  have c1 := hrow3.cell 1
  have f1 := hrow3.free 1
  simp only [List.getElem?_cons_zero, List.getElem?_cons_succ] at c1
  clear hrow3
  obtain ⟨w3, hw3⟩ : ∃ w3, w3 = w2.setCell ⟨g, 2, none⟩ (.slice A3 n3 c3) := ⟨_, rfl⟩
  rw [← hw3] at c1 f1 H4 Hb3 ⊢
  clear hw3 Hcut
  generalize (if c = z then A else Option.map (fun x => x.add z) A) = A2
  go_wp2
  refine bodyPost_end (results_none rfl _ _ _) rfl ?_
  exact ⟨rfl, H4.out.1, Hb3.out.trans H4.out.2⟩
end Go.Proofs.Ytfmmececocilhaa.Ap
