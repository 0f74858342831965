/-
  Two sides' trees, together: blend.Trees.
-/
import Derived.Test.YtahcokfoifdlmaaGreatDoorOE
namespace Go.Proofs.YtahcokfoifdlmaaGreatDoor.Tr
open Go Go.RowKit Go.Shelf Kt Lw Li Lx Df Al
attribute [local go_sem] Oper.semAt_some

theorem row_low {W : World} {base base' : Nat} {e : TypeId} {size : Nat} {v : Value} {k : Nat} {xs : List Value} (h : W.ownsRow base e size v k xs) (hb : base' ≤ base) : W.ownsRow base' e size v k xs :=
  ⟨h.1, h.2.imp id fun ⟨g, cap, cur, hv', h1, h2⟩ => ⟨g, cap, cur, hv', Nat.le_trans hb h1, h2⟩⟩
theorem row_ne {W : World} {b b' : Nat} {e e' : TypeId} {sz sz' : Nat} {v u : Value} {k k' : Nat} {xs xs' : List Value} (h : W.ownsRow b e sz v k xs) (h' : W.ownsRow b' e' sz' u k' xs') (hee : e ≠ e') : u.ownBlock = none ∨ u.ownBlock ≠ v.ownBlock := by
  rcases h'.2 with ⟨rfl, _⟩ | ⟨g', cap', cur', rfl, _, hg', _⟩
  · exact .inl rfl
  · right
    rcases h.2 with ⟨rfl, _⟩ | ⟨g, cap, cur, rfl, _, hg, _⟩
    · simp [Value.ownBlock]
    · simp only [Value.ownBlock, ne_eq, Option.some.injEq]
      intro e0
      subst e0
      rw [hg] at hg'
      simp only [Option.some.injEq, Obj.cells.injEq] at hg'
      exact hee hg'.2.1
/-- one of two boxes' slices has grown -/
theorem grow_step {W w2 : World} {n0 n1 B B' : Nat} {t e t' e' : TypeId} {sz sz' k k' m : Nat} {xs ys xs' : List Value} {v v' u : Value} {tmp : Obj}
    (hv : Boxed W B t v) (hrow : W.ownsRow n1 e sz v k xs) (hu : Boxed W B' t' u) (hru : W.ownsRow n1 e' sz' u k' xs') (hte : t ≠ e) (hte' : t' ≠ e) (hte2 : t ≠ e') (hee : e ≠ e') (hBB : B ≠ B')
    (h0B : n0 ≤ B) (h01 : n0 ≤ n1) (hn1 : n1 ≤ W.heap.size) (hown' : w2.ownsRow n1 e sz v' m ys) (hgrow : (W.alloc tmp).grownBy w2 v.ownBlock) :
    Boxed w2 B t v ∧ Boxed (w2.setCell ⟨B, 0, none⟩ v') B t v' ∧ (w2.setCell ⟨B, 0, none⟩ v').ownsRow n1 e sz v' m ys ∧ Boxed (w2.setCell ⟨B, 0, none⟩ v') B' t' u ∧ (w2.setCell ⟨B, 0, none⟩ v').ownsRow n1 e' sz' u k' xs' ∧
      KeepsOthers W (w2.setCell ⟨B, 0, none⟩ v') ∧ Below n0 W (w2.setCell ⟨B, 0, none⟩ v') ∧ (∀ j, j < n1 → j ≠ B → (w2.setCell ⟨B, 0, none⟩ v').heap[j]? = W.heap[j]?) ∧
      ∀ g t2 cs, Row W g t2 cs → t2 ≠ e → g ≠ B → Row (w2.setCell ⟨B, 0, none⟩ v') g t2 cs := by
  obtain ⟨hv1, hv2, _, hk2, hb2⟩ := hv.appended hte (row_low hrow h01) (Nat.le_trans h01 hn1) h0B (row_low hown' h01) hgrow
  have hu1 : Boxed w2 B' t' u := (hu.alloc tmp).kept hgrow (hu.not_row hte' hrow)
  have hru1 : w2.ownsRow n1 e' sz' u k' xs' := (World.ownsRow.alloc hru tmp).kept hgrow (row_ne hrow hru hee)
  refine ⟨hv1, hv2, hown'.kept (grownBy_setCell' w2 B v') (.inr (hv1.not_row hte hown').symm), hu1.kept (grownBy_setCell' w2 B v') (by simpa using hBB.symm), hru1.kept (grownBy_setCell' w2 B v') (.inr (hv1.not_row hte2 hru1).symm), hk2, hb2, fun j hj hjB => ?_, fun g t2 cs hr ht hgB => ?_⟩
  · have hne : some j ≠ v.ownBlock := fun e0 => by
      have := (World.ownsRow.lt hrow j e0.symm).1
      omega
    rw [Below.heap_setCell w2 ⟨B, 0, none⟩ v' j hjB, hgrow.block j (by simp; omega) hne, Below.heap_alloc W tmp j (by omega)]
  · have hne : some g ≠ v.ownBlock := fun e0 => by
      rcases hrow.2 with ⟨rfl, _⟩ | ⟨g', cap, cur, rfl, _, hg', _⟩
      · simp [Value.ownBlock] at e0
      · simp only [Value.ownBlock, Option.some.injEq] at e0
        subst e0
        unfold Row at hr
        rw [hg'] at hr
        simp only [Option.some.injEq, Obj.cells.injEq] at hr
        exact ht hr.2.1.symm
    exact ((hr.alloc tmp).grown hgrow hne).off hgB _
theorem rowF_snoc {w : World} {b : Nat} {v : Value} {L : List Fl} {p x : Bs} (h : w.ownsRow b tF 2 v (L.length + 1) (L.flatMap flC ++ [.string ⟨p.toArray⟩, .string ⟨x.toArray⟩])) : w.ownsRow b tF 2 v (L ++ [(⟨p, x⟩ : Fl)]).length ((L ++ [(⟨p, x⟩ : Fl)]).flatMap flC) := by
  rw [List.flatMap_append, List.length_append]; exact h
theorem rowT_snoc {w : World} {b : Nat} {v : Value} {l : List Bs} {p : Bs} (h : w.ownsRow b tS 1 v (l.length + 1) (texts l ++ [.string ⟨p.toArray⟩])) : w.ownsRow b tS 1 v (l ++ [p]).length (texts (l ++ [p])) := by
  rw [Li.texts_snoc, List.length_append]; exact h
theorem cell_two_new (w : World) (t : TypeId) (x y : Value) (g : Nat) (hg : g = w.heap.size) : ∀ (j : Nat) (u : Value), [x, y][j]? = some u → (w.alloc (.cells #[x, y] t)).cell? ((Addr.mk g 0 none).add j) = some u := by
  intro j u hj
  subst hg
  rw [Addr.add_mid, (Row.fresh w t #[x, y]).cell]
  simpa using hj
theorem keeps_low {A B : World} (h : Below A.heap.size A B) : KeepsOthers A B := ⟨h.size, fun k _ hk _ => (h.block k (Array.getElem?_eq_some_iff.1 hk).1).trans hk⟩
theorem box_low {A B : World} {b : Nat} {t : TypeId} {v : Value} (h : Boxed A b t v) (hb : Below A.heap.size A B) : Boxed B b t v := (hb.block b h.lt).trans h
theorem thr_own {n0 n1 p q B : Nat} {w1 : World} {β : Type} (h0 : n0 ≤ B) (h1 : n1 ≤ B) (h2 : n0 ≤ w1.heap.size) (h3 : n1 ≤ w1.heap.size) : OwnFrom B (fun (_ : β) W => Thr n0 n1 p q w1 W) := by
  intro s W W' row hs hg hr
  refine hs.trans ⟨(Below.refl n0 W).grown hg (Nat.le_trans h2 hs.1.size) (fun k e => Nat.le_trans h0 (hr k e).1), fun k hk _ _ => ?_⟩
  have := hs.1.size
  exact hg.block k (by omega) (fun e => by have := (hr k e.symm).1; omega)
abbrev tFsl : TypeId := 22
abbrev tSsl : TypeId := 34
abbrev nTr (o a b : List Fl) (pre : List Bs) : List Fl := (outs (one mgT o a b) pre).take 1000
abbrev nCl (o a b : List Fl) (pre : List Bs) : List Bs := odds (one mgT o a b) pre
/-- what holds between two rounds -/
def Iv (n0 s : Nat) (w1 : World) (o a b : List Fl) (pre : List Bs) (W : World) : Prop :=
  (∃ v, Boxed W (s + 3) tFsl v ∧ W.ownsRow (s + 7) tF 2 v (nTr o a b pre).length ((nTr o a b pre).flatMap flC) ∧ True) ∧ (∃ u, Boxed W (s + 4) tSsl u ∧ W.ownsRow (s + 7) tS 1 u (nCl o a b pre).length (texts (nCl o a b pre)) ∧ True) ∧ Thr n0 (s + 7) (s + 3) (s + 4) w1 W
theorem Iv.mk {n0 s : Nat} {w1 : World} {o a b : List Fl} {pre : List Bs} {W : World} {v u : Value} (h1 : Boxed W (s + 3) tFsl v) (h2 : W.ownsRow (s + 7) tF 2 v (nTr o a b pre).length ((nTr o a b pre).flatMap flC))
    (h3 : Boxed W (s + 4) tSsl u) (h4 : W.ownsRow (s + 7) tS 1 u (nCl o a b pre).length (texts (nCl o a b pre))) (h5 : Thr n0 (s + 7) (s + 3) (s + 4) w1 W) : Iv n0 s w1 o a b pre W := ⟨⟨v, h1, h2, trivial⟩, ⟨u, h3, h4, trivial⟩, h5⟩
theorem Iv.own {n0 s B : Nat} {w1 : World} {o a b : List Fl} (h0 : n0 ≤ B) (h1 : s + 7 ≤ B) (h2 : n0 ≤ w1.heap.size) (h3 : s + 7 ≤ w1.heap.size) : OwnFrom B (Iv n0 s w1 o a b) :=
  OwnFrom.and (Own.from (holdsRow_own (s + 7) (s + 3) tFsl tF 2 (fun pre => (nTr o a b pre).length) (fun pre => (nTr o a b pre).flatMap flC) (fun _ _ => True)) _)
    (OwnFrom.and (Own.from (holdsRow_own (s + 7) (s + 4) tSsl tS 1 (fun pre => (nCl o a b pre).length) (fun pre => texts (nCl o a b pre)) (fun _ _ => True)) _) (thr_own h0 h1 h2 h3))
set_option maxRecDepth 100000 in
set_option maxHeartbeats 4000000 in
theorem btrees_any (o a b : List Fl) (Ao Aa Ab : Option Addr) (co ca cb : Nat) (w : World) (ho : Fls w Ao co o) (ha : Fls w Aa ca a) (hb : Fls w Ab cb b)
    (hgo : go none o = true) (hga : go none a = true) (hgb : go none b = true) (no : o.length ≤ 1000000) (na : a.length ≤ 1000000) (nb : b.length ≤ 1000000)
    (hR : ∀ p, ¬ get a p = get b p → ¬ get b p = get o p → ¬ get a p = get o p → (mgT (get o p).1 (get a p).1 (get b p).1).1.length ≤ 1000000000)
    (hM : ∀ p, ¬ get a p = get b p → ¬ get b p = get o p → ¬ get a p = get o p → ∀ wz, Calls Tryz.prog 43 #[.string ⟨(get o p).1.toArray⟩, .string ⟨(get a p).1.toArray⟩, .string ⟨(get b p).1.toArray⟩] wz fun y w' => TextQ wz y w' (mgT (get o p).1 (get a p).1 (get b p).1)) :
    Calls Tryz.prog 10 #[.slice Ao o.length co, .slice Aa a.length ca, .slice Ab b.length cb] w fun y w' =>
      ∃ v u, y = .returned (.tuple #[v, u]) ∧ OwF w' w.heap.size v (trees mgT o a b).1 ∧ OwT w' w.heap.size tS u (trees mgT o a b).2 ∧ Below w.heap.size w w' := by
  have HCo := hide (fun p (wz : World) (h : Below w.heap.size w wz) => bat_any o p Ao co wz (ho.keep h) no hgo)
  have HCa := hide (fun p (wz : World) (h : Below w.heap.size w wz) => bat_any a p Aa ca wz (ha.keep h) na hga)
  have HCb := hide (fun p (wz : World) (h : Below w.heap.size w wz) => bat_any b p Ab cb wz (hb.keep h) nb hgb)
  have HCt := hide (fun p (wz : World) => btog_any (get o p) (get a p) (get b p) wz (hR p) (hM p))
  have hlen := both_len a b
  obtain ⟨i0, hi, hz0, hz1, hz2⟩ := info_parts Li.infoText
  obtain ⟨i1, ki, kz0, kz1, kz2⟩ := info_parts infoFl
  obtain ⟨s, hs⟩ : ∃ s, s = w.heap.size := ⟨_, rfl⟩
  obtain ⟨w1, hw1⟩ : ∃ w1, w1 = ((((((w.alloc (.cells #[.slice Ao o.length co] tFsl)).alloc (.cells #[.slice Aa a.length ca] tFsl)).alloc (.cells #[.slice Ab b.length cb] tFsl)).alloc (.cells #[.slice none 0 0] tFsl)).alloc (.cells #[.slice none 0 0] tSsl)).alloc (.cells #[.slice Aa a.length ca] tFsl)).alloc (.cells #[.slice Ab b.length cb] tFsl) := ⟨_, rfl⟩
  have hs1 : w1.heap.size = s + 7 := by rw [hw1, hs]; simp
  have hb1 : Below w.heap.size w w1 := by
    rw [hw1]
    exact (((((((Below.refl _ _).alloc (Nat.le_refl _) _).alloc (by simp) _).alloc (by simp; omega) _).alloc (by simp; omega) _).alloc (by simp; omega) _).alloc (by simp; omega) _).alloc (by simp; omega) _
  have bx3 : Boxed w1 s tFsl (.slice Ao o.length co) := by rw [hw1, hs]; exact ((((((Boxed.new w _ _).alloc _).alloc _).alloc _).alloc _).alloc _).alloc _
  have bx4 : Boxed w1 (s + 1) tFsl (.slice Aa a.length ca) := by
    have := (((((Boxed.new (w.alloc (.cells #[.slice Ao o.length co] tFsl)) tFsl (.slice Aa a.length ca)).alloc (.cells #[.slice Ab b.length cb] tFsl)).alloc (.cells #[.slice none 0 0] tFsl)).alloc (.cells #[.slice none 0 0] tSsl)).alloc (.cells #[.slice Aa a.length ca] tFsl)).alloc (.cells #[.slice Ab b.length cb] tFsl)
    rw [World.size_alloc] at this
    rw [hw1, hs]; exact this
  have bx5 : Boxed w1 (s + 2) tFsl (.slice Ab b.length cb) := by
    have := ((((Boxed.new ((w.alloc (.cells #[.slice Ao o.length co] tFsl)).alloc (.cells #[.slice Aa a.length ca] tFsl)) tFsl (.slice Ab b.length cb)).alloc (.cells #[.slice none 0 0] tFsl)).alloc (.cells #[.slice none 0 0] tSsl)).alloc (.cells #[.slice Aa a.length ca] tFsl)).alloc (.cells #[.slice Ab b.length cb] tFsl)
    rw [World.size_alloc, World.size_alloc] at this
    rw [hw1, hs]; exact this
  have bxo : Boxed w1 (s + 3) tFsl (.slice none 0 0) := by
    have := (((Boxed.new (((w.alloc (.cells #[.slice Ao o.length co] tFsl)).alloc (.cells #[.slice Aa a.length ca] tFsl)).alloc (.cells #[.slice Ab b.length cb] tFsl)) tFsl (.slice none 0 0)).alloc (.cells #[.slice none 0 0] tSsl)).alloc (.cells #[.slice Aa a.length ca] tFsl)).alloc (.cells #[.slice Ab b.length cb] tFsl)
    rw [World.size_alloc, World.size_alloc, World.size_alloc] at this
    rw [hw1, hs]; exact this
  have bxc : Boxed w1 (s + 4) tSsl (.slice none 0 0) := by
    have := ((Boxed.new ((((w.alloc (.cells #[.slice Ao o.length co] tFsl)).alloc (.cells #[.slice Aa a.length ca] tFsl)).alloc (.cells #[.slice Ab b.length cb] tFsl)).alloc (.cells #[.slice none 0 0] tFsl)) tSsl (.slice none 0 0)).alloc (.cells #[.slice Aa a.length ca] tFsl)).alloc (.cells #[.slice Ab b.length cb] tFsl)
    rw [World.size_alloc, World.size_alloc, World.size_alloc, World.size_alloc] at this
    rw [hw1, hs]; exact this
  have bx1 : Boxed w1 (s + 5) tFsl (.slice Aa a.length ca) := by
    have := (Boxed.new (((((w.alloc (.cells #[.slice Ao o.length co] tFsl)).alloc (.cells #[.slice Aa a.length ca] tFsl)).alloc (.cells #[.slice Ab b.length cb] tFsl)).alloc (.cells #[.slice none 0 0] tFsl)).alloc (.cells #[.slice none 0 0] tSsl)) tFsl (.slice Aa a.length ca)).alloc (.cells #[.slice Ab b.length cb] tFsl)
    rw [World.size_alloc, World.size_alloc, World.size_alloc, World.size_alloc, World.size_alloc] at this
    rw [hw1, hs]; exact this
  have bx2 : Boxed w1 (s + 6) tFsl (.slice Ab b.length cb) := by
    have := Boxed.new ((((((w.alloc (.cells #[.slice Ao o.length co] tFsl)).alloc (.cells #[.slice Aa a.length ca] tFsl)).alloc (.cells #[.slice Ab b.length cb] tFsl)).alloc (.cells #[.slice none 0 0] tFsl)).alloc (.cells #[.slice none 0 0] tSsl)).alloc (.cells #[.slice Aa a.length ca] tFsl)) tFsl (.slice Ab b.length cb)
    rw [World.size_alloc, World.size_alloc, World.size_alloc, World.size_alloc, World.size_alloc, World.size_alloc] at this
    rw [hw1, hs]; exact this
  have hst := paths_stops 8 (by omega) a b Aa Ab ca cb (s + 7) (s + 3) (s + 4) (s + 5) (s + 6) w w1 ha hb hga hgb na nb hb1 (by omega) (by omega) (by omega) (by omega) (by omega) (by omega) (by omega) (by omega) bx1.cell bx2.cell
  obtain ⟨No, hNo⟩ : ∃ N, N = o.length := ⟨_, rfl⟩
  obtain ⟨Na, hNa⟩ : ∃ N, N = a.length := ⟨_, rfl⟩
  obtain ⟨Nb, hNb⟩ : ∃ N, N = b.length := ⟨_, rfl⟩
  rw [← hNo] at hw1 HCo bx3 ⊢
  rw [← hNa] at hw1 HCa bx4 hlen na ⊢
  rw [← hNb] at hw1 HCb bx5 hlen nb ⊢
  have Hst := hide hst
  have HB1 := hide hb1
  have B3 := hide bx3
  have B4 := hide bx4
  have B5 := hide bx5
  have BO := hide bxo
  have BC := hide bxc
  have Hlen := hide (show (both a b).length ≤ 2000000 by omega)
  have W1 := hide hw1
  have S := hide hs
  clear hst hb1 bx3 bx4 bx5 bxo bxc bx1 bx2 hNo hNa hNb hlen ho ha hb hgo hga hgb hR hM no na nb hw1 hs
  refine (callsIn_wide (n := 9)).1 ?_
  refine callsIn_of_wp_marks Tryz.func10 rfl trivial ?_ rfl
  simp only [Tryz.ntmps10, List.size_toArray, List.length_cons, List.length_nil, Nat.reduceAdd, Nat.reduceSub, Array.replicate_succ, Array.replicate_zero, List.push_toArray, List.append_toArray, List.nil_append, List.cons_append]
  gi_wp2_with (refine ⟨trivial, ?_⟩; gi_at_call 24; refine (callsIn_wide.2 (paths_any _ _ _ _ _ _ _)).mono ?_; rintro e w' ⟨rfl, rfl⟩)
  rw [← W1.out, ← S.out]
  refine wpIn_rangeFunc_ownG rfl (by omega) (gf := 40) (lb := #[.pointer (some ⟨s + 5, 0, none⟩), .pointer (some ⟨s + 6, 0, none⟩)]) rfl trivial (enters_of Tryz.func40 (by kernel_rfl) rfl)
    Hst.out Thr.trans (Thr.put (by have := S.out; omega) (by omega)) (Below.refl _ _) (fun _ => rfl)
    (Iv w.heap.size s w1 o a b)
    (fun _ _ _ => False)
    (Iv.own (by have := S.out; omega) (by omega) (by have := S.out; omega) (by omega))
    (fun _ _ _ _ _ hs _ _ => hs)
    (Iv.mk BO.out (World.ownsRow_nil _ _ _ _) BC.out (World.ownsRow_nil _ _ _ _) (Thr.of (Below.refl w1.heap.size w1) (by have := S.out; omega) (by omega)))
    (fun x => { tmps := List.toArray (.slice Ao No co :: .slice Aa Na ca :: .slice Ab Nb cb :: .pointer (some ⟨s, 0, none⟩) :: .pointer (some ⟨s + 1, 0, none⟩) :: .pointer (some ⟨s + 2, 0, none⟩) :: .slice none 0 0 :: .slice none 0 0 :: .pointer (some ⟨s + 3, 0, none⟩) :: .pointer (some ⟨s + 4, 0, none⟩) :: .string ⟨x.toArray⟩ :: undef :: undef :: .slice Aa Na ca :: .slice Ab Nb cb :: .func (.func 40) #[] #[.pointer (some ⟨s + 5, 0, none⟩), .pointer (some ⟨s + 6, 0, none⟩)] :: .string ⟨x.toArray⟩ :: undef :: undef :: undef :: undef :: undef :: undef :: undef :: undef :: undef :: undef :: undef :: undef :: undef :: undef :: undef :: undef :: undef :: undef :: undef :: undef :: undef :: undef :: undef :: undef :: undef :: undef :: undef :: undef :: undef :: undef :: undef :: undef :: undef :: undef :: []), defers := [] }) ?assign ?body ?done ?stop
  case assign =>
    intro l x W K hK
    gi_wp2
    exact hK
  case body =>
    rintro l pre x W ⟨⟨v, hv, hrow, _⟩, ⟨u, hu, hru, _⟩, hT⟩ hlt
    have hsW : s + 7 ≤ W.heap.size := by have := hT.1.size; omega
    have h0W : w.heap.size ≤ W.heap.size := by have := S.out; omega
    have hBW : Below w.heap.size w W := HB1.out.trans hT.1
    have hto := tog_one mgT o a b x
    have hCT := HCt.out x
    obtain ⟨r, hr⟩ : ∃ r, r = tog mgT (get o x) (get a x) (get b x) := ⟨_, rfl⟩
    rw [← hr] at hto hCT
    obtain ⟨⟨r1, r2⟩, cl⟩ := r
    simp only at hto hCT
    have q1 : (one mgT o a b x).1 = r1 := by rw [hto]
    have q2 : (one mgT o a b x).2.1 = r2 := by rw [hto]
    have q3 : (one mgT o a b x).2.2 = cl := by rw [hto]
    have t1 : r2 = true → (nTr o a b pre).length < 1000 → nTr o a b (pre ++ [x]) = nTr o a b pre ++ [⟨x, r1⟩] := fun h1 h2 => by
      rw [← q1]; exact take_yes (one mgT o a b) x pre (q2.trans h1) h2
    have t2 : ¬ (nTr o a b pre).length < 1000 → nTr o a b (pre ++ [x]) = nTr o a b pre := take_full (one mgT o a b) x pre
    have t3 : r2 = false → nTr o a b (pre ++ [x]) = nTr o a b pre := fun h => take_no (one mgT o a b) x pre (q2.trans h)
    have o1 : cl = true → nCl o a b (pre ++ [x]) = nCl o a b pre ++ [x] := fun h => odds_yes (one mgT o a b) x pre (q3.trans h)
    have o2 : cl = false → nCl o a b (pre ++ [x]) = nCl o a b pre := fun h => odds_no (one mgT o a b) x pre (q3.trans h)
    have T1 := hide t1
    have T2 := hide t2
    have T3 := hide t3
    have O1 := hide o1
    have O2 := hide o2
    have hcl : (nCl o a b pre).length ≤ pre.length := List.length_filter_le _ _
    have htl : (nTr o a b pre).length ≤ 1000 := List.length_take_le _ _
    have hCl := hide hcl
    obtain ⟨Av, cv, rfl, _⟩ := OwF.fls (show OwF W (s + 7) v (nTr o a b pre) from hrow)
    have hcl2 : (nCl o a b pre).length ≤ 2000000 := by have := Hlen.out; omega
    have k3 : W.heap[s]? = w1.heap[s]? := hT.2 s (by omega) (by omega) (by omega)
    have k4 : W.heap[s + 1]? = w1.heap[s + 1]? := hT.2 (s + 1) (by omega) (by omega) (by omega)
    have k5 : W.heap[s + 2]? = w1.heap[s + 2]? := hT.2 (s + 2) (by omega) (by omega) (by omega)
    have e3 := fun (wz : World) (hz : Below W.heap.size W wz) => Boxed.cell (show Boxed wz s tFsl _ from (hz.block s (by omega)).trans (k3.trans B3.out))
    have e4 := fun (wz : World) (hz : Below W.heap.size W wz) => Boxed.cell (show Boxed wz (s + 1) tFsl _ from (hz.block (s + 1) (by omega)).trans (k4.trans B4.out))
    have e5 := fun (wz : World) (hz : Below W.heap.size W wz) => Boxed.cell (show Boxed wz (s + 2) tFsl _ from (hz.block (s + 2) (by omega)).trans (k5.trans B5.out))
    have cO := fun (wz : World) (hz : Below W.heap.size W wz) => HCo.out x wz (hBW.trans (hz.mono h0W))
    have cA := fun (wz : World) (hz : Below W.heap.size W wz) => HCa.out x wz (hBW.trans (hz.mono h0W))
    have cB := fun (wz : World) (hz : Below W.heap.size W wz) => HCb.out x wz (hBW.trans (hz.mono h0W))
    have E3 := hide e3
    have E4 := hide e4
    have E5 := hide e5
    have CO := hide cO
    have CA := hide cA
    have CB := hide cB
    have CT := hide (fun (wz : World) (_ : Below W.heap.size W wz) => hCT wz)
    have HT := hide hT
    have HV := hide hv
    have HU := hide hu
    have HRow := hide hrow
    have HRu := hide hru
    have HsW := hide hsW
    have H0W := hide h0W
    clear hT hv hu hrow hru hsW h0W hBW hto hCT hr q1 q2 q3 t1 t2 t3 o1 o2 hcl k3 k4 k5 e3 e4 e5 cO cA cB hlt hCl
    obtain ⟨Lt, hLt⟩ : ∃ Lt, Lt = (nTr o a b pre).length := ⟨_, rfl⟩
    rw [← hLt] at htl HV HRow
    have HLt := hide hLt
    clear hLt
    generalize hB : Code.region 5 _ _ = B
    gi_wp2
    rename_i KK hKK
    refine round5_any l 7 (by omega) (by rw [← hB]; kernel_rfl) W x s (s + 1) (s + 2) Ao Aa Ab No Na Nb co ca cb (hadV (get o x)) (hadV (get a x)) (hadV (get b x)) r1 r2 cl _ _ _ _ _ _ _ _ _ _ _ _ _ _ _ _ _ _ _ _ _ _ _ _ _ _ _ _ _ _ _ _ E3.out E4.out E5.out CO.out CA.out CB.out CT.out ?_
    intro v' g wz e11 e12 hg hrw hbw
    refine hKK _ _ ?_
    clear hKK KK hB
    rw [e11, e12]
    have hvz := box_low HV.out hbw
    have huz := box_low HU.out hbw
    have hrz : wz.ownsRow (s + 7) tF 2 (.slice Av Lt cv) Lt ((nTr o a b pre).flatMap flC) := by
      have h := HRow.out
      rw [HLt.out] at h ⊢
      exact OwF.keep (show OwF W (s + 7) _ (nTr o a b pre) from h) hbw
    have hruz : wz.ownsRow (s + 7) tS 1 u (nCl o a b pre).length (texts (nCl o a b pre)) := OwT.kept (show OwT W (s + 7) tS u (nCl o a b pre) from HRu.out) hbw
    have hTz : Thr w.heap.size (s + 7) (s + 3) (s + 4) W wz := Thr.of hbw H0W.out HsW.out
    have hKz := keeps_low hbw
    have hsz : s + 7 ≤ wz.heap.size := by have := hbw.size; have := HsW.out; omega
    have hgs : s + 7 ≤ g := by have := HsW.out; omega
    have g0 := hrw.cell 0
    have g1 := hrw.cell 1
    simp only [List.getElem?_cons_zero, List.getElem?_cons_succ] at g0 g1
    have c8 := hvz.cell
    have c9 := huz.cell
    have Hvz := hide hvz
    have Huz := hide huz
    have Hrz := hide hrz
    have Hruz := hide hruz
    have HTz := hide hTz
    have HKz := hide hKz
    have Hrw := hide hrw
    have hSz : s = w.heap.size := S.out
    have hsl : w.heap.size ≤ s + 3 ∧ w.heap.size ≤ s + 4 ∧ w.heap.size ≤ s + 7 := by omega
    have Hsl := hide hsl
    clear hSz hsl e11 e12 hg hrw hbw hvz huz hrz hruz hTz hKz E3 E4 E5 CO CA CB CT HV HU HRow HRu
    cases cl with
    | false =>
      cases r2 with
      | false =>
        gi_wp2
        exact ⟨KeepsOthers.from (HKz.out) _, HTz.out, Iv.mk Hvz.out (by rw [show nTr o a b (pre ++ [x]) = nTr o a b pre from T3.out (by simp), ← HLt.out]; exact Hrz.out) Huz.out (by rw [show nCl o a b (pre ++ [x]) = nCl o a b pre from O2.out (by simp)]; exact Hruz.out) (HT.out.trans (HTz.out))⟩
      | true =>
        by_cases hfull : Lt < 1000
        · have hd : decide ((Lt : Int) < 1000) = true := decide_eq_true (by omega)
          gi_wp2_with (gi_at_builtin; refine wpListIn_append_own _ rfl _ _ 22 rfl (s + 7) 48 i1 (.agg #[.string ⟨#[]⟩, .string ⟨#[]⟩]) 2 32 Tryz.underlying22 ki kz0 kz1 kz2 rfl (by decide) _ _ _ rfl (World.ownsRow.alloc Hrz.out _) ⟨_, 0, none⟩ 1 1 [.string ⟨x.toArray⟩, .string ⟨r1.toArray⟩] rfl rfl (cell_two_new _ _ _ _ _ (by simp)) (by simp [Value.oneCell']) (by unfold maxLen; omega) (by omega) (by rw [World.size_alloc]; exact Nat.le_succ_of_le hsz) ?_; intro v4 w4 hown4 hgrow4 _; obtain ⟨g4, cap4, rfl⟩ := ownsRow_succ hown4; obtain ⟨hp1, hp2, hp3, hp4, hp5, hk4, hb4, hj4, _⟩ := grow_step (n0 := w.heap.size) Hvz.out Hrz.out Huz.out Hruz.out (by decide) (by decide) (by decide) (by decide) (by omega) Hsl.out.1 Hsl.out.2.2 hsz hown4 hgrow4; have cd := hp1.cell; have cg := hp1.frozen)
          exact ⟨KeepsOthers.from ((HKz.out).trans hk4) _, (HTz.out).trans ⟨hb4, fun k hk hp _ => hj4 k hk hp⟩, Iv.mk hp2 (by rw [show nTr o a b (pre ++ [x]) = nTr o a b pre ++ [⟨x, r1⟩] from T1.out (by simp) (by have := HLt.out; omega)]; exact rowF_snoc (by rw [← HLt.out]; exact hp3)) hp4 (by rw [show nCl o a b (pre ++ [x]) = nCl o a b pre from O2.out (by simp)]; exact hp5) (HT.out.trans ((HTz.out).trans ⟨hb4, fun k hk hp _ => hj4 k hk hp⟩))⟩
        · have hd : decide ((Lt : Int) < 1000) = false := decide_eq_false (by omega)
          gi_wp2
          exact ⟨KeepsOthers.from (HKz.out) _, HTz.out, Iv.mk Hvz.out (by rw [show nTr o a b (pre ++ [x]) = nTr o a b pre from T2.out (by have := HLt.out; omega), ← HLt.out]; exact Hrz.out) Huz.out (by rw [show nCl o a b (pre ++ [x]) = nCl o a b pre from O2.out (by simp)]; exact Hruz.out) (HT.out.trans (HTz.out))⟩
    | true =>
      cases r2 with
      | false =>
        gi_wp2_with (gi_at_builtin; refine wpListIn_append_own _ rfl _ _ 34 rfl (s + 7) 9 i0 (.string ⟨#[]⟩) 1 16 Tryz.underlying34 hi hz0 hz1 hz2 rfl (by decide) _ _ _ rfl (World.ownsRow.alloc Hruz.out _) ⟨wz.heap.size, 0, none⟩ 1 1 [.string ⟨x.toArray⟩] rfl rfl (cell_one_new _ _ _) (by simp [Value.oneCell']) (by unfold maxLen; omega) (by omega) (by simp; omega) ?_; intro v2 w2 hown2 hgrow2 _; obtain ⟨g2, cap2, rfl⟩ := ownsRow_succ hown2; obtain ⟨hu1, hu2, hru2, hv2, hrow2, hk2, hb2, hj2, hg2⟩ := grow_step (n0 := w.heap.size) Huz.out Hruz.out Hvz.out Hrz.out (by decide) (by decide) (by decide) (by decide) (by omega) Hsl.out.2.1 Hsl.out.2.2 hsz hown2 hgrow2; have cc := hu1.cell; have cf := hu1.frozen; have y0 := (hg2 g tHad _ Hrw.out (by decide) (by omega)).cell 0; have y1 := (hg2 g tHad _ Hrw.out (by decide) (by omega)).cell 1; have y8 := hv2.cell)
        exact ⟨KeepsOthers.from ((HKz.out).trans hk2) _, (HTz.out).trans ⟨hb2, fun k hk _ hq => hj2 k hk hq⟩, Iv.mk hv2 (by rw [show nTr o a b (pre ++ [x]) = nTr o a b pre from T3.out (by simp), ← HLt.out]; exact hrow2) hu2 (by rw [show nCl o a b (pre ++ [x]) = nCl o a b pre ++ [x] from O1.out (by simp)]; exact rowT_snoc hru2) (HT.out.trans ((HTz.out).trans ⟨hb2, fun k hk _ hq => hj2 k hk hq⟩))⟩
      | true =>
        by_cases hfull : Lt < 1000
        · have hd : decide ((Lt : Int) < 1000) = true := decide_eq_true (by omega)
          gi_wp2_with (first | (gi_at_builtin; refine wpListIn_append_own _ rfl _ _ 34 rfl (s + 7) 9 i0 (.string ⟨#[]⟩) 1 16 Tryz.underlying34 hi hz0 hz1 hz2 rfl (by decide) _ _ _ rfl (World.ownsRow.alloc Hruz.out _) ⟨wz.heap.size, 0, none⟩ 1 1 [.string ⟨x.toArray⟩] rfl rfl (cell_one_new _ _ _) (by simp [Value.oneCell']) (by unfold maxLen; omega) (by omega) (by simp; omega) ?_; intro v2 w2 hown2 hgrow2 _; obtain ⟨g2, cap2, rfl⟩ := ownsRow_succ hown2; obtain ⟨hu1, hu2, hru2, hv2, hrow2, hk2, hb2, hj2, hg2⟩ := grow_step (n0 := w.heap.size) Huz.out Hruz.out Hvz.out Hrz.out (by decide) (by decide) (by decide) (by decide) (by omega) Hsl.out.2.1 Hsl.out.2.2 hsz hown2 hgrow2; have cc := hu1.cell; have cf := hu1.frozen; have y0 := (hg2 g tHad _ Hrw.out (by decide) (by omega)).cell 0; have y1 := (hg2 g tHad _ Hrw.out (by decide) (by omega)).cell 1; have y8 := hv2.cell) | (gi_at_builtin; refine wpListIn_append_own _ rfl _ _ 22 rfl (s + 7) 48 i1 (.agg #[.string ⟨#[]⟩, .string ⟨#[]⟩]) 2 32 Tryz.underlying22 ki kz0 kz1 kz2 rfl (by decide) _ _ _ rfl (World.ownsRow.alloc hrow2 _) ⟨_, 0, none⟩ 1 1 [.string ⟨x.toArray⟩, .string ⟨r1.toArray⟩] rfl rfl (cell_two_new _ _ _ _ _ (by simp)) (by simp [Value.oneCell']) (by unfold maxLen; omega) (by omega) (by rw [World.size_alloc]; exact Nat.le_succ_of_le (Nat.le_trans hsz hk2.size)) ?_; intro v4 w4 hown4 hgrow4 _; obtain ⟨g4, cap4, rfl⟩ := ownsRow_succ hown4; obtain ⟨hp1, hp2, hp3, hp4, hp5, hk4, hb4, hj4, _⟩ := grow_step (n0 := w.heap.size) hv2 hrow2 hu2 hru2 (by decide) (by decide) (by decide) (by decide) (by omega) Hsl.out.1 Hsl.out.2.2 (Nat.le_trans hsz hk2.size) hown4 hgrow4; have cd := hp1.cell; have cg := hp1.frozen))
          exact ⟨KeepsOthers.from (((HKz.out).trans hk2).trans hk4) _, ((HTz.out).trans ⟨hb2, fun k hk _ hq => hj2 k hk hq⟩).trans ⟨hb4, fun k hk hp _ => hj4 k hk hp⟩, Iv.mk hp2 (by rw [show nTr o a b (pre ++ [x]) = nTr o a b pre ++ [⟨x, r1⟩] from T1.out (by simp) (by have := HLt.out; omega)]; exact rowF_snoc (by rw [← HLt.out]; exact hp3)) hp4 (by rw [show nCl o a b (pre ++ [x]) = nCl o a b pre ++ [x] from O1.out (by simp)]; exact rowT_snoc hp5) (HT.out.trans (((HTz.out).trans ⟨hb2, fun k hk _ hq => hj2 k hk hq⟩).trans ⟨hb4, fun k hk hp _ => hj4 k hk hp⟩))⟩
        · have hd : decide ((Lt : Int) < 1000) = false := decide_eq_false (by omega)
          gi_wp2_with (gi_at_builtin; refine wpListIn_append_own _ rfl _ _ 34 rfl (s + 7) 9 i0 (.string ⟨#[]⟩) 1 16 Tryz.underlying34 hi hz0 hz1 hz2 rfl (by decide) _ _ _ rfl (World.ownsRow.alloc Hruz.out _) ⟨wz.heap.size, 0, none⟩ 1 1 [.string ⟨x.toArray⟩] rfl rfl (cell_one_new _ _ _) (by simp [Value.oneCell']) (by unfold maxLen; omega) (by omega) (by simp; omega) ?_; intro v2 w2 hown2 hgrow2 _; obtain ⟨g2, cap2, rfl⟩ := ownsRow_succ hown2; obtain ⟨hu1, hu2, hru2, hv2, hrow2, hk2, hb2, hj2, hg2⟩ := grow_step (n0 := w.heap.size) Huz.out Hruz.out Hvz.out Hrz.out (by decide) (by decide) (by decide) (by decide) (by omega) Hsl.out.2.1 Hsl.out.2.2 hsz hown2 hgrow2; have cc := hu1.cell; have cf := hu1.frozen; have y0 := (hg2 g tHad _ Hrw.out (by decide) (by omega)).cell 0; have y1 := (hg2 g tHad _ Hrw.out (by decide) (by omega)).cell 1; have y8 := hv2.cell)
          exact ⟨KeepsOthers.from ((HKz.out).trans hk2) _, (HTz.out).trans ⟨hb2, fun k hk _ hq => hj2 k hk hq⟩, Iv.mk hv2 (by rw [show nTr o a b (pre ++ [x]) = nTr o a b pre from T2.out (by have := HLt.out; omega), ← HLt.out]; exact hrow2) hu2 (by rw [show nCl o a b (pre ++ [x]) = nCl o a b pre ++ [x] from O1.out (by simp)]; exact rowT_snoc hru2) (HT.out.trans ((HTz.out).trans ⟨hb2, fun k hk _ hq => hj2 k hk hq⟩))⟩
  case done =>
    rintro D ys W hD rfl ⟨⟨v, hv, hrow, _⟩, ⟨u, hu, hru, _⟩, hT⟩ hK
    have c8 := hv.cell
    have c9 := hu.cell
    have Hv := hide hrow
    have Hu := hide hru
    have HT := hide hT
    have Hhv := hide hv
    have Hhu := hide hu
    clear hv hu hrow hru hT
    gi_wp2
    gi_quiet (fail)
    gi_wp2
    have hKd : (W.drewN nq).heap[D]? = some (.deferred (some [])) := hK
    have hlow : w.heap.size ≤ s + 7 := by have := S.out; omega
    refine ⟨by simp, .inl ⟨_, _, rfl, run_takeDeferred hKd, ?_⟩⟩
    exact ⟨_, results_tmp2 rfl _ _ _, v, u, rfl, row_low (ownsRow_putObj (W := W.drewN nq) Hv.out _ hKd rfl) hlow, row_low (ownsRow_putObj (W := W.drewN nq) Hu.out _ hKd rfl) hlow,
      (HB1.out.trans (below_drewN HT.out.1 nq)).trans (belowK_b (w := w1) HB1.out.size (W.drewN nq) D _ _ hD hKd rfl rfl)⟩
  case stop =>
    rintro D c pre W _ _ h _
    exact h.elim
end Go.Proofs.YtahcokfoifdlmaaGreatDoor.Tr
