/-
  Hunks, their parts, what they tell, the other way round: on lists alone.
-/
import Derived.Test.YtnehgogajghefaaDoorQ4
import Derived.Test.YtnehgogajghefaaDoorQ3
namespace Go.Proofs.YtnehgogajghefaaDoor.Hu
open Df

/-- a hunk -/
structure Hk where
  a : Int
  an : Int
  b : Int
  bn : Int
  lines : Ls
/-- a line's sign -/
def sg (x : List UInt8) : UInt8 := x.headD 0
/-- how many lines stay, or have a sign -/
def many (s : UInt8) : Ls → Nat
  | [] => 0
  | x :: l => (if sg x = 32 ∨ sg x = s then 1 else 0) + many s l
theorem many_append (s : UInt8) : ∀ l r : Ls, many s (l ++ r) = many s l + many s r
  | [], r => by simp [many]
  | x :: l, r => by rw [List.cons_append, many, many, many_append s l r]; omega
theorem many_le (s : UInt8) : ∀ l : Ls, many s l ≤ l.length
  | [] => Nat.le_refl _
  | x :: l => by rw [many, List.length_cons]; have := many_le s l; split <;> omega
theorem many_snoc (s : UInt8) (L : Ls) (k : Nat) (h : k < L.length) : many s (L.take (k + 1)) = many s (L.take k) + (if sg (L.getD k []) = 32 ∨ sg (L.getD k []) = s then 1 else 0) := by
  rw [List.take_succ_eq_append_getElem h, many_append]; simp [many, List.getElem?_eq_getElem h]
/-- may lines stand so; p: is the one ahead one that comes? -/
def okF : Bool → Ls → Bool
  | _, [] => true
  | p, x :: l => (decide (sg x = 32 ∨ sg x = 45 ∨ sg x = 43) && !(decide (sg x = 45) && p)) && okF (decide (sg x = 43)) l
def hright (h : Hk) : Bool := okF false h.lines && (((decide (0 ≤ h.a) && decide (0 ≤ h.b)) && decide (h.an = many 45 h.lines)) && decide (h.bn = many 43 h.lines))

/-- lines that stay, go, and come, without signs -/
structure Pt where
  st : Ls
  gn : Ls
  cm : Ls
def mk (s : UInt8) (l : Ls) : Ls := l.map (s :: ·)
def layP (p : Pt) : Ls := mk 32 p.st ++ (mk 45 p.gn ++ mk 43 p.cm)
def lay : List Pt → Ls
  | [] => []
  | p :: r => layP p ++ lay r
/-- each part but the last has lines that go or come, each but the first lines that stay, and none is empty -/
def Good : List Pt → Prop
  | [] => True
  | p :: r => (p.st ≠ [] ∨ p.gn ≠ [] ∨ p.cm ≠ []) ∧ (∀ q t, r = q :: t → (p.gn ≠ [] ∨ p.cm ≠ []) ∧ q.st ≠ []) ∧ Good r
theorem Good.tail {p : Pt} {r : List Pt} (h : Good (p :: r)) : Good r := h.2.2
theorem Good.last {p : Pt} {r : List Pt} (h : Good (p :: r)) (hg : p.gn = []) (hc : p.cm = []) : r = [] := by
  cases r with
  | nil => rfl
  | cons q t =>
    obtain ⟨h1, _⟩ := h.2.1 q t rfl
    rcases h1 with h1 | h1
    · exact absurd hg h1
    · exact absurd hc h1
end Go.Proofs.YtnehgogajghefaaDoor.Hu
namespace Go.Proofs.YtnehgogajghefaaDoor.Hu
open Go Go.RowKit Kt Lw Li Df

theorem size_of (l : List UInt8) : (ByteArray.mk l.toArray).size = l.length := rfl
theorem get_at (l : List UInt8) (k : Nat) (h : k < (ByteArray.mk l.toArray).size) : (ByteArray.mk l.toArray)[k] = l.getD k 0 := by
  have h' : k < l.length := h
  have : (ByteArray.mk l.toArray)[k] = l[k]'h' := rfl
  rw [this]
  simp [List.getElem?_eq_getElem h']
theorem sg_get (x : List UInt8) : x.getD 0 0 = sg x := by cases x <;> rfl
set_option maxHeartbeats 400000 in
theorem sign_any (x : List UInt8) (w : World) : Calls Tryd.prog 39 #[.string ⟨x.toArray⟩] w fun y w' => y = .returned (.int .u8 ((sg x).toNat : Int)) ∧ w' = w := by
  by_cases h : x = []
  · subst h
    go_enter Tryd.func39, Tryd.ntmps39
    go_wp2
    go_ret
    exact ⟨rfl, rfl⟩
  · have he : x.isEmpty = false := by cases x with | nil => exact absurd rfl h | cons _ _ => rfl
    have hl : 0 < x.length := List.length_pos_iff.2 h
    have hs := size_of x
    have hg := get_at x 0 (by rw [hs]; exact hl)
    rw [sg_get] at hg
    generalize sg x = s at *
    go_enter Tryd.func39, Tryd.ntmps39
    go_wp2
    go_ret
    exact ⟨rfl, rfl⟩
theorem u8_ne {b c : UInt8} (h : b ≠ c) : ((b.toNat : Int) == (c.toNat : Int)) = false := by
  rw [beq_eq_false_iff_ne]
  intro e
  exact h (UInt8.toNat_inj.1 (by omega))
theorem many_leN (s : UInt8) (L : Ls) (k : Nat) : many s (L.take k) ≤ k := Nat.le_trans (many_le s _) (List.length_take_le _ _)
set_option maxHeartbeats 1000000 in
set_option maxRecDepth 100000 in
theorem count_any (L : Ls) (A : Option Addr) (c : Nat) (P : Nat → Prop) (w : World) (hs : Vs w P A c (texts L)) (hn : L.length ≤ 1000000) :
    Calls Tryd.prog 41 #[.slice A L.length c] w fun y w' => y = .returned (.tuple #[.int .i64 (many 45 L : Int), .int .i64 (many 43 L : Int)]) ∧ Below w.heap.size w w' := by
  have Hs := hide hs.bound
  obtain ⟨N, hN⟩ : ∃ N, N = L.length := ⟨_, rfl⟩
  rw [← hN] at hn ⊢
  have HN := hide hN
  clear hs hN
  go_enter Tryd.func41, Tryd.ntmps41
  go_wp2
  go_loopw [2, 3, 8] (fun o f i wr => ∃ k : Nat, k ≤ N ∧ i = .int .i64 k ∧ o = .int .i64 (many 45 (L.take k) : Int) ∧ f = .int .i64 (many 43 (L.take k) : Int) ∧ Below w.heap.size w wr) (fun _ _ i _ => N - (intOf i).toNat)
  case atStart => exact ⟨0, Nat.zero_le _, rfl, by simp [many], by simp [many], Below.refl _ _⟩
  case round =>
    obtain ⟨k, hk, rfl, rfl, rfl, hb⟩ := hrel
    have Hb := hide hb
    clear hb
    by_cases hlt : k < N
    · obtain ⟨b, o, rfl, ck⟩ := Hs.out.text Hb.out (k := k) (by have := HN.out; omega)
      have H1 := hide (many_snoc 45 L k (by have := HN.out; omega))
      have H2 := hide (many_snoc 43 L k (by have := HN.out; omega))
      have h1 := many_leN 45 L k
      have h2 := many_leN 43 L k
      generalize many 45 (L.take k) = p at *
      generalize many 43 (L.take k) = q at *
      generalize L.getD k [] = x at *
      have HS := hide (sign_any x)
      by_cases h45 : sg x = 45
      · rw [h45] at HS H1 H2
        have H1' := hide (show many 45 (L.take (k + 1)) = p + 1 from H1.out)
        have H2' := hide (show many 43 (L.take (k + 1)) = q from H2.out)
        clear H1 H2 h45
        go_wp2_with fail
        refine (HS.out _).mono ?_
        rintro y w1 ⟨rfl, rfl⟩
        go_wp2
        exact ⟨⟨k + 1, by omega, by go_num, by rw [H1'.out]; go_num, by rw [H2'.out], Hb.out⟩, by simp [intOf]; omega⟩
      by_cases h32 : sg x = 32
      · rw [h32] at HS H1 H2
        have H1' := hide (show many 45 (L.take (k + 1)) = p + 1 from H1.out)
        have H2' := hide (show many 43 (L.take (k + 1)) = q + 1 from H2.out)
        clear H1 H2 h45 h32
        go_wp2_with fail
        refine (HS.out _).mono ?_
        rintro y w1 ⟨rfl, rfl⟩
        go_wp2
        exact ⟨⟨k + 1, by omega, by go_num, by rw [H1'.out]; go_num, by rw [H2'.out]; go_num, Hb.out⟩, by simp [intOf]; omega⟩
      by_cases h43 : sg x = 43
      · rw [h43] at HS H1 H2
        have H1' := hide (show many 45 (L.take (k + 1)) = p from H1.out)
        have H2' := hide (show many 43 (L.take (k + 1)) = q + 1 from H2.out)
        clear H1 H2 h45 h32 h43
        go_wp2_with fail
        refine (HS.out _).mono ?_
        rintro y w1 ⟨rfl, rfl⟩
        go_wp2
        exact ⟨⟨k + 1, by omega, by go_num, by rw [H1'.out], by rw [H2'.out]; go_num, Hb.out⟩, by simp [intOf]; omega⟩
      have H1' := hide (show many 45 (L.take (k + 1)) = p by rw [H1.out, if_neg (by rintro (h | h); exact h32 h; exact h45 h)]; rfl)
      have H2' := hide (show many 43 (L.take (k + 1)) = q by rw [H2.out, if_neg (by rintro (h | h); exact h32 h; exact h43 h)]; rfl)
      have e1 : (((sg x).toNat : Int) == 45) = false := u8_ne h45
      have e2 : (((sg x).toNat : Int) == 32) = false := u8_ne h32
      have e3 : (((sg x).toNat : Int) == 43) = false := u8_ne h43
      clear H1 H2 h45 h32 h43
      generalize ((sg x).toNat : Int) = n at *
      go_wp2_with fail
      refine (HS.out _).mono ?_
      rintro y w1 ⟨rfl, rfl⟩
      go_wp2
      exact ⟨⟨k + 1, by omega, by go_num, by rw [H1'.out], by rw [H2'.out], Hb.out⟩, by simp [intOf]; omega⟩
    · obtain rfl : k = N := by omega
      go_wp2
      go_ret2
      exact ⟨by rw [HN.out, List.take_length]; rfl, Hb.out⟩
end Go.Proofs.YtnehgogajghefaaDoor.Hu
namespace Go.Proofs.YtnehgogajghefaaDoor.Df
open Go Go.RowKit Kt Lw

theorem infoTx : (Tryd.prog.info? 9).map (fun i => (i.zero, i.size, i.bytes)) = some (some (.string ⟨#[]⟩), 1, 16) := by kernel_rfl
theorem wp_pushT {o : Oper} {a : Act} {K : Act → World → Prop} {Q : Exit → Act → World → Prop} {W : World} (s x : Operand)
    (ho : o.op = .call { callee := .builtin .append, args := #[s, x], argTypes := #[29, 29] })
    (B : Nat) (w0 : World) (v : Value) (l : Ls) (y : List UInt8) (cs : Array Value) (hs : a.eval s = v) (hx : a.eval x = .slice (some ⟨W.heap.size, 0, none⟩) 1 1) (hc : cs = #[.string ⟨y.toArray⟩])
    (hown : OwT W B tS v l) (hlen : l.length + 1 ≤ 1000000000) (hb : Below B w0 W) (hbase : B ≤ W.heap.size)
    (h : ∀ v' w', OwT w' B tS v' (l ++ [y]) → Below B w0 w' → W.grownBy w' v.ownBlock → (v'.ownBlock = v.ownBlock ∨ v'.ownBlock = some (W.heap.size + 1)) → K (a.put o.dst v') w') : o.wp Tryd.prog a (W.alloc (.cells cs tS)) K Q := by
  obtain ⟨i0, hi0, hz0, hz1, hz2⟩ := info_parts infoTx
  subst hc
  have hown' : (W.alloc (.cells #[.string ⟨y.toArray⟩] tS)).ownsRow B tS 1 v l.length (texts l) := World.ownsRow.alloc hown _
  have hnews : ∀ j u, (texts [y])[j]? = some u → (W.alloc (.cells #[.string ⟨y.toArray⟩] tS)).cell? ((⟨W.heap.size, 0, none⟩ : Addr).add j) = some u := fun j u hu => by
    rw [Addr.add_mid, (Row.fresh W tS #[.string ⟨y.toArray⟩]).cell, Nat.zero_add]
    exact hu
  obtain ⟨v', w', hr, h1, h2, _⟩ := run_append_own (P := Tryd.prog) (W.alloc (.cells #[.string ⟨y.toArray⟩] tS)) B 29 o.type tS i0 (.string ⟨#[]⟩) 1 16 Tryd.underlying29 hi0 hz0 hz1 hz2 rfl (by omega) v l.length (texts l) hown'
    ⟨W.heap.size, 0, none⟩ 1 1 (texts [y]) rfl hnews (texts_one [y]) (by unfold maxLen; omega) (by omega) (by simp; omega)
  have hg := grownBy_back _ h2
  have hbl : v'.ownBlock = v.ownBlock ∨ v'.ownBlock = some (W.heap.size + 1) := by
    rcases hown'.2 with ⟨rfl, h0⟩ | ⟨g, cap, cur, rfl, _, hgg, hnc, _, hcs, htake⟩
    · have hr2 := run_append_nil (P := Tryd.prog) (W.alloc (.cells #[.string ⟨y.toArray⟩] tS)) 29 o.type tS i0 (.string ⟨#[]⟩) Tryd.underlying29 hi0 hz0 ⟨W.heap.size, 0, none⟩ 1 1 (texts [y]) (by rw [hz1]; rfl) hnews (by omega) (by omega) (by rw [hz2]; omega)
      rw [hr] at hr2
      injection hr2 with e1 _
      right
      rw [e1]
      simp [Value.ownBlock]
    · by_cases hroom : l.length + 1 ≤ cap
      · have hr2 := run_append_room (P := Tryd.prog) (W.alloc (.cells #[.string ⟨y.toArray⟩] tS)) 29 o.type tS i0 Tryd.underlying29 hi0 g l.length cap cur hgg ⟨W.heap.size, 0, none⟩ 1 1 (texts [y]) (by rw [hz1]; rfl) hnews (texts_one [y]) hroom (by rw [hz1, hcs]; simp [texts]; omega)
        rw [hr] at hr2
        injection hr2 with e1 _
        left
        rw [e1]
        rfl
      · have hr2 := run_append_grow (P := Tryd.prog) (W.alloc (.cells #[.string ⟨y.toArray⟩] tS)) 29 o.type tS i0 (.string ⟨#[]⟩) Tryd.underlying29 hi0 hz0 ⟨g, 0, none⟩ l.length cap (texts l) (by rw [hz1, texts_len]; omega) (World.ownsRow.cells hown' rfl)
          ⟨W.heap.size, 0, none⟩ 1 1 (texts [y]) (by rw [hz1]; rfl) hnews (by omega) (by omega) (growslice_fits (by omega) (by rw [hz2]; omega))
        rw [hr] at hr2
        injection hr2 with e1 _
        right
        rw [e1]
        simp [Value.ownBlock]
  unfold Oper.wp execOp
  simp only [ho, resolve, invoke, builtin, Sem.run_bind, Sem.run_pure, Result.andThen_ok, List.map_toArray, List.map_cons, List.map_nil, hs, hx, hr]
  refine h v' w' ?_ (hb.grown hg hbase fun k hk => (World.ownsRow.lt hown k hk).1) hg hbl
  unfold OwT
  rw [List.length_append, texts_append]
  exact h1
theorem wpList_pushT {ops : Array Oper} {rest : List Oper} {o : Oper} {a : Act} {Q : Exit → Act → World → Prop} {W : World} (hgd : o.guard = none) (s x : Operand)
    (ho : o.op = .call { callee := .builtin .append, args := #[s, x], argTypes := #[29, 29] })
    (B : Nat) (w0 : World) (v : Value) (l : Ls) (y : List UInt8) (cs : Array Value) (hs : a.eval s = v) (hx : a.eval x = .slice (some ⟨W.heap.size, 0, none⟩) 1 1) (hc : cs = #[.string ⟨y.toArray⟩])
    (hown : OwT W B tS v l) (hlen : l.length + 1 ≤ 1000000000) (hb : Below B w0 W) (hbase : B ≤ W.heap.size)
    (h : ∀ v' w', OwT w' B tS v' (l ++ [y]) → Below B w0 w' → W.grownBy w' v.ownBlock → (v'.ownBlock = v.ownBlock ∨ v'.ownBlock = some (W.heap.size + 1)) → wpList Tryd.prog ops Q rest (a.put o.dst v') w') : wpList Tryd.prog ops Q (o :: rest) a (W.alloc (.cells cs tS)) :=
  wpList_plain hgd fun _ hK => wp_pushT s x ho B w0 v l y cs hs hx hc hown hlen hb hbase fun v' w' h1 h2 h3 h4 => hK _ _ (h v' w' h1 h2 h3 h4)
end Go.Proofs.YtnehgogajghefaaDoor.Df
