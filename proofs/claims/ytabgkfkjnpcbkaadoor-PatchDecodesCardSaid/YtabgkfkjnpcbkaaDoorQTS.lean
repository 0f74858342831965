/-
  trees: where a file with a path stands.
-/
import Derived.BigQuiet
import Derived.Test.YtabgkfkjnpcbkaaDoorTR
import Derived.Lib.AppendZerosOnto
namespace Go.Proofs.YtabgkfkjnpcbkaaDoor.Tr
open Go Go.RowKit Kt Lw Li Lx

theorem cmp_lt : ∀ a b : Bs, lt a b = true → Lib.compareBytes a b = -1
  | _, [], h => by simp [lt, Op.bytesLess] at h
  | [], _ :: _, _ => rfl
  | x :: a, y :: b, h => by
    rw [lt_cons, Bool.or_eq_true, Bool.and_eq_true, decide_eq_true_iff, beq_iff_eq] at h
    rw [Lib.compareBytes]
    rcases h with h | ⟨h1, h2⟩
    · rw [if_pos h]
    · subst h1
      rw [if_neg (by rw [UInt8.lt_iff_toNat_lt]; omega), if_neg (by rw [UInt8.lt_iff_toNat_lt]; omega), cmp_lt a b h2]
theorem cmp_gt : ∀ a b : Bs, lt b a = true → Lib.compareBytes a b = 1
  | [], _, h => by simp [lt, Op.bytesLess] at h
  | _ :: _, [], _ => rfl
  | x :: a, y :: b, h => by
    rw [lt_cons, Bool.or_eq_true, Bool.and_eq_true, decide_eq_true_iff, beq_iff_eq] at h
    rw [Lib.compareBytes]
    rcases h with h | ⟨h1, h2⟩
    · rw [if_neg (by rw [UInt8.lt_iff_toNat_lt] at h ⊢; omega), if_pos h]
    · subst h1
      rw [if_neg (by rw [UInt8.lt_iff_toNat_lt]; omega), if_neg (by rw [UInt8.lt_iff_toNat_lt]; omega), cmp_gt a b h2]
theorem cmp_eq : ∀ a : Bs, Lib.compareBytes a a = 0
  | [] => rfl
  | x :: a => by
    rw [Lib.compareBytes, if_neg (by rw [UInt8.lt_iff_toNat_lt]; omega), if_neg (by rw [UInt8.lt_iff_toNat_lt]; omega), cmp_eq a]
/-- how two paths stand -/
def cmp (a b : Bs) : Int := if lt a b then -1 else if a = b then 0 else 1
theorem cmp_is (a b : Bs) : Lib.compareBytes a b = cmp a b := by
  unfold cmp
  rcases lt_tri a b with h | h | h
  · rw [if_pos h, cmp_lt a b h]
  · subst h; rw [lt_irr, if_neg (by decide), if_pos rfl, cmp_eq]
  · rw [lt_asymm h, if_neg (by decide), if_neg (fun e => lt_ne h e.symm), cmp_gt a b h]
set_option maxRecDepth 100000 in
theorem cmp_any (p x q : Bs) (w : World) :
    Calls Tryd.prog 87 #[.agg #[.string ⟨p.toArray⟩, .string ⟨x.toArray⟩], .string ⟨q.toArray⟩] w fun y w' => y = .returned (.int .i64 (cmp p q)) ∧ Below w.heap.size w w' := by
  have hrow := Row.fresh w tF #[.string ⟨p.toArray⟩, .string ⟨x.toArray⟩]
  have hb1 := (Below.refl w.heap.size w).alloc (Nat.le_refl _) (.cells #[.string ⟨p.toArray⟩, .string ⟨x.toArray⟩] tF)
  have HC := hide (fun w => Tryd.strings_Compare ⟨p.toArray⟩ ⟨q.toArray⟩ w)
  have hc : Lib.compareBytes (ByteArray.mk p.toArray).data.toList (ByteArray.mk q.toArray).data.toList = cmp p q := cmp_is p q
  rw [hc] at HC
  have c0 : (w.alloc (.cells #[.string ⟨p.toArray⟩, .string ⟨x.toArray⟩] tF)).cell? ⟨w.heap.size, 0, none⟩ = some (.string ⟨p.toArray⟩) := hrow.cell 0
  have Hb1 := hide hb1
  clear hrow hc hb1
  generalize cmp p q = z at *
  go_enter Tryd.func87, Tryd.ntmps87
  go_wp2_with fail
  refine (HC.out _).mono ?_
  rintro y w1 ⟨rfl, rfl⟩
  go_wp2
  go_ret
  exact ⟨rfl, Hb1.out⟩
/-- what the search has found so far -/
structure Seek (t : List Fl) (p : Bs) (lo hi : Nat) : Prop where
  le : lo ≤ hi
  len : hi ≤ t.length
  lo : ∀ k g, t[k]? = some g → k < lo → lt g.path p = true
  hi : ∀ k g, t[k]? = some g → hi ≤ k → lt g.path p = false
theorem Seek.start (t : List Fl) (p : Bs) : Seek t p 0 t.length :=
  ⟨Nat.zero_le _, Nat.le_refl _, fun _ _ _ h => absurd h (by omega), fun k g h h' => by have := (List.getElem?_eq_some_iff.1 h).1; omega⟩
theorem Seek.up {t : List Fl} {p : Bs} {lo hi m : Nat} {f : Fl} (h : Seek t p lo hi) {q : Option Bs} (hg : go q t = true) (hf : t[m]? = some f) (hm : m < hi) (hl : lt f.path p = true) : Seek t p (m + 1) hi :=
  ⟨by omega, h.len, fun k g hk hkm => go_mono hg hk hf (by omega) hl, h.hi⟩
theorem Seek.down {t : List Fl} {p : Bs} {lo hi m : Nat} {f : Fl} (h : Seek t p lo hi) {q : Option Bs} (hg : go q t = true) (hf : t[m]? = some f) (hm : lo ≤ m) (hh : m ≤ hi) (hl : lt f.path p = false) : Seek t p lo m :=
  ⟨hm, by have := h.len; omega, h.lo, fun k g hk hkm => by
    cases hx : lt g.path p with
    | false => rfl
    | true => have := go_mono hg hf hk hkm hx; rw [hl] at this; cases this⟩
theorem Seek.done {t : List Fl} {p : Bs} {k : Nat} (h : Seek t p k k) : pos t p = k :=
  pos_of t p k h.len (fun j g hj hjk => h.lo j g hj hjk) (fun g hg => h.hi k g hg (Nat.le_refl _))
set_option maxRecDepth 100000 in
set_option maxHeartbeats 4000000 in
theorem search_any (t : List Fl) (p : Bs) (A : Option Addr) (c : Nat) (w : World) (hs : Fls w A c t) (hn : t.length ≤ 1000000) {q : Option Bs} (hg : go q t = true) :
    Calls Tryd.prog 86 #[.slice A t.length c, .string ⟨p.toArray⟩, .func (.func 87) #[] #[]] w fun y w' =>
      y = .returned (.tuple #[.int .i64 (pos t p : Nat), .bool (hit t p)]) ∧ Below w.heap.size w w' := by
  have Hs := hide hs
  have Hg := hide hg
  have HH := hide (hit_of t p)
  have HC := hide (fun a x w => cmp_any a x p w)
  obtain ⟨N, hN⟩ : ∃ N, N = t.length := ⟨_, rfl⟩
  have HS := hide (Seek.start t p)
  rw [← hN] at hn HS ⊢
  have HN := hide hN
  clear hs hg hN
  go_enter Tryd.func86, Tryd.ntmps86
  go_wp2
  go_loopw [9, 10] (fun s i wr => ∃ lo hi : Nat, lo ≤ hi ∧ hi ≤ N ∧ s = .int .i64 lo ∧ i = .int .i64 hi ∧ Hid (Seek t p lo hi) ∧ Below w.heap.size w wr) (fun s i _ => (intOf i).toNat - (intOf s).toNat)
  case atStart => exact ⟨0, N, Nat.zero_le _, Nat.le_refl _, rfl, rfl, by show Hid _; exact HS, Below.refl _ _⟩
  case round =>
    obtain ⟨lo, hi, hlh, hhn, rfl, rfl, HK, hb⟩ := hrel
    have Hb := hide hb
    clear hb HS
    by_cases hlt : lo < hi
    · obtain ⟨m, hm⟩ : ∃ m, m = (lo + hi) / 2 := ⟨_, rfl⟩
      have hm1 : lo ≤ m := by omega
      have hm2 : m < hi := by omega
      have hm3 : ((lo : Int) + (hi : Int)) / 2 = (m : Int) := by omega
      obtain ⟨b, o, f, rfl, hbl, hf, hd, d0, d1⟩ := Hs.out.at (w' := wr) Hb.out (k := m) (by have := HN.out; omega)
      obtain ⟨a, x⟩ := f
      simp only at d0 d1
      have Hf := hide hf
      clear hf hd hbl hm
      have HCw := HC.out a x
      cases hl : lt a p with
      | true =>
        have HK2 := hide (HK.out.up Hg.out Hf.out hm2 hl)
        rw [show cmp a p = -1 by unfold cmp; rw [hl, if_pos rfl]] at HCw
        have Hw := hide HCw
        clear hl HK HCw
        go_wp2_with fail
        refine (Hw.out _).mono ?_
        rintro y w1 ⟨rfl, hb1⟩
        have Hb1 := hide (Hb.out.trans (hb1.mono Hb.out.size))
        clear hb1 d0 d1
        go_wp2
        exact ⟨⟨m + 1, hi, by omega, by omega, by go_num, rfl, by show Hid _; exact HK2, Hb1.out⟩, by simp [intOf]; omega⟩
      | false =>
        have HK2 := hide (HK.out.down Hg.out Hf.out hm1 (by omega) hl)
        obtain ⟨z, hz, hz2⟩ : ∃ z : Int, cmp a p = z ∧ 0 ≤ z := by
          unfold cmp; rw [hl, if_neg (by decide)]; split
          · exact ⟨_, rfl, by decide⟩
          · exact ⟨_, rfl, by decide⟩
        rw [hz] at HCw
        have Hw := hide HCw
        have hz3 : ¬ z < 0 := by omega
        have hz4 : decide (z < 0) = false := decide_eq_false hz3
        clear hl HK HCw hz
        go_wp2_with fail
        refine (Hw.out _).mono ?_
        rintro y w1 ⟨rfl, hb1⟩
        have Hb1 := hide (Hb.out.trans (hb1.mono Hb.out.size))
        clear hb1 d0 d1
        go_wp2
        exact ⟨⟨lo, m, by omega, by omega, rfl, by go_num, by show Hid _; exact HK2, Hb1.out⟩, by simp [intOf]; omega⟩
    · obtain rfl : lo = hi := by omega
      have hpos := HK.out.done
      have Hhi := hide (fun g hg => HK.out.hi lo g hg (Nat.le_refl _))
      obtain ⟨h1, h2⟩ := HH.out
      rw [hpos] at h1 h2
      have Hpos := hide hpos
      clear hpos HK
      by_cases hl : lo < N
      · obtain ⟨b, o, f, rfl, hbl, hf, hd, d0, d1⟩ := Hs.out.at (w' := wr) Hb.out (k := lo) (by have := HN.out; omega)
        have hh := h1 f hf
        have hlt2 := Hhi.out f hf
        obtain ⟨a, x⟩ := f
        simp only at d0 d1 hh hlt2
        have HCw := HC.out a x
        have dl : decide ((lo : Int) < (N : Int)) = true := decide_eq_true (by omega)
        have dl2 : decide (lo < N) = true := decide_eq_true hl
        by_cases he : a = p
        · rw [show cmp a p = 0 by unfold cmp; rw [hlt2, if_neg (by decide), if_pos he]] at HCw
          have Hh := hide (show hit t p = true by rw [hh]; exact decide_eq_true he)
          have Hw := hide HCw
          clear HCw hh hlt2 he h1 h2 hf hd hbl
          go_wp2_with fail
          refine (Hw.out _).mono ?_
          rintro y w1 ⟨rfl, hb1⟩
          have Hb1 := hide (Hb.out.trans (hb1.mono Hb.out.size))
          clear hb1 d0 d1
          go_wp2
          go_ret2
          exact ⟨by rw [Hpos.out, Hh.out]; rfl, Hb1.out⟩
        · rw [show cmp a p = 1 by unfold cmp; rw [hlt2, if_neg (by decide), if_neg he]] at HCw
          have Hh := hide (show hit t p = false by rw [hh]; exact decide_eq_false he)
          have Hw := hide HCw
          clear HCw hh hlt2 he h1 h2 hf hd hbl
          go_wp2_with fail
          refine (Hw.out _).mono ?_
          rintro y w1 ⟨rfl, hb1⟩
          have Hb1 := hide (Hb.out.trans (hb1.mono Hb.out.size))
          clear hb1 d0 d1
          go_wp2
          go_ret2
          exact ⟨by rw [Hpos.out, Hh.out]; rfl, Hb1.out⟩
      · have Hh := hide (h2 (by have := HN.out; omega))
        have dl : decide ((lo : Int) < (N : Int)) = false := decide_eq_false (by omega)
        have dl2 : decide (lo < N) = false := decide_eq_false hl
        clear h1 h2
        go_wp2
        go_ret2
        exact ⟨by rw [Hpos.out, Hh.out]; rfl, Hb.out⟩
set_option maxRecDepth 100000 in
set_option maxHeartbeats 4000000 in
theorem place_any (t : List Fl) (p : Bs) (A : Option Addr) (c : Nat) (w : World) (hs : Fls w A c t) (hn : t.length ≤ 1000000) {q : Option Bs} (hg : go q t = true) :
    Calls Tryd.prog 71 #[.slice A t.length c, .string ⟨p.toArray⟩] w fun y w' =>
      y = .returned (.tuple #[.int .i64 (pos t p : Nat), .int .i64 (upto t p : Nat)]) ∧ Below w.heap.size w w' := by
  have HS := hide (search_any t p A c w hs hn hg)
  have hp := pos_le t p
  obtain ⟨N, hN⟩ : ∃ N, N = t.length := ⟨_, rfl⟩
  rw [← hN] at HS hp hn ⊢
  have hu : upto t p = if hit t p then pos t p + 1 else pos t p := rfl
  cases hh : hit t p with
  | true =>
    rw [hh, if_pos rfl] at hu
    rw [hh] at HS
    have Hu := hide hu
    clear hs hN hu hh hg
    generalize upto t p = u at *
    generalize pos t p = k at *
    go_enter Tryd.func71, Tryd.ntmps71
    go_wp2_with fail
    refine HS.out.mono ?_
    rintro y w1 ⟨rfl, hb1⟩
    have Hb1 := hide hb1
    clear hb1 HS
    go_wp2
    go_ret2
    exact ⟨by rw [Hu.out]; rfl, Hb1.out⟩
  | false =>
    rw [hh, if_neg (by decide)] at hu
    rw [hh] at HS
    have Hu := hide hu
    clear hs hN hu hh hg
    generalize upto t p = u at *
    generalize pos t p = k at *
    go_enter Tryd.func71, Tryd.ntmps71
    go_wp2_with fail
    refine HS.out.mono ?_
    rintro y w1 ⟨rfl, hb1⟩
    have Hb1 := hide hb1
    clear hb1 HS
    go_wp2
    go_ret2
    exact ⟨by rw [Hu.out]; rfl, Hb1.out⟩
end Go.Proofs.YtabgkfkjnpcbkaaDoor.Tr
namespace Go.Proofs.YtabgkfkjnpcbkaaDoor.Tr
open Go Go.RowKit Kt Lw Li Lx Df

theorem flC_one (L : List Fl) : ∀ u ∈ L.flatMap flC, u.oneCell' = true := by
  intro u hu
  obtain ⟨f, hf, hu⟩ := List.mem_flatMap.1 hu
  simp only [flC, List.mem_cons, List.not_mem_nil, or_false] at hu
  rcases hu with rfl | rfl <;> rfl
set_option maxRecDepth 100000 in
/-- append(l, files..) onto a row of files of the call's own -/
theorem wp_catF {o : Oper} {a : Act} {K : Act → World → Prop} {Q : Exit → Act → World → Prop} {W : World} (s x : Operand)
    (ho : o.op = .call { callee := .builtin .append, args := #[s, x], argTypes := #[39, 39] })
    (B : Nat) (w0 : World) (v : Value) (L M : List Fl) (A : Option Addr) (c : Nat) (hs : a.eval s = v) (hx : a.eval x = .slice A M.length c)
    (hown : OwF W B v L) (hu : Fls W A c M) (hlen : L.length + M.length ≤ 1000000000) (hb : Below B w0 W) (hbase : B ≤ W.heap.size)
    (h : ∀ v' w', OwF w' B v' (L ++ M) → Below B w0 w' → W.grownBy w' v.ownBlock → K (a.put o.dst v') w') : o.wp Tryd.prog a W K Q := by
  obtain ⟨i0, hi0, hz0, hz1, hz2⟩ := info_parts infoFl
  cases A with
  | none =>
    have h0 : M = [] := by
      cases M with
      | nil => rfl
      | cons b r => obtain ⟨_, _, he, _⟩ := hu.2 (by simp); cases he
    subst h0
    have hrun := run_append_nothingT (P := Tryd.prog) (ty := o.type) Tryd.underlying39 hi0 hown c
    simp only [List.length_nil] at hx
    unfold Oper.wp execOp
    simp only [ho, resolve, invoke, builtin, Sem.run_bind, Sem.run_pure, Result.andThen_ok, List.map_toArray, List.map_cons, List.map_nil, hs, hx, hrun]
    exact h v W (by rw [List.append_nil]; exact hown) hb (World.grownBy.refl _ _)
  | some ad =>
    have hl2 : (M.flatMap flC).length = M.length * 2 := flat_len flC 2 flC_len M
    refine wp_append_own _ s x 39 ho B tF i0 (.agg #[.string ⟨#[]⟩, .string ⟨#[]⟩]) 2 32 Tryd.underlying39 hi0 hz0 hz1 hz2 rfl (by omega) v L.length (L.flatMap flC) hs hown
      ad M.length c (M.flatMap flC) hx hl2 (fun j u hj => ?_) (flC_one M) (by unfold maxLen; omega) (by omega) hbase (fun v' w' h1 h2 _ => ?_)
    · have hj2 : j < M.length * 2 := by have := (List.getElem?_eq_some_iff.1 hj).1; rwa [hl2] at this
      obtain ⟨b, k, he, _, hc⟩ := hu.2 (by omega)
      injection he with he
      subst he
      have hi : j / 2 < M.length := by omega
      have hk : j % 2 < 2 := Nat.mod_lt _ (by decide)
      have hf := flat_at flC 2 flC_len M (j / 2) (j % 2) _ (List.getElem?_eq_getElem hi) hk
      rw [show 2 * (j / 2) + j % 2 = j by omega, hj] at hf
      have := hc (j / 2) _ (List.getElem?_eq_getElem hi) (j % 2) u hf.symm
      rw [show (Addr.mk b k none).add j = ⟨b, k + 2 * (j / 2) + j % 2, none⟩ by rw [Addr.add_mid]; congr 1; omega]
      exact this
    · refine h v' w' ?_ (hb.grown h2 hbase fun k hk => (World.ownsRow.lt hown k hk).1) h2
      unfold OwF
      rw [List.flatMap_append, List.length_append]
      exact h1
theorem wpList_catF {ops : Array Oper} {rest : List Oper} {o : Oper} {a : Act} {Q : Exit → Act → World → Prop} {W : World} (hgd : o.guard = none) (s x : Operand)
    (ho : o.op = .call { callee := .builtin .append, args := #[s, x], argTypes := #[39, 39] })
    (B : Nat) (w0 : World) (v : Value) (L M : List Fl) (A : Option Addr) (c : Nat) (hs : a.eval s = v) (hx : a.eval x = .slice A M.length c)
    (hown : OwF W B v L) (hu : Fls W A c M) (hlen : L.length + M.length ≤ 1000000000) (hb : Below B w0 W) (hbase : B ≤ W.heap.size)
    (h : ∀ v' w', OwF w' B v' (L ++ M) → Below B w0 w' → W.grownBy w' v.ownBlock → wpList Tryd.prog ops Q rest (a.put o.dst v') w') : wpList Tryd.prog ops Q (o :: rest) a W :=
  wpList_plain hgd fun _ hK => wp_catF s x ho B w0 v L M A c hs hx hown hu hlen hb hbase fun v' w' h1 h2 h3 => hK _ _ (h v' w' h1 h2 h3)
/-- a slice that holds these files -/
def IsF (w : World) (v : Value) (L : List Fl) : Prop := ∃ A c, v = .slice A L.length c ∧ Fls w A c L
theorem IsF.below {w w' : World} {v : Value} {L : List Fl} (h : IsF w v L) (hb : Below w.heap.size w w') : IsF w' v L := by
  obtain ⟨A, c, rfl, hs⟩ := h
  exact ⟨A, c, rfl, hs.keep hb⟩
theorem IsF.one (w : World) (f : Fl) : IsF (w.alloc (.cells #[.string ⟨f.path.toArray⟩, .string ⟨f.text.toArray⟩] tF)) (.slice (some ⟨w.heap.size, 0, none⟩) 1 1) [f] :=
  ⟨_, _, rfl, Nat.le_refl _, fun _ => ⟨w.heap.size, 0, rfl, by simp, fun j e hj k u hk => by
    have hrow := Row.fresh w tF #[.string ⟨f.path.toArray⟩, .string ⟨f.text.toArray⟩]
    rcases j with _ | j
    · obtain rfl : f = e := Option.some.inj hj
      rw [hrow.cell]
      simp only [Nat.mul_zero, Nat.zero_add]
      exact hk
    · simp at hj⟩⟩
theorem OwF.made (w : World) (B : Nat) (E : TypeId) (hE : E = tF) (cs : Array Value) (cap : Nat) (hB : B ≤ w.heap.size) (hc : cs.size = cap * 2) (hm : cap ≤ maxLen) : OwF (w.alloc (.cells cs E)) B (.slice (some ⟨w.heap.size, 0, none⟩) 0 cap) [] := by
  subst hE
  exact World.ownsRow_made w cs cap hB hm (by omega)
set_option maxHeartbeats 1000000 in
set_option maxRecDepth 100000 in
theorem growF_nil (n : Nat) (w : World) (hn : n ≤ 1000000000) :
    Calls Tryd.prog 89 #[.slice none 0 0, .int .i64 n] w fun e w' => ∃ v, e = .returned v ∧ OwF w' w.heap.size v [] ∧ Below w.heap.size w w' := by
  by_cases h0 : n = 0
  · subst h0
    go_enter Tryd.func89, Tryd.ntmps89
    go_wp2
    go_ret
    exact ⟨_, rfl, OwF.nil _ _, Below.refl _ _⟩
  · obtain ⟨i0, hi, hz0, hz1, hz2⟩ := info_parts infoFl
    have hrz := fun ty => Lib.run_append_grow_zeros (P := Tryd.prog) w 39 3 ty 53 i0 (.agg #[.string ⟨#[]⟩, .string ⟨#[]⟩]) .i64 .i64 Tryd.underlying39 Tryd.underlying3 hi hz0 none 0 0 [] (run_firstCells_none w.drew i0.size 0 0 0) n (by omega) (by rw [hz1]; omega) (by omega) (by omega) (by rw [hz2]; omega)
      (by rw [hz2]; have := growslice_fits (need := 0 + n) (old := 0) (bytes := 32) (by omega) (by omega); simpa using this)
    have hG1 := grownCap_ge w (0 + n) 0 53
    have hG2 := grownCap_le_maxLen w (0 + n) 0 53 (by unfold maxLen; omega)
    obtain ⟨G, hG⟩ : ∃ G, G = grownCap w (0 + n) 0 53 := ⟨_, rfl⟩
    rw [← hG] at hrz hG1 hG2
    have hG3 := hG2
    unfold maxLen at hG3
    clear hG
    go_enter Tryd.func89, Tryd.ntmps89
    go_wp2_with (at_builtin; go_loud (refine Lib.wpList_append_run _ rfl _ _ _ _ rfl _ _ rfl rfl _ _ (hrz _) ?_))
    go_ret
    refine ⟨_, rfl, OwF.drew (OwF.made w w.heap.size 53 rfl _ G (Nat.le_refl _) ?_ hG2), ((Below.refl _ _).alloc (Nat.le_refl _) _).drew⟩
    simp [Builtin.zeroCells]
    omega
theorem catF_take (ls : List (List Fl)) (k : Nat) (h : k < ls.length) : (ls.take (k + 1)).flatten = (ls.take k).flatten ++ ls.getD k [] := by
  rw [List.take_succ_eq_append_getElem h, List.flatten_append]
  simp [List.getElem?_eq_getElem h]
theorem catF_len (ls : List (List Fl)) (k : Nat) : (ls.take k).flatten.length ≤ ls.flatten.length := by
  have e : ls.flatten = (ls.take k).flatten ++ (ls.drop k).flatten := by rw [← List.flatten_append, List.take_append_drop]
  rw [e, List.length_append]
  omega
set_option maxHeartbeats 2000000 in
set_option maxRecDepth 100000 in
theorem concatF_any (ls : List (List Fl)) (vs : List Value) (g c : Nat) (w : World) (hv : vs.length = ls.length) (hg : Row w g 39 vs) (hc : vs.length ≤ c) (hm : vs.length < 1000)
    (hs : ∀ k, k < ls.length → IsF w (vs.getD k (.bool false)) (ls.getD k [])) (hl : ls.flatten.length ≤ 100000000) :
    Calls Tryd.prog 72 #[.slice (some ⟨g, 0, none⟩) vs.length c] w fun e w' => ∃ v, e = .returned v ∧ OwF w' w.heap.size v ls.flatten ∧ Below w.heap.size w w' := by
  have Hs := hide hs
  have Hl := hide hl
  have Hg := hide hg
  have Hv := hide hv
  have Hc := hide hc
  clear hs hl hg hv hc
  go_enter Tryd.func72, Tryd.ntmps72
  go_wp2
  go_loopw [3, 11] (fun s i wr => ∃ k : Nat, k ≤ vs.length ∧ i = .int .i64 k ∧ s = .int .i64 ((ls.take k).flatten.length : Nat) ∧ w = wr) (fun _ i _ => vs.length - (intOf i).toNat)
  case atStart => exact ⟨0, Nat.zero_le _, rfl, rfl, rfl⟩
  case round =>
    obtain ⟨k, hk, rfl, rfl, rfl⟩ := hrel
    by_cases hlt : k < vs.length
    · have hkl : k < ls.length := by rw [← Hv.out]; exact hlt
      obtain ⟨A, cp, hA, hsl⟩ := Hs.out k hkl
      have Hn := hide (congrArg List.length (catF_take ls k hkl))
      have hb1 := catF_len ls (k + 1)
      rw [Hn.out, List.length_append] at hb1
      have hcell : w.cell? ⟨g, k, none⟩ = some (.slice A (ls.getD k []).length cp) := by
        rw [Hg.out.cell, ← hA]; simp [List.getElem?_eq_getElem hlt]
      have Hsum := hide (Hn.out.trans List.length_append)
      clear Hn hsl
      have hb2 := Hl.out
      generalize (ls.getD k []).length = m at *
      generalize (ls.take k).flatten.length = q at *
      generalize ls.flatten.length = tot at *
      go_wp2
      refine ⟨⟨k + 1, by omega, by go_num, ?_, trivial⟩, ?_⟩
      · rw [Hsum.out]; go_num
      · simp [intOf]; omega
    · obtain rfl : k = vs.length := by omega
      have e1 : ls.take vs.length = ls := List.take_of_length_le (by rw [Hv.out]; exact Nat.le_refl _)
      rw [e1]
      have hb2 := Hl.out
      have Ht := hide (show (ls.take vs.length).flatten = ls.flatten by rw [e1])
      generalize hF : ls.flatten.length = tot at hb2
      have HF := hide hF
      clear hF e1
      go_wp2_with (go_at_call 89; go_loud (refine (growF_nil _ _ (by omega)).mono ?_; rintro e w1 ⟨v1, rfl, hown1, hb1⟩))
      go_loopw [6, 27] (fun s i wx => ∃ (k : Nat) (s0 : Value), s0 = s ∧ k ≤ vs.length ∧ i = .int .i64 k ∧ OwF wx w.heap.size s0 (ls.take k).flatten ∧ Below w.heap.size w wx) (fun _ i _ => vs.length - (intOf i).toNat)
      case atStart => exact ⟨0, _, rfl, Nat.zero_le _, rfl, hown1, hb1⟩
      case round =>
        clear hown1 hb1
        obtain ⟨k, s, rfl, hk, rfl, hown, hb⟩ := hrel
        have Hown := hide hown
        have Hb := hide hb
        clear hown hb
        by_cases hlt : k < vs.length
        · have hkl : k < ls.length := by rw [← Hv.out]; exact hlt
          obtain ⟨A, cp, hA, hsl⟩ := Hs.out k hkl
          have Hcat := hide (catF_take ls k hkl)
          have Hn := hide (congrArg List.length (catF_take ls k hkl))
          have hb1 := catF_len ls (k + 1)
          rw [Hn.out, List.length_append] at hb1
          have hcell : wr.cell? ⟨g, k, none⟩ = some (.slice A (ls.getD k []).length cp) := by
            rw [(Hg.out.below Hb.out Hg.out.lt).cell, ← hA]; simp [List.getElem?_eq_getElem hlt]
          have Hsl := hide (hsl.keep Hb.out)
          have Hlen := hide (show (ls.take k).flatten.length + (ls.getD k []).length ≤ 1000000000 by have := Hl.out; omega)
          clear Hn hsl
          generalize ls.getD k [] = bs at *
          go_wp2_with (refine wpList_catF rfl (.tmp 31) (.tmp 32) rfl w.heap.size w _ _ bs A cp rfl rfl Hown.out Hsl.out Hlen.out Hb.out Hb.out.size ?_; intro v' w2 hown2 hb2 _)
          rw [← Hcat.out] at hown2
          exact ⟨⟨k + 1, _, rfl, by omega, by go_num, hown2, hb2⟩, by simp [intOf]; omega⟩
        · obtain rfl : k = vs.length := by omega
          go_wp2
          go_ret
          refine ⟨_, rfl, ?_, Hb.out⟩
          rw [← Ht.out]
          exact Hown.out
/-- a slice of files, cut -/
theorem fls_take {w : World} {A : Option Addr} {c : Nat} {L : List Fl} (h : Fls w A c L) (j : Nat) (hj : j ≤ L.length) : IsF w (.slice A j c) (L.take j) := by
  have e : (L.take j).length = j := by rw [List.length_take]; omega
  refine ⟨A, c, by rw [e], by have := h.1; omega, fun hn => ?_⟩
  obtain ⟨b, o, rfl, hlt, he⟩ := h.2 (by omega)
  refine ⟨b, o, rfl, hlt, fun k f hk => he k f ?_⟩
  have hkl := (List.getElem?_eq_some_iff.1 hk).1
  rw [← hk, List.getElem?_take, if_pos (by omega)]
theorem fls_drop {w : World} {A : Option Addr} {c : Nat} {L : List Fl} (h : Fls w A c L) (i : Nat) (hi : i ≤ L.length) : IsF w (.slice (if c = i then A else A.map (·.add (i * 2))) (L.length - i) (c - i)) (L.drop i) := by
  refine ⟨_, _, by rw [List.length_drop], by have := h.1; rw [List.length_drop]; omega, fun hn => ?_⟩
  rw [List.length_drop] at hn
  obtain ⟨b, o, rfl, hlt, he⟩ := h.2 (by omega)
  have := h.1
  rw [if_neg (by omega)]
  refine ⟨b, o + i * 2, by rw [Option.map_some, Addr.add_mid], hlt, fun k f hk => ?_⟩
  rw [List.getElem?_drop] at hk
  have := he (i + k) f hk
  rw [show o + 2 * (i + k) = o + i * 2 + 2 * k by omega] at this
  exact this
theorem run_cutF0 (w : World) (A : Option Addr) (n c j : Nat) (hA : ∀ a, A = some a → a.spot = none) (hj : j ≤ c) :
    (Instr.slice 39 (.slice A n c) none (some (.int .i64 (j : Int))) none).run Tryd.prog w = .ok (.slice A j c) w := by
  have hu := run_underlying Tryd.underlying39
  cases A with
  | none => go_simp
  | some ad =>
    obtain ⟨b, o, sp⟩ := ad
    obtain rfl : sp = none := hA _ rfl
    go_simp
theorem run_cutF1 (w : World) (A : Option Addr) (n c i : Nat) (hi : i ≤ n) (_hn : n ≤ c) :
    (Instr.slice 39 (.slice A n c) (some (.int .i64 (i : Int))) none none).run Tryd.prog w = .ok (.slice (if c = i then A else A.map (·.add (i * 2))) (n - i) (c - i)) w := by
  have hu := run_underlying Tryd.underlying39
  by_cases h : c = i
  · cases A with
    | none => go_simp
    | some ad => go_simp
  · cases A with
    | none => go_simp
    | some ad => go_simp
end Go.Proofs.YtabgkfkjnpcbkaaDoor.Tr
namespace Go.Proofs.YtabgkfkjnpcbkaaDoor.Tr
open Go Go.RowKit Kt Lw Li Lx Df

theorem run_cutF (w : World) (A : Option Addr) (n c j : Nat) (hj : j ≤ c) :
    (Instr.slice 39 (.slice A n c) none (some (.int .i64 (j : Int))) none).run Tryd.prog w = .ok (.slice A j c) w := by
  have hu := run_underlying Tryd.underlying39
  cases A with
  | none => go_simp
  | some ad =>
    have h0 : ad.add 0 = ad := rfl
    by_cases hc : c = 0
    · subst hc
      obtain rfl : j = 0 := by omega
      go_simp
    · go_simp
set_option maxRecDepth 100000 in
set_option maxHeartbeats 4000000 in
theorem tdrop_any (t : List Fl) (p : Bs) (A : Option Addr) (c : Nat) (w : World) (hs : Fls w A c t) (hn : t.length ≤ 1000000) {q : Option Bs} (hg : go q t = true) :
    Calls Tryd.prog 46 #[.slice A t.length c, .string ⟨p.toArray⟩] w fun y w' => ∃ v, y = .returned (.tuple #[v, .bool (decide ((drop t p).length < t.length))]) ∧ OwF w' w.heap.size v (drop t p) ∧ Below w.heap.size w w' := by
  have HP := hide (place_any t p A c w hs hn hg)
  have hd := drop_at (p := p) hg
  have hm := hit_mem (p := p) hg
  have hle := upto_le t p
  have hpu := pos_upto t p
  have Hdec := hide (show decide ((drop t p).length < t.length) = decide (pos t p < upto t p) by
    rw [decide_eq_decide]
    unfold upto
    split at hm
    · next h => rw [if_pos h]; omega
    · next h => rw [if_neg h]; omega)
  have hc1 := hs.1
  have Hs := hide hs
  rw [Hdec.out, hd]
  have hk : (t.take (pos t p)).length + (t.drop (upto t p)).length ≤ 1000000 := by rw [List.length_take, List.length_drop]; omega
  have HA := hide (fun w' (hb : Below w.heap.size w w') => fls_take (hs.keep hb) (pos t p) (by omega))
  have HB := hide (fun w' (hb : Below w.heap.size w w') => fls_drop (hs.keep hb) (upto t p) hle)
  obtain ⟨N, hN⟩ : ∃ N, N = t.length := ⟨_, rfl⟩
  rw [← hN] at HP HB hle hn hc1 ⊢
  clear hs hd hm Hdec hg hN Hs
  generalize t.take (pos t p) = X at *
  generalize t.drop (upto t p) = Y at *
  generalize pos t p = k at *
  generalize upto t p = u at *
  have hr0 := fun w => run_cutF w A N c k (by omega)
  have hr1 := fun w => run_cutF1 w A N c u hle hc1
  obtain ⟨A2, hA2⟩ : ∃ A2, (if c = u then A else A.map (·.add (u * 2))) = A2 := ⟨_, rfl⟩
  rw [hA2] at HB hr1
  have HC := hide (fun (g : Nat) (w' : World) (hb : Below w.heap.size w w') (hrow : Row w' g 39 [.slice A k c, .slice A2 (N - u) (c - u)]) =>
    concatF_any [X, Y] [.slice A k c, .slice A2 (N - u) (c - u)] g 2 w' rfl hrow (Nat.le_refl _) (by show 2 < 1000; omega) (fun j hj => by
      rcases j with _ | _ | j
      · exact HA.out w' hb
      · exact HB.out w' hb
      · simp at hj; omega) (by simp; omega))
  have e : ([X, Y] : List (List Fl)).flatten = X ++ Y := by simp
  rw [e] at HC
  clear hA2 HA HB e hk
  go_enter Tryd.func46, Tryd.ntmps46
  go_wp2_with fail
  refine HP.out.mono ?_
  rintro y w1 ⟨rfl, hb1⟩
  have Hb1 := hide hb1
  clear hb1 HP
  go_wp2
  refine Rg.wp_region_ord (fun _ => True) [(0, true), (1, true), (2, true), (3, true), (4, true), (5, true), (8, true), (9, true), (10, true), (6, false), (7, false), (11, true), (12, true)] (by kernel_rfl) (by kernel_rfl) ?_
  simp only [Rg.pick, List.map_cons, List.map_nil, List.getD_cons_zero, List.getD_cons_succ]
  iterate 9 (refine Rg.ord_quiet (v := ?_) rfl (fun w' hS => ?_) trivial ?_; rotate_left; (go_simp; with_reducible rfl); simp only [Act.put, List.setIfInBounds_toArray, List.set_cons_succ, List.set_cons_zero])
  have hrow := Row.fresh w1.drew 39 #[.slice A k c, .slice A2 (N - u) (c - u)]
  have Hb2 := hide (Hb1.out.drew.alloc Hb1.out.drew.size (.cells #[.slice A k c, .slice A2 (N - u) (c - u)] 39))
  refine Rg.ord_loud (by rfl) (fun K hK => ?_)
  go_simp
  refine hK _ _ (fun _ => trivial) ?_
  clear hK K
  refine Rg.ord_loud (by rfl) (fun K hK => ?_)
  go_simp
  refine (HC.out _ _ Hb2.out hrow).mono ?_
  rintro y w2 ⟨v, rfl, hown, hb2⟩
  have Hb3 := hide (Hb2.out.trans (hb2.mono Hb2.out.size))
  have Hown := hide (hown.base Hb2.out.size)
  refine hK _ _ (fun _ => trivial) ?_
  clear hK K hrow hb2 hown Hb2
  iterate 2 (refine Rg.ord_quiet (v := ?_) rfl (fun w' hS => ?_) trivial ?_; rotate_left; (go_simp; with_reducible rfl); simp only [Act.put, List.setIfInBounds_toArray, List.set_cons_succ, List.set_cons_zero])
  refine Rg.ord_nil ?_
  go_wp2
  go_ret2
  exact ⟨_, rfl, Hown.out, Hb3.out⟩
end Go.Proofs.YtabgkfkjnpcbkaaDoor.Tr
