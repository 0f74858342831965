/-
  trees: files joined (slices.Concat); a file's text, a tree with a file, and without one.
-/
import Derived.BigQuiet
import Derived.Lib.AppendZerosOnto
import Derived.Test.YtlplgkdoiinfhaaDoorQ7
namespace Go.Proofs.YtlplgkdoiinfhaaDoor.Tr
open Go Go.RowKit Kt Lw Li Lx Df

theorem flC_one (L : List Fl) : ∀ u ∈ L.flatMap flC, u.oneCell' = true := by
  intro u hu
  obtain ⟨f, hf, hu⟩ := List.mem_flatMap.1 hu
  simp only [flC, List.mem_cons, List.not_mem_nil, or_false] at hu
  rcases hu with rfl | rfl <;> rfl
set_option maxRecDepth 100000 in
/-- append(l, files..) onto a row of files of the call's own -/
theorem wp_catF {o : Oper} {a : Act} {K : Act → World → Prop} {Q : Exit → Act → World → Prop} {W : World} (s x : Operand)
    (ho : o.op = .call { callee := .builtin .append, args := #[s, x], argTypes := #[22, 22] })
    (B : Nat) (w0 : World) (v : Value) (L M : List Fl) (A : Option Addr) (c : Nat) (hs : a.eval s = v) (hx : a.eval x = .slice A M.length c)
    (hown : OwF W B v L) (hu : Fls W A c M) (hlen : L.length + M.length ≤ 1000000000) (hb : Below B w0 W) (hbase : B ≤ W.heap.size)
    (h : ∀ v' w', OwF w' B v' (L ++ M) → Below B w0 w' → W.grownBy w' v.ownBlock → K (a.put o.dst v') w') : o.wp Tryd.prog a W K Q := by
  obtain ⟨i0, hi0, hz0, hz1, hz2⟩ := info_parts infoFl
  cases A with
  | none =>
    have h0 : M = [] := by
      cases M with
      | nil => rfl
      | cons b r => obtain ⟨_, _, he, _⟩ := hu.2 (by simp); cases he
    subst h0
    have hrun := run_append_nothingT (P := Tryd.prog) (ty := o.type) Tryd.underlying22 hi0 hown c
    simp only [List.length_nil] at hx
    unfold Oper.wp execOp
    simp only [ho, resolve, invoke, builtin, Sem.run_bind, Sem.run_pure, Result.andThen_ok, List.map_toArray, List.map_cons, List.map_nil, hs, hx, hrun]
    exact h v W (by rw [List.append_nil]; exact hown) hb (World.grownBy.refl _ _)
  | some ad =>
    have hl2 : (M.flatMap flC).length = M.length * 2 := flat_len flC 2 flC_len M
    refine wp_append_own _ s x 22 ho B tF i0 (.agg #[.string ⟨#[]⟩, .string ⟨#[]⟩]) 2 32 Tryd.underlying22 hi0 hz0 hz1 hz2 rfl (by omega) v L.length (L.flatMap flC) hs hown
      ad M.length c (M.flatMap flC) hx hl2 (fun j u hj => ?_) (flC_one M) (by unfold maxLen; omega) (by omega) hbase (fun v' w' h1 h2 _ => ?_)
    · have hj2 : j < M.length * 2 := by have := (List.getElem?_eq_some_iff.1 hj).1; rwa [hl2] at this
      obtain ⟨b, k, he, _, hc⟩ := hu.2 (by omega)
      injection he with he
      subst he
      have hi : j / 2 < M.length := by omega
      have hk : j % 2 < 2 := Nat.mod_lt _ (by decide)
      have hf := flat_at flC 2 flC_len M (j / 2) (j % 2) _ (List.getElem?_eq_getElem hi) hk
      rw [show 2 * (j / 2) + j % 2 = j by omega, hj] at hf
      have := hc (j / 2) _ (List.getElem?_eq_getElem hi) (j % 2) u hf.symm
      rw [show (Addr.mk b k none).add j = ⟨b, k + 2 * (j / 2) + j % 2, none⟩ by rw [Addr.add_mid]; congr 1; omega]
      exact this
    · refine h v' w' ?_ (hb.grown h2 hbase fun k hk => (World.ownsRow.lt hown k hk).1) h2
      unfold OwF
      rw [List.flatMap_append, List.length_append]
      exact h1
theorem wpList_catF {ops : Array Oper} {rest : List Oper} {o : Oper} {a : Act} {Q : Exit → Act → World → Prop} {W : World} (hgd : o.guard = none) (s x : Operand)
    (ho : o.op = .call { callee := .builtin .append, args := #[s, x], argTypes := #[22, 22] })
    (B : Nat) (w0 : World) (v : Value) (L M : List Fl) (A : Option Addr) (c : Nat) (hs : a.eval s = v) (hx : a.eval x = .slice A M.length c)
    (hown : OwF W B v L) (hu : Fls W A c M) (hlen : L.length + M.length ≤ 1000000000) (hb : Below B w0 W) (hbase : B ≤ W.heap.size)
    (h : ∀ v' w', OwF w' B v' (L ++ M) → Below B w0 w' → W.grownBy w' v.ownBlock → wpList Tryd.prog ops Q rest (a.put o.dst v') w') : wpList Tryd.prog ops Q (o :: rest) a W :=
  wpList_plain hgd fun _ hK => wp_catF s x ho B w0 v L M A c hs hx hown hu hlen hb hbase fun v' w' h1 h2 h3 => hK _ _ (h v' w' h1 h2 h3)
/-- a slice that holds these files -/
def IsF (w : World) (v : Value) (L : List Fl) : Prop := ∃ A c, v = .slice A L.length c ∧ Fls w A c L
theorem IsF.below {w w' : World} {v : Value} {L : List Fl} (h : IsF w v L) (hb : Below w.heap.size w w') : IsF w' v L := by
  obtain ⟨A, c, rfl, hs⟩ := h
  exact ⟨A, c, rfl, hs.keep hb⟩
theorem IsF.one (w : World) (f : Fl) : IsF (w.alloc (.cells #[.string ⟨f.path.toArray⟩, .string ⟨f.text.toArray⟩] tF)) (.slice (some ⟨w.heap.size, 0, none⟩) 1 1) [f] :=
  ⟨_, _, rfl, Nat.le_refl _, fun _ => ⟨w.heap.size, 0, rfl, by simp, fun j e hj k u hk => by
    have hrow := Row.fresh w tF #[.string ⟨f.path.toArray⟩, .string ⟨f.text.toArray⟩]
    rcases j with _ | j
    · obtain rfl : f = e := Option.some.inj hj
      rw [hrow.cell]
      simp only [Nat.mul_zero, Nat.zero_add]
      exact hk
    · simp at hj⟩⟩
theorem OwF.made (w : World) (B : Nat) (E : TypeId) (hE : E = tF) (cs : Array Value) (cap : Nat) (hB : B ≤ w.heap.size) (hc : cs.size = cap * 2) (hm : cap ≤ maxLen) : OwF (w.alloc (.cells cs E)) B (.slice (some ⟨w.heap.size, 0, none⟩) 0 cap) [] := by
  subst hE
  exact World.ownsRow_made w cs cap hB hm (by omega)
set_option maxHeartbeats 1000000 in
set_option maxRecDepth 100000 in
theorem growF_nil (n : Nat) (w : World) (hn : n ≤ 1000000000) :
    Calls Tryd.prog 66 #[.slice none 0 0, .int .i64 n] w fun e w' => ∃ v, e = .returned v ∧ OwF w' w.heap.size v [] ∧ Below w.heap.size w w' := by
  by_cases h0 : n = 0
  · subst h0
    go_enter Tryd.func66, Tryd.ntmps66
    go_wp2
    go_ret
    exact ⟨_, rfl, OwF.nil _ _, Below.refl _ _⟩
  · obtain ⟨i0, hi, hz0, hz1, hz2⟩ := info_parts infoFl
    have hrz := fun ty => Lib.run_append_grow_zeros (P := Tryd.prog) w 22 3 ty 39 i0 (.agg #[.string ⟨#[]⟩, .string ⟨#[]⟩]) .i64 .i64 Tryd.underlying22 Tryd.underlying3 hi hz0 none 0 0 [] (run_firstCells_none w.drew i0.size 0 0 0) n (by omega) (by rw [hz1]; omega) (by omega) (by omega) (by rw [hz2]; omega)
      (by rw [hz2]; have := growslice_fits (need := 0 + n) (old := 0) (bytes := 32) (by omega) (by omega); simpa using this)
    have hG1 := grownCap_ge w (0 + n) 0 39
    have hG2 := grownCap_le_maxLen w (0 + n) 0 39 (by unfold maxLen; omega)
    obtain ⟨G, hG⟩ : ∃ G, G = grownCap w (0 + n) 0 39 := ⟨_, rfl⟩
    rw [← hG] at hrz hG1 hG2
    have hG3 := hG2
    unfold maxLen at hG3
    clear hG
    go_enter Tryd.func66, Tryd.ntmps66
    go_wp2_with (at_builtin; go_loud (refine Lib.wpList_append_run _ rfl _ _ _ _ rfl _ _ rfl rfl _ _ (hrz _) ?_))
    go_ret
    refine ⟨_, rfl, OwF.drew (OwF.made w w.heap.size 39 rfl _ G (Nat.le_refl _) ?_ hG2), ((Below.refl _ _).alloc (Nat.le_refl _) _).drew⟩
    simp [Builtin.zeroCells]
    omega
theorem catF_take (ls : List (List Fl)) (k : Nat) (h : k < ls.length) : (ls.take (k + 1)).flatten = (ls.take k).flatten ++ ls.getD k [] := by
  rw [List.take_succ_eq_append_getElem h, List.flatten_append]
  simp [List.getElem?_eq_getElem h]
theorem catF_len (ls : List (List Fl)) (k : Nat) : (ls.take k).flatten.length ≤ ls.flatten.length := by
  have e : ls.flatten = (ls.take k).flatten ++ (ls.drop k).flatten := by rw [← List.flatten_append, List.take_append_drop]
  rw [e, List.length_append]
  omega
set_option maxHeartbeats 2000000 in
set_option maxRecDepth 100000 in
theorem concatF_any (ls : List (List Fl)) (vs : List Value) (g c : Nat) (w : World) (hv : vs.length = ls.length) (hg : Row w g 22 vs) (hc : vs.length ≤ c) (hm : vs.length < 1000)
    (hs : ∀ k, k < ls.length → IsF w (vs.getD k (.bool false)) (ls.getD k [])) (hl : ls.flatten.length ≤ 100000000) :
    Calls Tryd.prog 46 #[.slice (some ⟨g, 0, none⟩) vs.length c] w fun e w' => ∃ v, e = .returned v ∧ OwF w' w.heap.size v ls.flatten ∧ Below w.heap.size w w' := by
  have Hs := hide hs
  have Hl := hide hl
  have Hg := hide hg
  have Hv := hide hv
  have Hc := hide hc
  clear hs hl hg hv hc
  go_enter Tryd.func46, Tryd.ntmps46
  go_wp2
  go_loopw [3, 11] (fun s i wr => ∃ k : Nat, k ≤ vs.length ∧ i = .int .i64 k ∧ s = .int .i64 ((ls.take k).flatten.length : Nat) ∧ w = wr) (fun _ i _ => vs.length - (intOf i).toNat)
  case atStart => exact ⟨0, Nat.zero_le _, rfl, rfl, rfl⟩
  case round =>
    obtain ⟨k, hk, rfl, rfl, rfl⟩ := hrel
    by_cases hlt : k < vs.length
    · have hkl : k < ls.length := by rw [← Hv.out]; exact hlt
      obtain ⟨A, cp, hA, hsl⟩ := Hs.out k hkl
      have Hn := hide (congrArg List.length (catF_take ls k hkl))
      have hb1 := catF_len ls (k + 1)
      rw [Hn.out, List.length_append] at hb1
      have hcell : w.cell? ⟨g, k, none⟩ = some (.slice A (ls.getD k []).length cp) := by
        rw [Hg.out.cell, ← hA]; simp [List.getElem?_eq_getElem hlt]
      have Hsum := hide (Hn.out.trans List.length_append)
      clear Hn hsl
      have hb2 := Hl.out
      generalize (ls.getD k []).length = m at *
      generalize (ls.take k).flatten.length = q at *
      generalize ls.flatten.length = tot at *
      go_wp2
      refine ⟨⟨k + 1, by omega, by go_num, ?_, trivial⟩, ?_⟩
      · rw [Hsum.out]; go_num
      · simp [intOf]; omega
    · obtain rfl : k = vs.length := by omega
      have e1 : ls.take vs.length = ls := List.take_of_length_le (by rw [Hv.out]; exact Nat.le_refl _)
      rw [e1]
      have hb2 := Hl.out
      have Ht := hide (show (ls.take vs.length).flatten = ls.flatten by rw [e1])
      generalize hF : ls.flatten.length = tot at hb2
      have HF := hide hF
      clear hF e1
      go_wp2_with (go_at_call 66; go_loud (refine (growF_nil _ _ (by omega)).mono ?_; rintro e w1 ⟨v1, rfl, hown1, hb1⟩))
      go_loopw [6, 27] (fun s i wx => ∃ (k : Nat) (s0 : Value), s0 = s ∧ k ≤ vs.length ∧ i = .int .i64 k ∧ OwF wx w.heap.size s0 (ls.take k).flatten ∧ Below w.heap.size w wx) (fun _ i _ => vs.length - (intOf i).toNat)
      case atStart => exact ⟨0, _, rfl, Nat.zero_le _, rfl, hown1, hb1⟩
      case round =>
        clear hown1 hb1
        obtain ⟨k, s, rfl, hk, rfl, hown, hb⟩ := hrel
        have Hown := hide hown
        have Hb := hide hb
        clear hown hb
        by_cases hlt : k < vs.length
        · have hkl : k < ls.length := by rw [← Hv.out]; exact hlt
          obtain ⟨A, cp, hA, hsl⟩ := Hs.out k hkl
          have Hcat := hide (catF_take ls k hkl)
          have Hn := hide (congrArg List.length (catF_take ls k hkl))
          have hb1 := catF_len ls (k + 1)
          rw [Hn.out, List.length_append] at hb1
          have hcell : wr.cell? ⟨g, k, none⟩ = some (.slice A (ls.getD k []).length cp) := by
            rw [(Hg.out.below Hb.out Hg.out.lt).cell, ← hA]; simp [List.getElem?_eq_getElem hlt]
          have Hsl := hide (hsl.keep Hb.out)
          have Hlen := hide (show (ls.take k).flatten.length + (ls.getD k []).length ≤ 1000000000 by have := Hl.out; omega)
          clear Hn hsl
          generalize ls.getD k [] = bs at *
          go_wp2_with (refine wpList_catF rfl (.tmp 31) (.tmp 32) rfl w.heap.size w _ _ bs A cp rfl rfl Hown.out Hsl.out Hlen.out Hb.out Hb.out.size ?_; intro v' w2 hown2 hb2 _)
          rw [← Hcat.out] at hown2
          exact ⟨⟨k + 1, _, rfl, by omega, by go_num, hown2, hb2⟩, by simp [intOf]; omega⟩
        · obtain rfl : k = vs.length := by omega
          go_wp2
          go_ret
          refine ⟨_, rfl, ?_, Hb.out⟩
          rw [← Ht.out]
          exact Hown.out
/-- a slice of files, cut -/
theorem fls_take {w : World} {A : Option Addr} {c : Nat} {L : List Fl} (h : Fls w A c L) (j : Nat) (hj : j ≤ L.length) : IsF w (.slice A j c) (L.take j) := by
  have e : (L.take j).length = j := by rw [List.length_take]; omega
  refine ⟨A, c, by rw [e], by have := h.1; omega, fun hn => ?_⟩
  obtain ⟨b, o, rfl, hlt, he⟩ := h.2 (by omega)
  refine ⟨b, o, rfl, hlt, fun k f hk => he k f ?_⟩
  have hkl := (List.getElem?_eq_some_iff.1 hk).1
  rw [← hk, List.getElem?_take, if_pos (by omega)]
theorem fls_drop {w : World} {A : Option Addr} {c : Nat} {L : List Fl} (h : Fls w A c L) (i : Nat) (hi : i ≤ L.length) : IsF w (.slice (if c = i then A else A.map (·.add (i * 2))) (L.length - i) (c - i)) (L.drop i) := by
  refine ⟨_, _, by rw [List.length_drop], by have := h.1; rw [List.length_drop]; omega, fun hn => ?_⟩
  rw [List.length_drop] at hn
  obtain ⟨b, o, rfl, hlt, he⟩ := h.2 (by omega)
  have := h.1
  rw [if_neg (by omega)]
  refine ⟨b, o + i * 2, by rw [Option.map_some, Addr.add_mid], hlt, fun k f hk => ?_⟩
  rw [List.getElem?_drop] at hk
  have := he (i + k) f hk
  rw [show o + 2 * (i + k) = o + i * 2 + 2 * k by omega] at this
  exact this
theorem run_cutF0 (w : World) (A : Option Addr) (n c j : Nat) (hA : ∀ a, A = some a → a.spot = none) (hj : j ≤ c) :
    (Instr.slice 22 (.slice A n c) none (some (.int .i64 (j : Int))) none).run Tryd.prog w = .ok (.slice A j c) w := by
  have hu := run_underlying Tryd.underlying22
  cases A with
  | none => go_simp
  | some ad =>
    obtain ⟨b, o, sp⟩ := ad
    obtain rfl : sp = none := hA _ rfl
    go_simp
theorem run_cutF1 (w : World) (A : Option Addr) (n c i : Nat) (hi : i ≤ n) (_hn : n ≤ c) :
    (Instr.slice 22 (.slice A n c) (some (.int .i64 (i : Int))) none none).run Tryd.prog w = .ok (.slice (if c = i then A else A.map (·.add (i * 2))) (n - i) (c - i)) w := by
  have hu := run_underlying Tryd.underlying22
  by_cases h : c = i
  · cases A with
    | none => go_simp
    | some ad => go_simp
  · cases A with
    | none => go_simp
    | some ad => go_simp
end Go.Proofs.YtlplgkdoiinfhaaDoor.Tr
namespace Go.Proofs.YtlplgkdoiinfhaaDoor.Tr
open Go Go.RowKit Kt Lw Li Lx Df

theorem run_cutF (w : World) (A : Option Addr) (n c j : Nat) (hj : j ≤ c) :
    (Instr.slice 22 (.slice A n c) none (some (.int .i64 (j : Int))) none).run Tryd.prog w = .ok (.slice A j c) w := by
  have hu := run_underlying Tryd.underlying22
  cases A with
  | none => go_simp
  | some ad =>
    have h0 : ad.add 0 = ad := rfl
    by_cases hc : c = 0
    · subst hc
      obtain rfl : j = 0 := by omega
      go_simp
    · go_simp
set_option maxRecDepth 100000 in
set_option maxHeartbeats 4000000 in
theorem tget_any (t : List Fl) (p : Bs) (A : Option Addr) (c : Nat) (w : World) (hs : Fls w A c t) (hn : t.length ≤ 1000000) {q : Option Bs} (hg : go q t = true) :
    Calls Tryd.prog 24 #[.slice A t.length c, .string ⟨p.toArray⟩] w fun y w' => y = .returned (.tuple #[.string ⟨(get t p).1.toArray⟩, .bool (get t p).2]) ∧ Below w.heap.size w w' := by
  have HP := hide (place_any t p A c w hs hn hg)
  obtain ⟨g1, g2⟩ := got_at (p := p) hg
  have hpos := hit_pos t p
  have Hs := hide hs
  have hu : upto t p = if hit t p then pos t p + 1 else pos t p := rfl
  obtain ⟨N, hN⟩ : ∃ N, N = t.length := ⟨_, rfl⟩
  have HN := hide hN
  rw [← hN] at HP hn hpos ⊢
  clear hs hN hg
  cases hh : hit t p with
  | true =>
    have hk := hpos hh
    have g3 := fun g hg => g2 g hg hh
    rw [hh, if_pos rfl] at hu
    rw [hu] at HP
    clear g1 g2 hpos hu hh
    generalize pos t p = k at *
    obtain ⟨b, o, f, rfl, hbl, hf, hd, _, _⟩ := Hs.out.at (w' := w) (Below.refl _ _) (k := k) (by have := HN.out; omega)
    have HG := hide (g3 f hf)
    have HD := hide (fun w' (hb : Below w.heap.size w w') => show w'.cell? ⟨b, o + k * 2 + 1, none⟩ = some (.string ⟨f.text.toArray⟩) by
      obtain ⟨b', o', f', e, _, hf', _, _, d1⟩ := Hs.out.at hb (k := k) (by have := HN.out; omega)
      injection e with e
      injection e with e1 e2 e3
      subst e1 e2
      rw [hf] at hf'
      obtain rfl := Option.some.inj hf'
      exact d1)
    obtain ⟨x, hx⟩ : ∃ x, x = f.text := ⟨_, rfl⟩
    rw [← hx] at HG HD
    have hkn : ¬ (k : Int) = ((k + 1 : Nat) : Int) := by omega
    clear g3 hf hd hx hbl
    go_enter Tryd.func24, Tryd.ntmps24
    go_wp2_with fail
    refine HP.out.mono ?_
    rintro y w1 ⟨rfl, hb1⟩
    have d1 := HD.out w1 hb1
    have Hb1 := hide hb1
    clear hb1 HP HD
    go_wp2
    go_ret2
    exact ⟨by rw [HG.out]; rfl, Hb1.out⟩
  | false =>
    have HG := hide (g1 hh)
    rw [hh, if_neg (by decide)] at hu
    rw [hu] at HP
    clear g1 g2 hpos hu hh
    generalize pos t p = k at *
    go_enter Tryd.func24, Tryd.ntmps24
    go_wp2_with fail
    refine HP.out.mono ?_
    rintro y w1 ⟨rfl, hb1⟩
    have Hb1 := hide hb1
    clear hb1 HP
    go_wp2
    go_ret2
    exact ⟨by rw [HG.out]; rfl, Hb1.out⟩
set_option maxRecDepth 100000 in
set_option maxHeartbeats 4000000 in
theorem tdrop_any (t : List Fl) (p : Bs) (A : Option Addr) (c : Nat) (w : World) (hs : Fls w A c t) (hn : t.length ≤ 1000000) {q : Option Bs} (hg : go q t = true) :
    Calls Tryd.prog 28 #[.slice A t.length c, .string ⟨p.toArray⟩] w fun y w' => ∃ v, y = .returned (.tuple #[v, .bool (decide ((drop t p).length < t.length))]) ∧ OwF w' w.heap.size v (drop t p) ∧ Below w.heap.size w w' := by
  have HP := hide (place_any t p A c w hs hn hg)
  have hd := drop_at (p := p) hg
  have hm := hit_mem (p := p) hg
  have hle := upto_le t p
  have hpu := pos_upto t p
  have Hdec := hide (show decide ((drop t p).length < t.length) = decide (pos t p < upto t p) by
    rw [decide_eq_decide]
    unfold upto
    split at hm
    · next h => rw [if_pos h]; omega
    · next h => rw [if_neg h]; omega)
  have hc1 := hs.1
  have Hs := hide hs
  rw [Hdec.out, hd]
  have hk : (t.take (pos t p)).length + (t.drop (upto t p)).length ≤ 1000000 := by rw [List.length_take, List.length_drop]; omega
  have HA := hide (fun w' (hb : Below w.heap.size w w') => fls_take (hs.keep hb) (pos t p) (by omega))
  have HB := hide (fun w' (hb : Below w.heap.size w w') => fls_drop (hs.keep hb) (upto t p) hle)
  obtain ⟨N, hN⟩ : ∃ N, N = t.length := ⟨_, rfl⟩
  rw [← hN] at HP HB hle hn hc1 ⊢
  clear hs hd hm Hdec hg hN Hs
  generalize t.take (pos t p) = X at *
  generalize t.drop (upto t p) = Y at *
  generalize pos t p = k at *
  generalize upto t p = u at *
  have hr0 := fun w => run_cutF w A N c k (by omega)
  have hr1 := fun w => run_cutF1 w A N c u hle hc1
  obtain ⟨A2, hA2⟩ : ∃ A2, (if c = u then A else A.map (·.add (u * 2))) = A2 := ⟨_, rfl⟩
  rw [hA2] at HB hr1
  have HC := hide (fun (g : Nat) (w' : World) (hb : Below w.heap.size w w') (hrow : Row w' g 22 [.slice A k c, .slice A2 (N - u) (c - u)]) =>
    concatF_any [X, Y] [.slice A k c, .slice A2 (N - u) (c - u)] g 2 w' rfl hrow (Nat.le_refl _) (by show 2 < 1000; omega) (fun j hj => by
      rcases j with _ | _ | j
      · exact HA.out w' hb
      · exact HB.out w' hb
      · simp at hj; omega) (by simp; omega))
  have e : ([X, Y] : List (List Fl)).flatten = X ++ Y := by simp
  rw [e] at HC
  clear hA2 HA HB e hk
  go_enter Tryd.func28, Tryd.ntmps28
  go_wp2_with fail
  refine HP.out.mono ?_
  rintro y w1 ⟨rfl, hb1⟩
  have Hb1 := hide hb1
  clear hb1 HP
  go_wp2
  refine Rg.wp_region_ord (fun _ => True) [(0, true), (1, true), (2, true), (3, true), (4, true), (5, true), (8, true), (9, true), (10, true), (6, false), (7, false), (11, true), (12, true)] (by kernel_rfl) (by kernel_rfl) ?_
  simp only [Rg.pick, List.map_cons, List.map_nil, List.getD_cons_zero, List.getD_cons_succ]
  iterate 9 (refine Rg.ord_quiet (v := ?_) rfl (fun w' hS => ?_) trivial ?_; rotate_left; (go_simp; with_reducible rfl); simp only [Act.put, List.setIfInBounds_toArray, List.set_cons_succ, List.set_cons_zero])
  have hrow := Row.fresh w1.drew 22 #[.slice A k c, .slice A2 (N - u) (c - u)]
  have Hb2 := hide (Hb1.out.drew.alloc Hb1.out.drew.size (.cells #[.slice A k c, .slice A2 (N - u) (c - u)] 22))
  refine Rg.ord_loud (by rfl) (fun K hK => ?_)
  go_simp
  refine hK _ _ (fun _ => trivial) ?_
  clear hK K
  refine Rg.ord_loud (by rfl) (fun K hK => ?_)
  go_simp
  refine (HC.out _ _ Hb2.out hrow).mono ?_
  rintro y w2 ⟨v, rfl, hown, hb2⟩
  have Hb3 := hide (Hb2.out.trans (hb2.mono Hb2.out.size))
  have Hown := hide (hown.base Hb2.out.size)
  refine hK _ _ (fun _ => trivial) ?_
  clear hK K hrow hb2 hown Hb2
  iterate 2 (refine Rg.ord_quiet (v := ?_) rfl (fun w' hS => ?_) trivial ?_; rotate_left; (go_simp; with_reducible rfl); simp only [Act.put, List.setIfInBounds_toArray, List.set_cons_succ, List.set_cons_zero])
  refine Rg.ord_nil ?_
  go_wp2
  go_ret2
  exact ⟨_, rfl, Hown.out, Hb3.out⟩
end Go.Proofs.YtlplgkdoiinfhaaDoor.Tr
namespace Go.Proofs.YtlplgkdoiinfhaaDoor.Tr
open Go Go.RowKit Kt Lw Li Lx Df

set_option maxRecDepth 100000 in
set_option maxHeartbeats 4000000 in
theorem tput_any (t : List Fl) (f : Fl) (A : Option Addr) (c : Nat) (w : World) (hs : Fls w A c t) (hE : Most w) (hn : t.length ≤ 1000000) (hf : f.path.length ≤ 9223372036854775807) {q : Option Bs} (hg : go q t = true) :
    Calls Tryd.prog 26 #[.slice A t.length c, .agg #[.string ⟨f.path.toArray⟩, .string ⟨f.text.toArray⟩]] w fun y w' => ∃ v, y = .returned (.tuple #[v, .int .i64 ((put t f).2 : Nat)]) ∧ OwF w' w.heap.size v (put t f).1 ∧ Below w.heap.size w w' := by
  obtain ⟨p, x⟩ := f
  have hrow := Row.fresh w tF #[.string ⟨p.toArray⟩, .string ⟨x.toArray⟩]
  have hb1 := (Below.refl w.heap.size w).alloc (Nat.le_refl _) (.cells #[.string ⟨p.toArray⟩, .string ⟨x.toArray⟩] tF)
  have HPath := hide (fun w (hE : Most w) => path_any p w hE hf)
  obtain ⟨w1, hw1⟩ : ∃ w1, w1 = w.alloc (.cells #[.string ⟨p.toArray⟩, .string ⟨x.toArray⟩] tF) := ⟨_, rfl⟩
  obtain ⟨g, hgw⟩ : ∃ g, g = w.heap.size := ⟨_, rfl⟩
  rw [← hw1] at hrow hb1
  rw [← hgw] at hrow
  have c0 : w1.cell? ⟨g, 0, none⟩ = some (.string ⟨p.toArray⟩) := hrow.cell 0
  have c1 : w1.cell? ⟨g, 1, none⟩ = some (.string ⟨x.toArray⟩) := hrow.cell 1
  have HE1 := hide (hE.keep hb1)
  have HP := hide (fun w' (hb : Below w.heap.size w w') => place_any t p A c w' (hs.keep hb) hn hg)
  have hd := congrArg List.length (drop_at (p := p) hg)
  rw [List.length_append, List.length_take, List.length_drop] at hd
  have hle := upto_le t p
  have hpu := pos_upto t p
  have hpt := put_at p x hg
  have Hput := hide (show put t ⟨p, x⟩ = if can p = false then ([], 7) else if 65536 < x.length ∨ 1000 ≤ (drop t p).length then ([], 4) else (ins ⟨p, x⟩ (drop t p), 0) from rfl)
  rw [hpt] at Hput
  have hc1 := hs.1
  have hk : (t.take (pos t p)).length + (t.drop (upto t p)).length ≤ 1000000 := by rw [List.length_take, List.length_drop]; omega
  have HA := hide (fun w' (hb : Below w.heap.size w w') => fls_take (hs.keep hb) (pos t p) (by omega))
  have HB := hide (fun w' (hb : Below w.heap.size w w') => fls_drop (hs.keep hb) (upto t p) hle)
  obtain ⟨N, hN⟩ : ∃ N, N = t.length := ⟨_, rfl⟩
  rw [← hN] at HP HB hle hn hc1 hd ⊢
  obtain ⟨D, hD⟩ : ∃ D, D = (drop t p).length := ⟨_, rfl⟩
  rw [← hD] at hd Hput
  have Hb1 := hide hb1
  have W1 := hide hw1
  have G1 := hide hgw
  generalize put t ⟨p, x⟩ = R at *
  clear hs hpt hg hN hE hf hD hrow hb1 hw1 hgw
  generalize t.take (pos t p) = X at *
  generalize t.drop (upto t p) = Y at *
  generalize pos t p = k at *
  generalize upto t p = u at *
  have hr0 := fun w => run_cutF w A N c k (by omega)
  have hr1 := fun w => run_cutF1 w A N c u hle hc1
  obtain ⟨A2, hA2⟩ : ∃ A2, (if c = u then A else A.map (·.add (u * 2))) = A2 := ⟨_, rfl⟩
  rw [hA2] at HB hr1
  have HC := hide (fun (g h : Nat) (w' : World) (hb : Below w.heap.size w w') (hone : IsF w' (.slice (some ⟨h, 0, none⟩) 1 1) [⟨p, x⟩]) (hrow : Row w' g 22 [.slice A k c, .slice (some ⟨h, 0, none⟩) 1 1, .slice A2 (N - u) (c - u)]) =>
    concatF_any [X, [⟨p, x⟩], Y] [.slice A k c, .slice (some ⟨h, 0, none⟩) 1 1, .slice A2 (N - u) (c - u)] g 3 w' rfl hrow (Nat.le_refl _) (by show 3 < 1000; omega) (fun j hj => by
      rcases j with _ | _ | _ | j
      · exact HA.out w' hb
      · exact hone
      · exact HB.out w' hb
      · simp at hj; omega) (by simp; omega))
  have e : ([X, [⟨p, x⟩], Y] : List (List Fl)).flatten = X ++ ⟨p, x⟩ :: Y := by simp
  rw [e] at HC
  have Hr0 := hide hr0
  have Hr1 := hide hr1
  clear hA2 HA HB e hk hr0 hr1
  go_enter Tryd.func26, Tryd.ntmps26
  go_wp2_with fail
  rw [← W1.out, ← G1.out]
  cases hc : can p with
  | false =>
    rw [hc, if_pos rfl] at Hput
    rw [hc] at HPath
    clear hc HP
    refine (HPath.out _ HE1.out).mono ?_
    rintro y w2 ⟨rfl, hb2⟩
    have Hb2 := hide (Hb1.out.trans (hb2.mono Hb1.out.size))
    clear hb2
    go_wp2
    go_ret2
    exact ⟨_, by rw [Hput.out]; rfl, by rw [Hput.out]; exact OwF.nil _ _, Hb2.out⟩
  | true =>
    rw [hc, if_neg (by decide)] at Hput
    rw [hc] at HPath
    clear hc
    refine (HPath.out _ HE1.out).mono ?_
    rintro y w2 ⟨rfl, hb2⟩
    have a0 := agr c0 hb2
    have a1 := agr c1 hb2
    have Hb2 := hide (Hb1.out.trans (hb2.mono Hb1.out.size))
    clear hb2 c0 c1 HPath HE1
    go_wp2_with fail
    refine (HP.out _ Hb2.out).mono ?_
    rintro y w3 ⟨rfl, hb3⟩
    have b0 := agr a0 hb3
    have b1 := agr a1 hb3
    have Hb3 := hide (Hb2.out.trans (hb3.mono Hb2.out.size))
    clear hb3 a0 a1 HP Hb2 Hb1
    by_cases hx : 65536 < x.length
    · rw [if_pos (.inl hx)] at Hput
      have d1 : decide (65536 < (x.length : Int)) = true := decide_eq_true (by omega)
      have d2 : decide (65536 < x.length) = true := decide_eq_true hx
      clear hx hd
      go_wp2
      go_ret2
      exact ⟨_, by rw [Hput.out]; rfl, by rw [Hput.out]; exact OwF.nil _ _, Hb3.out⟩
    · have d1 : decide (65536 < (x.length : Int)) = false := decide_eq_false (by omega)
      have d2 : decide (65536 < x.length) = false := decide_eq_false hx
      have i1 : IntKind.i64.wrap ((u : Int) - (k : Int)) = ((u - k : Nat) : Int) := by rw [IntWalk.i64_in _ (by omega)]; omega
      have i2 : IntKind.i64.wrap ((N : Int) - ((u - k : Nat) : Int)) = ((D : Nat) : Int) := by rw [IntWalk.i64_in _ (by omega)]; omega
      have i3 : IntKind.i64.wrap ((D : Int) + 1) = ((D + 1 : Nat) : Int) := by rw [IntWalk.i64_in _ (by omega)]; omega
      by_cases hM : 1000 ≤ D
      · rw [if_pos (.inr hM)] at Hput
        have d3 : decide (1000 < (D : Int) + 1) = true := decide_eq_true (by omega)
        have d4 : decide (1000 < D + 1) = true := decide_eq_true (by omega)
        clear hx hM hd
        go_wp2
        go_ret2
        exact ⟨_, by rw [Hput.out]; rfl, by rw [Hput.out]; exact OwF.nil _ _, Hb3.out⟩
      · have d3 : decide (1000 < (D : Int) + 1) = false := decide_eq_false (by omega)
        have d4 : decide (1000 < D + 1) = false := decide_eq_false (by omega)
        rw [if_neg (by omega)] at Hput
        clear hx hM hd
        go_wp2
        clear d1 d2 d3 d4 i1 i2 i3
        have e0 : w3.drew.cell? ⟨g, 0, none⟩ = some (.string ⟨p.toArray⟩) := b0
        have e1 : w3.drew.cell? ⟨g, 1, none⟩ = some (.string ⟨x.toArray⟩) := b1
        refine Rg.wp_region_ord (fun w' => w'.cell? ⟨g, 0, none⟩ = some (.string ⟨p.toArray⟩) ∧ w'.cell? ⟨g, 1, none⟩ = some (.string ⟨x.toArray⟩)) [(0, true), (1, true), (2, true), (3, true), (5, true), (6, true), (7, true), (4, false), (8, false), (9, false), (10, true), (11, true)] (by kernel_rfl) (by kernel_rfl) ?_
        simp only [Rg.pick, List.map_cons, List.map_nil, List.getD_cons_zero, List.getD_cons_succ]
        have Hbd : Hid (Below w.heap.size w w3.drew) := hide Hb3.out.drew
        clear b0 b1
        generalize w3.drew = wd at *
        have hr0 := Hr0.out
        have hr1 := Hr1.out
        iterate 7 (refine Rg.ord_quiet (v := ?_) rfl (fun w' hS => ?_) ⟨e0, e1⟩ ?_; rotate_left; (obtain ⟨q0, q1⟩ := hS; go_simp; with_reducible rfl); simp only [Act.put, List.setIfInBounds_toArray, List.set_cons_succ, List.set_cons_zero])
        clear hr0 hr1
        have hone := IsF.one wd ⟨p, x⟩
        simp only at hone
        have ho1 := (Below.refl wd.heap.size wd).alloc (Nat.le_refl _) (.cells #[.string ⟨p.toArray⟩, .string ⟨x.toArray⟩] tF)
        have f0 := agr e0 ho1
        have f1 := agr e1 ho1
        have Hb4 := hide (Hbd.out.alloc Hbd.out.size (.cells #[.string ⟨p.toArray⟩, .string ⟨x.toArray⟩] tF))
        obtain ⟨w4, hw4⟩ : ∃ w4, w4 = wd.alloc (.cells #[.string ⟨p.toArray⟩, .string ⟨x.toArray⟩] tF) := ⟨_, rfl⟩
        obtain ⟨h4, hh4⟩ : ∃ h4, h4 = wd.heap.size := ⟨_, rfl⟩
        rw [← hw4] at hone f0 f1 Hb4
        rw [← hh4] at hone
        have Hone := hide hone
        have W4 := hide hw4
        have H4 := hide hh4
        clear hone ho1 hw4 hh4
        refine Rg.ord_loud (by rfl) (fun K hK => ?_)
        go_simp
        rw [← W4.out, ← H4.out]
        refine hK _ _ (fun _ => ⟨f0, f1⟩) ?_
        clear hK K e0 e1
        have hrow := Row.fresh w4 22 #[.slice A k c, .slice (some ⟨h4, 0, none⟩) 1 1, .slice A2 (N - u) (c - u)]
        have ho2 := (Below.refl w4.heap.size w4).alloc (Nat.le_refl _) (.cells #[.slice A k c, .slice (some ⟨h4, 0, none⟩) 1 1, .slice A2 (N - u) (c - u)] 22)
        have g0 := agr f0 ho2
        have g1 := agr f1 ho2
        have Hone2 := hide (Hone.out.below ho2)
        have Hb5 := hide (Hb4.out.alloc Hb4.out.size (.cells #[.slice A k c, .slice (some ⟨h4, 0, none⟩) 1 1, .slice A2 (N - u) (c - u)] 22))
        have HC2 := hide (HC.out _ _ _ Hb5.out Hone2.out hrow)
        refine Rg.ord_loud (by rfl) (fun K hK => ?_)
        go_simp
        refine hK _ _ (fun _ => ⟨g0, g1⟩) ?_
        clear hK K f0 f1 ho2 hrow
        refine Rg.ord_loud (by rfl) (fun K hK => ?_)
        go_simp
        refine HC2.out.mono ?_
        rintro y w6 ⟨v, rfl, hown, hb6⟩
        have Hb6 := hide (Hb5.out.trans (hb6.mono Hb5.out.size))
        have Hown := hide (hown.base Hb5.out.size)
        have k0 := agr g0 hb6
        have k1 := agr g1 hb6
        refine hK _ _ (fun _ => ⟨k0, k1⟩) ?_
        clear hK K hb6 hown g0 g1
        iterate 2 (refine Rg.ord_quiet (v := ?_) rfl (fun w' hS => ?_) ⟨k0, k1⟩ ?_; rotate_left; (go_simp; with_reducible rfl); simp only [Act.put, List.setIfInBounds_toArray, List.set_cons_succ, List.set_cons_zero])
        refine Rg.ord_nil ?_
        clear k0 k1
        go_wp2
        go_ret2
        exact ⟨_, by rw [Hput.out]; rfl, by rw [Hput.out]; exact Hown.out, Hb6.out⟩
end Go.Proofs.YtlplgkdoiinfhaaDoor.Tr
