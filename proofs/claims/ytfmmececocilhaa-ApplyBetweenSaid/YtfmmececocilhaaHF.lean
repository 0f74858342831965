/-
  Rows of parts; hunk.parts.
-/
import Derived.Test.YtfmmececocilhaaHE
namespace Go.Proofs.Ytfmmececocilhaa.Hu
open Go Go.RowKit Kt Lw Li Df

abbrev tP : TypeId := 66
/-- these cells are a part: three slices of texts, signs and all -/
def PtC (w : World) (P : Nat → Prop) (p : Pt) (cs : List Value) : Prop :=
  ∃ A1 c1 A2 c2 A3 c3, cs = [.slice A1 p.st.length c1, .slice A2 p.gn.length c2, .slice A3 p.cm.length c3] ∧ Vs w P A1 c1 (texts (mk 32 p.st)) ∧ Vs w P A2 c2 (texts (mk 45 p.gn)) ∧ Vs w P A3 c3 (texts (mk 43 p.cm))
/-- parts in a row of the call's own; what they show lies in the world w0 -/
def OwP (w0 : World) (P : Nat → Prop) (w : World) (B : Nat) (v : Value) (ps : List Pt) : Prop :=
  ∃ V : List (Pt × List Value), V.map (·.1) = ps ∧ w.ownsRow B tP 3 v ps.length (V.flatMap (·.2)) ∧ ∀ p ∈ V, PtC w0 P p.1 p.2
theorem OwP.nil (w0 : World) (P : Nat → Prop) (w : World) (B : Nat) : OwP w0 P w B (.slice none 0 0) [] := ⟨[], rfl, World.ownsRow_nil _ _ _ _, fun p h => by cases h⟩
theorem OwP.keep {w0 w w' : World} {P : Nat → Prop} {B : Nat} {v : Value} {ps : List Pt} (h : OwP w0 P w B v ps) (hb : Below w.heap.size w w') : OwP w0 P w' B v ps := by
  obtain ⟨V, hV, hr, hi⟩ := h
  refine ⟨V, hV, ⟨hr.1, ?_⟩, hi⟩
  rcases hr.2 with ⟨h1, h2⟩ | ⟨g, cap, cur, hv', h1, h2, h3⟩
  · exact .inl ⟨h1, h2⟩
  · exact .inr ⟨g, cap, cur, hv', h1, (hb.block g (Array.getElem?_eq_some_iff.1 h2).1).trans h2, h3⟩
theorem OwP.put {w0 w : World} {P : Nat → Prop} {B : Nat} {v : Value} {ps : List Pt} (h : OwP w0 P w B v ps) {g i : Nat} {cs : List Value} (_hrow : Row w g tP cs) (hg : ∀ b, v.ownBlock = some b → b ≠ g) (u : Value) : OwP w0 P (w.setCell ⟨g, i, none⟩ u) B v ps := by
  obtain ⟨V, hV, hr, hi⟩ := h
  refine ⟨V, hV, ⟨hr.1, ?_⟩, hi⟩
  rcases hr.2 with ⟨h1, h2⟩ | ⟨g', cap, cur, hv', h1, h2, h3⟩
  · exact .inl ⟨h1, h2⟩
  · exact .inr ⟨g', cap, cur, hv', h1, (Below.heap_setCell w ⟨g, i, none⟩ u g' (hg g' (by rw [hv']; rfl))).trans h2, h3⟩
theorem OwP.lt {w0 w : World} {P : Nat → Prop} {B : Nat} {v : Value} {ps : List Pt} (h : OwP w0 P w B v ps) : ∀ b, v.ownBlock = some b → B ≤ b ∧ b < w.heap.size := by
  obtain ⟨V, hV, hr, hi⟩ := h
  exact fun b hb => World.ownsRow.lt hr b hb
/-- '.slice A n c' reads as these parts -/
def Ps (w0 : World) (P : Nat → Prop) (w : World) (B : Nat) (A : Option Addr) (c : Nat) (ps : List Pt) : Prop :=
  ps.length ≤ c ∧ (0 < ps.length → ∃ b o, A = some ⟨b, o, none⟩ ∧ (B ≤ b ∧ b < w.heap.size) ∧ ∀ j p, ps[j]? = some p → ∃ cs, w.rangeAt b (o + 3 * j) cs ∧ PtC w0 P p cs)
theorem ptC_len {w : World} {P : Nat → Prop} {p : Pt} {cs : List Value} (h : PtC w P p cs) : cs.length = 3 := by
  obtain ⟨_, _, _, _, _, _, rfl, _⟩ := h; rfl
theorem flat_at2 : ∀ (V : List (Pt × List Value)) (j k : Nat) (p : Pt × List Value), (∀ p ∈ V, p.2.length = 3) → V[j]? = some p → k < 3 → (V.flatMap (·.2))[3 * j + k]? = p.2[k]?
  | [], j, k, a, _, h, _ => by simp at h
  | b :: l, 0, k, a, hf, h, hk => by
    simp at h
    subst h
    rw [List.flatMap_cons, Nat.mul_zero, Nat.zero_add, List.getElem?_append_left (by rw [hf _ (List.mem_cons_self ..)]; exact hk)]
  | b :: l, j + 1, k, a, hf, h, hk => by
    rw [List.flatMap_cons, List.getElem?_append_right (by rw [hf _ (List.mem_cons_self ..), Nat.mul_succ]; omega), hf _ (List.mem_cons_self ..)]
    rw [show 3 * (j + 1) + k - 3 = 3 * j + k from by rw [Nat.mul_succ]; omega]
    exact flat_at2 l j k a (fun p hp => hf p (List.mem_cons_of_mem _ hp)) (by simpa using h) hk
theorem OwP.ps {w0 w : World} {P : Nat → Prop} {B : Nat} {v : Value} {ps : List Pt} (h : OwP w0 P w B v ps) : ∃ A c, v = .slice A ps.length c ∧ Ps w0 P w B A c ps := by
  obtain ⟨V, rfl, hr, hi⟩ := h
  rcases hr.2 with ⟨rfl, h0⟩ | ⟨g, cap, cur, rfl, hB, hg, hnc, hcm, hs, ht⟩
  · have e : V.map (·.1) = [] := List.eq_nil_of_length_eq_zero h0
    rw [e]
    exact ⟨none, 0, rfl, Nat.zero_le _, fun h => by simp at h⟩
  · refine ⟨_, cap, rfl, hnc, fun _ => ⟨g, 0, rfl, ⟨hB, (Array.getElem?_eq_some_iff.1 hg).1⟩, fun j e hj => ?_⟩⟩
    rw [List.getElem?_map] at hj
    cases hp : V[j]? with
    | none => rw [hp] at hj; cases hj
    | some p =>
      rw [hp] at hj
      simp at hj
      subst hj
      have hjl : j < V.length := (List.getElem?_eq_some_iff.1 hp).1
      have hc := hi p (List.mem_of_getElem? hp)
      refine ⟨p.2, fun k u hk => ?_, hc⟩
      have hk3 : k < 3 := by have := (List.getElem?_eq_some_iff.1 hk).1; rwa [ptC_len hc] at this
      have := World.ownsRow.cellAt (cap := cap) hr (3 * j + k) (by rw [List.length_map]; omega)
      rw [Nat.zero_add, this, flat_at2 V j k p (fun p hp => ptC_len (hi p hp)) hp hk3]
      exact hk
/-- the part number k, in a world behind -/
theorem Ps.at {w0 w w' : World} {P : Nat → Prop} {A : Option Addr} {c : Nat} {ps : List Pt} {B : Nat} (h : Ps w0 P w B A c ps) (hb : ∀ b, B ≤ b → b < w.heap.size → w'.heap[b]? = w.heap[b]?) {k : Nat} (hk : k < ps.length) :
    ∃ b o p A1 c1 A2 c2 A3 c3, A = some ⟨b, o, none⟩ ∧ ps[k]? = some p ∧ (w'.cell? ⟨b, o + k * 3, none⟩ = some (.slice A1 p.st.length c1) ∧ w'.cell? ⟨b, o + k * 3 + 1, none⟩ = some (.slice A2 p.gn.length c2) ∧ w'.cell? ⟨b, o + k * 3 + 2, none⟩ = some (.slice A3 p.cm.length c3)) ∧
      Vs w0 P A1 c1 (texts (mk 32 p.st)) ∧ Vs w0 P A2 c2 (texts (mk 45 p.gn)) ∧ Vs w0 P A3 c3 (texts (mk 43 p.cm)) := by
  obtain ⟨b, o, rfl, ⟨hB, hlt⟩, he⟩ := h.2 (by omega)
  obtain ⟨cs, h1, A1, c1, A2, c2, A3, c3, rfl, v1, v2, v3⟩ := he k _ (List.getElem?_eq_getElem hk)
  rw [Nat.mul_comm] at h1
  have h3 : ∀ i v, ([.slice A1 (ps[k]).st.length c1, .slice A2 (ps[k]).gn.length c2, .slice A3 (ps[k]).cm.length c3] : List Value)[i]? = some v → w'.cell? ⟨b, o + k * 3 + i, none⟩ = some v := fun i v hi => (World.cell?_of_block (a := ⟨b, o + k * 3 + i, none⟩) (hb b hB hlt)).trans (h1 i v hi)
  exact ⟨b, o, _, A1, c1, A2, c2, A3, c3, rfl, List.getElem?_eq_getElem hk, ⟨h3 0 _ rfl, h3 1 _ rfl, h3 2 _ rfl⟩, v1, v2, v3⟩
theorem infoPt : (Try.prog.info? 66).map (fun i => (i.zero, i.size, i.bytes)) = some (some (.agg #[.slice none 0 0, .slice none 0 0, .slice none 0 0]), 3, 72) := by kernel_rfl
/-- append of one part -/
theorem wp_pushP {o : Oper} {a : Act} {K : Act → World → Prop} {Q : Exit → Act → World → Prop} {W : World} (s x : Operand)
    (ho : o.op = .call { callee := .builtin .append, args := #[s, x], argTypes := #[63, 63] })
    (w0 : World) (P : Nat → Prop) (B : Nat) (wb : World) (v : Value) (ps : List Pt) (p : Pt) (pc : List Value) (cs : Array Value) (hs : a.eval s = v) (hx : a.eval x = .slice (some ⟨W.heap.size, 0, none⟩) 1 1) (hc : cs = pc.toArray)
    (hown : OwP w0 P W B v ps) (hp : PtC w0 P p pc) (hlen : ps.length + 1 ≤ 1000000000) (hb : Below B wb W) (hbase : B ≤ W.heap.size)
    (h : ∀ v' w', OwP w0 P w' B v' (ps ++ [p]) → Below B wb w' → W.grownBy w' v.ownBlock → K (a.put o.dst v') w') : o.wp Try.prog a (W.alloc (.cells cs tP)) K Q := by
  obtain ⟨i0, hi0, hz0, hz1, hz2⟩ := info_parts infoPt
  subst hc
  obtain ⟨V, hV, hr, hi⟩ := hown
  have hpl := ptC_len hp
  refine wp_append_own _ s x 63 ho B tP i0 (.agg #[.slice none 0 0, .slice none 0 0, .slice none 0 0]) 3 72 Try.underlying63 hi0 hz0 hz1 hz2 rfl (by omega) v ps.length (V.flatMap (·.2)) hs (World.ownsRow.alloc hr _)
    ⟨W.heap.size, 0, none⟩ 1 1 pc hx (by rw [hpl]) (fun j u hu => ?_) ?_ (by unfold maxLen; omega) (by omega) (by simp; omega) (fun v' w' h1 h2 _ => ?_)
  · rw [Addr.add_mid, (Row.fresh W tP pc.toArray).cell]
    simpa using hu
  · obtain ⟨_, _, _, _, _, _, rfl, _⟩ := hp
    intro u hu
    simp only [List.mem_cons, List.not_mem_nil, or_false] at hu
    rcases hu with rfl | rfl | rfl <;> rfl
  · have hg := grownBy_back _ h2
    refine h v' w' ⟨V ++ [(p, pc)], by simp [hV], ?_, fun q hq => ?_⟩ (hb.grown hg hbase fun k hk => (World.ownsRow.lt hr k hk).1) hg
    · rw [List.flatMap_append, List.length_append, List.flatMap_cons, List.flatMap_nil, List.append_nil]
      exact h1
    · rcases List.mem_append.1 hq with hq | hq
      · exact hi q hq
      · obtain rfl : q = (p, pc) := by simpa using hq
        exact hp
theorem wpList_pushP {ops : Array Oper} {rest : List Oper} {o : Oper} {a : Act} {Q : Exit → Act → World → Prop} {W : World} (hgd : o.guard = none) (s x : Operand)
    (ho : o.op = .call { callee := .builtin .append, args := #[s, x], argTypes := #[63, 63] })
    (w0 : World) (P : Nat → Prop) (B : Nat) (wb : World) (v : Value) (ps : List Pt) (p : Pt) (pc : List Value) (cs : Array Value) (hs : a.eval s = v) (hx : a.eval x = .slice (some ⟨W.heap.size, 0, none⟩) 1 1) (hc : cs = pc.toArray)
    (hown : OwP w0 P W B v ps) (hp : PtC w0 P p pc) (hlen : ps.length + 1 ≤ 1000000000) (hb : Below B wb W) (hbase : B ≤ W.heap.size)
    (h : ∀ v' w', OwP w0 P w' B v' (ps ++ [p]) → Below B wb w' → W.grownBy w' v.ownBlock → wpList Try.prog ops Q rest (a.put o.dst v') w') : wpList Try.prog ops Q (o :: rest) a (W.alloc (.cells cs tP)) :=
  wpList_plain hgd fun _ hK => wp_pushP s x ho w0 P B wb v ps p pc cs hs hx hc hown hp hlen hb hbase fun v' w' h1 h2 h3 => hK _ _ (h v' w' h1 h2 h3)

def slenH : Value → Nat
  | .slice _ n _ => n
  | _ => 0
theorem lay_len (p : Pt) (r : List Pt) : (lay (p :: r)).length = p.st.length + (p.gn.length + (p.cm.length + (lay r).length)) := by
  rw [lay, layP, List.length_append, List.length_append, List.length_append, mk_len, mk_len, mk_len]; omega
theorem Good.pos {p : Pt} {r : List Pt} (h : Good (p :: r)) : 0 < p.st.length + (p.gn.length + p.cm.length) := by
  rcases h.1 with h | h | h
  · have := List.length_pos_iff.2 h; omega
  · have := List.length_pos_iff.2 h; omega
  · have := List.length_pos_iff.2 h; omega
theorem lay_ge : ∀ ps : List Pt, Good ps → ps.length ≤ (lay ps).length
  | [], _ => Nat.le_refl _
  | p :: r, h => by
    have := lay_ge r h.tail
    have := h.pos
    rw [lay_len, List.length_cons]; omega
theorem fronts {p : Pt} {r : List Pt} (h : Good (p :: r)) :
    (tw 32 (lay (p :: r)) = mk 32 p.st ∧ dw 32 (lay (p :: r)) = mk 45 p.gn ++ (mk 43 p.cm ++ lay r)) ∧ (tw 45 (mk 45 p.gn ++ (mk 43 p.cm ++ lay r)) = mk 45 p.gn ∧ dw 45 (mk 45 p.gn ++ (mk 43 p.cm ++ lay r)) = mk 43 p.cm ++ lay r) ∧
      (tw 43 (mk 43 p.cm ++ lay r) = mk 43 p.cm ∧ dw 43 (mk 43 p.cm ++ lay r) = lay r) := by
  refine ⟨?_, front_mk 45 _ _ (ne_gone _ _ h.stay), front_mk 43 _ _ (ne_of_stay h.stay (by decide))⟩
  rw [lay, layP, List.append_assoc, List.append_assoc]
  exact front_mk 32 _ _ (ne_stay h)

set_option maxHeartbeats 1000000 in
set_option maxRecDepth 100000 in
theorem parts_any (ps : List Pt) (hps : Good ps) (A : Option Addr) (c : Nat) (P : Nat → Prop) (w : World) (hs : Vs w P A c (texts (lay ps))) (hn : (lay ps).length ≤ 1000000) :
    Calls Try.prog 41 #[.slice A (lay ps).length c] w fun y w' => ∃ v, y = .returned v ∧ OwP w P w' w.heap.size v ps ∧ Below w.heap.size w w' := by
  have Hs := hide hs
  have HA := hide (show 0 < (lay ps).length → ∀ a, A = some a → a.spot = none from fun hp a ha => by
    obtain ⟨b, o, rfl, _⟩ := hs.2 (by rw [texts_len]; exact hp)
    injection ha with ha
    rw [← ha])
  have Hg := hide hps
  have Hn := hide hn
  obtain ⟨N, hN⟩ : ∃ N, N = (lay ps).length := ⟨_, rfl⟩
  rw [← hN] at hn HA ⊢
  have HN := hide hN
  clear hs hps hN
  go_enter Try.func41, Try.ntmps41
  go_wp2
  go_loopw [3, 4] (fun v l wr => ∃ (done todo : List Pt) (A2 : Option Addr) (c2 m : Nat) (v0 : Value), v0 = v ∧ l = .slice A2 m c2 ∧ m = (lay todo).length ∧ ps = done ++ todo ∧ Good todo ∧ Vs w P A2 c2 (texts (lay todo)) ∧ (0 < m → ∀ a, A2 = some a → a.spot = none) ∧ (done.length + m ≤ N) ∧ OwP w P wr w.heap.size v0 done ∧ Below w.heap.size w wr) (fun _ l _ => slenH l)
  case atStart => exact ⟨[], ps, _, _, _, _, rfl, rfl, HN.out, rfl, Hg.out, Hs.out, HA.out, by simp, OwP.nil _ _ _ _, Below.refl _ _⟩
  case round =>
    obtain ⟨done, todo, A2, c2, m, v, rfl, rfl, hm, hps, hgood, hvs, hA2, hdn, hown, hb⟩ := hrel
    have Hb := hide hb
    have Hown := hide hown
    have Hps := hide hps
    have Hgood := hide hgood
    have Hvs := hide hvs
    have HA2 := hide hA2
    have Hm := hide hm
    clear hb hown hps hgood hvs hA2 hm
    cases todo with
    | nil =>
      obtain rfl : m = 0 := Hm.out
      go_wp2
      go_ret
      exact ⟨_, rfl, by rw [Hps.out, List.append_nil]; exact Hown.out, Hb.out⟩
    | cons p r =>
      have hF := fronts Hgood.out
      have hpos := Hgood.out.pos
      have hll := lay_len p r
      rw [← Hm.out] at hll
      have hm0 : 0 < m := by omega
      have hmN : m ≤ 1000000 := by omega
      have H1 := hide (fun w1 (hb1 : Below w.heap.size w w1) => front_any 32 (lay (p :: r)) A2 c2 P w w1 Hvs.out hb1 (by rw [← Hm.out]; exact hmN) (HA2.out hm0))
      rw [← Hm.out, hF.1.1, hF.1.2] at H1
      have H2 := hide (fun A3 c3 (hv : Vs w P A3 c3 (texts (mk 45 p.gn ++ (mk 43 p.cm ++ lay r)))) w1 (hb1 : Below w.heap.size w w1) (hA3 : ∀ a, A3 = some a → a.spot = none) => front_any 45 (mk 45 p.gn ++ (mk 43 p.cm ++ lay r)) A3 c3 P w w1 hv hb1 (by simp [mk_len]; omega) hA3)
      rw [hF.2.1.1, hF.2.1.2] at H2
      have H3 := hide (fun A3 c3 (hv : Vs w P A3 c3 (texts (mk 43 p.cm ++ lay r))) w1 (hb1 : Below w.heap.size w w1) (hA3 : ∀ a, A3 = some a → a.spot = none) => front_any 43 (mk 43 p.cm ++ lay r) A3 c3 P w w1 hv hb1 (by simp [mk_len]; omega) hA3)
      rw [hF.2.2.1, hF.2.2.2] at H3
      simp only [mk_len] at H1 H2 H3
      obtain ⟨n2, hn2⟩ : ∃ n2, n2 = (mk 45 p.gn ++ (mk 43 p.cm ++ lay r)).length := ⟨_, rfl⟩
      obtain ⟨n3, hn3⟩ : ∃ n3, n3 = (mk 43 p.cm ++ lay r).length := ⟨_, rfl⟩
      obtain ⟨n4, hn4⟩ : ∃ n4, n4 = (lay r).length := ⟨_, rfl⟩
      rw [← hn2] at H1 H2
      rw [← hn3] at H2 H3
      rw [← hn4] at H3 hll
      have Hn4 := hide hn4
      have Hll := hide hll
      have Hpos := hide hpos
      have Hd0 := hide hdn
      clear hn2 hn3 hn4 hF hll hpos hdn
      obtain ⟨ls, hls⟩ : ∃ ls, ls = p.st.length := ⟨_, rfl⟩
      obtain ⟨lg, hlg⟩ : ∃ lg, lg = p.gn.length := ⟨_, rfl⟩
      obtain ⟨lc, hlc⟩ : ∃ lc, lc = p.cm.length := ⟨_, rfl⟩
      rw [← hls] at H1
      rw [← hlg] at H2
      rw [← hlc] at H3
      have Hls := hide hls
      have Hlg := hide hlg
      have Hlc := hide hlc
      clear hls hlg hlc
      have hB1 : w.heap.size ≤ wr.heap.size := Hb.out.size
      go_wp2_with fail
      obtain ⟨wa, hwa⟩ : ∃ wa, wa = wr.alloc (.cells #[.slice none 0 0, .slice none 0 0, .slice none 0 0] tP) := ⟨_, rfl⟩
      have hrow : Row wa wr.heap.size tP [.slice none 0 0, .slice none 0 0, .slice none 0 0] := by rw [hwa]; exact Row.fresh wr tP _
      have hba : Below wr.heap.size wr wa := by rw [hwa]; exact (Below.refl _ wr).alloc (Nat.le_refl _) _
      have Hown1 := hide (Hown.out.keep hba)
      have Hba := hide (Hb.out.trans (hba.mono hB1))
      rw [← hwa]
      have hglt : wr.heap.size < wa.heap.size := hrow.lt
      have Hne := hide (show ∀ b, v.ownBlock = some b → b ≠ wr.heap.size from fun b hb => by have := (Hown.out.lt b hb).2; omega)
      obtain ⟨g, hg⟩ : ∃ g, g = wr.heap.size := ⟨_, rfl⟩
      rw [← hg] at hrow hglt Hne ⊢
      have hBg : w.heap.size ≤ g := by omega
      clear hwa hba hg
      refine (H1.out wa Hba.out).mono ?_
      rintro y w2 ⟨A3, c3, rfl, hv1, hv2, hA3, hb2⟩
      have hrow2 := hrow.below hb2 hglt
      have Hown2 := hide (Hown1.out.keep hb2)
      have Hb2 := hide (Hba.out.trans (hb2.mono Hba.out.size))
      have hglt2 := hrow2.lt
      have Hv1 := hide hv1
      have H2' := hide (H2.out A3 c3 hv2)
      clear H2 hrow hglt hb2 hv1 hv2
      have b0 := hrow2.cell 0
      have b1 := hrow2.cell 1
      have b2 := hrow2.cell 2
      have f0 := hrow2.free 0
      simp only [List.getElem?_cons_zero, List.getElem?_cons_succ] at b0 b1 b2
      go_wp2_with fail
      obtain ⟨w3, hw3⟩ : ∃ w3, w3 = w2.setCell ⟨g, 0, none⟩ (.slice A2 ls c2) := ⟨_, rfl⟩
      have hrow3 : Row w3 g tP [.slice A2 ls c2, .slice none 0 0, .slice none 0 0] := by rw [hw3]; exact hrow2.put 0 _
      have Hown3 := hide (show OwP w P w3 w.heap.size v done by rw [hw3]; exact Hown2.out.put hrow2 Hne.out _)
      have Hb3 := hide (show Below w.heap.size w w3 by rw [hw3]; exact Hb2.out.setCell (p := ⟨g, 0, none⟩) hBg _)
      rw [← hw3]
      have hglt3 := hrow3.lt
      clear hw3 b0 b1 b2 f0 hrow2 hglt2
      refine (H2'.out w3 Hb3.out hA3).mono ?_
      rintro y w4 ⟨A4, c4, rfl, hv3, hv4, hA4, hb4⟩
      have hrow4 := hrow3.below hb4 hglt3
      have Hown4 := hide (Hown3.out.keep hb4)
      have Hb4 := hide (Hb3.out.trans (hb4.mono Hb3.out.size))
      have hglt4 := hrow4.lt
      have Hv3 := hide hv3
      have H3' := hide (H3.out A4 c4 hv4)
      clear H3 hrow3 hglt3 hb4 hv3 hv4 H2'
      have b0 := hrow4.cell 0
      have b1 := hrow4.cell 1
      have b2 := hrow4.cell 2
      have f1 := hrow4.free 1
      simp only [List.getElem?_cons_zero, List.getElem?_cons_succ] at b0 b1 b2
      go_wp2_with fail
      obtain ⟨w5, hw5⟩ : ∃ w5, w5 = w4.setCell ⟨g, 1, none⟩ (.slice A3 lg c3) := ⟨_, rfl⟩
      have hrow5 : Row w5 g tP [.slice A2 ls c2, .slice A3 lg c3, .slice none 0 0] := by rw [hw5]; exact hrow4.put 1 _
      have Hown5 := hide (show OwP w P w5 w.heap.size v done by rw [hw5]; exact Hown4.out.put hrow4 Hne.out _)
      have Hb5 := hide (show Below w.heap.size w w5 by rw [hw5]; exact Hb4.out.setCell (p := ⟨g, 1, none⟩) hBg _)
      rw [← hw5]
      have hglt5 := hrow5.lt
      clear hw5 b0 b1 b2 f1 hrow4 hglt4
      refine (H3'.out w5 Hb5.out hA4).mono ?_
      rintro y w6 ⟨A5, c5, rfl, hv5, hv6, hA5, hb6⟩
      have hrow6 := hrow5.below hb6 hglt5
      have Hown6 := hide (Hown5.out.keep hb6)
      have Hb6 := hide (Hb5.out.trans (hb6.mono Hb5.out.size))
      have hglt6 := hrow6.lt
      have Hv5 := hide hv5
      have Hv6 := hide hv6
      have HA5 := hide hA5
      clear hrow5 hglt5 hb6 hv5 hv6 H3' hA3 hA4 hA5
      have b0 := hrow6.cell 0
      have b1 := hrow6.cell 1
      have b2 := hrow6.cell 2
      have f2 := hrow6.free 2
      simp only [List.getElem?_cons_zero, List.getElem?_cons_succ] at b0 b1 b2
      obtain ⟨w7, hw7⟩ : ∃ w7, w7 = w6.setCell ⟨g, 2, none⟩ (.slice A4 lc c4) := ⟨_, rfl⟩
      have Hown7 := hide (show OwP w P w7 w.heap.size v done by rw [hw7]; exact Hown6.out.put hrow6 Hne.out _)
      have Hb7 := hide (show Below w.heap.size w w7 by rw [hw7]; exact Hb6.out.setCell (p := ⟨g, 2, none⟩) hBg _)
      have HW7 := hide hw7
      have Hsz := hide (show w6.heap.size = w7.heap.size by rw [hw7]; simp)
      have Hpc := hide (show PtC w P p [.slice A2 ls c2, .slice A3 lg c3, .slice A4 lc c4] from ⟨A2, c2, A3, c3, A4, c4, by rw [Hls.out, Hlg.out, Hlc.out], Hv1.out, Hv3.out, Hv5.out⟩)
      have Hdn := hide (show done.length ≤ 1000000 by have := Hd0.out; omega)
      clear hw7 hrow6
      go_wp2_with (rw [← HW7.out]; refine wpList_pushP rfl (.tmp 28) (.tmp 30) rfl w P w.heap.size w v done p [.slice A2 ls c2, .slice A3 lg c3, .slice A4 lc c4] _ rfl (by rw [← Hsz.out]; rfl) rfl Hown7.out Hpc.out (by have := Hdn.out; omega) Hb7.out Hb7.out.size ?_; intro v8 w8 hown8 hb8 _)
      have hll := Hll.out
      have hpos := Hpos.out
      have hd0 := Hd0.out
      exact ⟨⟨done ++ [p], r, A5, c5, n4, _, rfl, rfl, Hn4.out, by rw [Hps.out]; simp, Hgood.out.tail, Hv6.out, fun _ => HA5.out, by rw [List.length_append, List.length_singleton]; omega, hown8, hb8⟩, by simp only [slenH]; omega⟩
end Go.Proofs.Ytfmmececocilhaa.Hu
