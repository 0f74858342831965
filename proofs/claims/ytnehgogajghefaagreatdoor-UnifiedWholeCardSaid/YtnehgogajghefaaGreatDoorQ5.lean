/-
  Rows of parts; hunk.parts.
-/
import Derived.Test.YtnehgogajghefaaGreatDoorHE
import Derived.Test.YtnehgogajghefaaGreatDoorQ2
import Derived.Test.YtnehgogajghefaaGreatDoorQ1
namespace Go.Proofs.YtnehgogajghefaaGreatDoor.Hu
open Go Go.RowKit Kt Lw Li Df

abbrev tP : TypeId := 69
/-- these cells are a part: three slices of texts, signs and all -/
def PtC (w : World) (P : Nat → Prop) (p : Pt) (cs : List Value) : Prop :=
  ∃ A1 c1 A2 c2 A3 c3, cs = [.slice A1 p.st.length c1, .slice A2 p.gn.length c2, .slice A3 p.cm.length c3] ∧ Vs w P A1 c1 (texts (mk 32 p.st)) ∧ Vs w P A2 c2 (texts (mk 45 p.gn)) ∧ Vs w P A3 c3 (texts (mk 43 p.cm))
/-- parts in a row of the call's own; what they show lies in the world w0 -/
def OwP (w0 : World) (P : Nat → Prop) (w : World) (B : Nat) (v : Value) (ps : List Pt) : Prop :=
  ∃ V : List (Pt × List Value), V.map (·.1) = ps ∧ w.ownsRow B tP 3 v ps.length (V.flatMap (·.2)) ∧ ∀ p ∈ V, PtC w0 P p.1 p.2
theorem OwP.nil (w0 : World) (P : Nat → Prop) (w : World) (B : Nat) : OwP w0 P w B (.slice none 0 0) [] := ⟨[], rfl, World.ownsRow_nil _ _ _ _, fun p h => by cases h⟩
theorem OwP.keep {w0 w w' : World} {P : Nat → Prop} {B : Nat} {v : Value} {ps : List Pt} (h : OwP w0 P w B v ps) (hb : Below w.heap.size w w') : OwP w0 P w' B v ps := by
  obtain ⟨V, hV, hr, hi⟩ := h
  refine ⟨V, hV, ⟨hr.1, ?_⟩, hi⟩
  rcases hr.2 with ⟨h1, h2⟩ | ⟨g, cap, cur, hv', h1, h2, h3⟩
  · exact .inl ⟨h1, h2⟩
  · exact .inr ⟨g, cap, cur, hv', h1, (hb.block g (Array.getElem?_eq_some_iff.1 h2).1).trans h2, h3⟩
theorem OwP.put {w0 w : World} {P : Nat → Prop} {B : Nat} {v : Value} {ps : List Pt} (h : OwP w0 P w B v ps) {g i : Nat} {cs : List Value} (_hrow : Row w g tP cs) (hg : ∀ b, v.ownBlock = some b → b ≠ g) (u : Value) : OwP w0 P (w.setCell ⟨g, i, none⟩ u) B v ps := by
  obtain ⟨V, hV, hr, hi⟩ := h
  refine ⟨V, hV, ⟨hr.1, ?_⟩, hi⟩
  rcases hr.2 with ⟨h1, h2⟩ | ⟨g', cap, cur, hv', h1, h2, h3⟩
  · exact .inl ⟨h1, h2⟩
  · exact .inr ⟨g', cap, cur, hv', h1, (Below.heap_setCell w ⟨g, i, none⟩ u g' (hg g' (by rw [hv']; rfl))).trans h2, h3⟩
theorem OwP.lt {w0 w : World} {P : Nat → Prop} {B : Nat} {v : Value} {ps : List Pt} (h : OwP w0 P w B v ps) : ∀ b, v.ownBlock = some b → B ≤ b ∧ b < w.heap.size := by
  obtain ⟨V, hV, hr, hi⟩ := h
  exact fun b hb => World.ownsRow.lt hr b hb
/-- '.slice A n c' reads as these parts -/
def Ps (w0 : World) (P : Nat → Prop) (w : World) (B : Nat) (A : Option Addr) (c : Nat) (ps : List Pt) : Prop :=
  ps.length ≤ c ∧ (0 < ps.length → ∃ b o, A = some ⟨b, o, none⟩ ∧ (B ≤ b ∧ b < w.heap.size) ∧ ∀ j p, ps[j]? = some p → ∃ cs, w.rangeAt b (o + 3 * j) cs ∧ PtC w0 P p cs)
theorem ptC_len {w : World} {P : Nat → Prop} {p : Pt} {cs : List Value} (h : PtC w P p cs) : cs.length = 3 := by
  obtain ⟨_, _, _, _, _, _, rfl, _⟩ := h; rfl
theorem flat_at2 : ∀ (V : List (Pt × List Value)) (j k : Nat) (p : Pt × List Value), (∀ p ∈ V, p.2.length = 3) → V[j]? = some p → k < 3 → (V.flatMap (·.2))[3 * j + k]? = p.2[k]?
  | [], j, k, a, _, h, _ => by simp at h
  | b :: l, 0, k, a, hf, h, hk => by
    simp at h
    subst h
    rw [List.flatMap_cons, Nat.mul_zero, Nat.zero_add, List.getElem?_append_left (by rw [hf _ (List.mem_cons_self ..)]; exact hk)]
  | b :: l, j + 1, k, a, hf, h, hk => by
    rw [List.flatMap_cons, List.getElem?_append_right (by rw [hf _ (List.mem_cons_self ..), Nat.mul_succ]; omega), hf _ (List.mem_cons_self ..)]
    rw [show 3 * (j + 1) + k - 3 = 3 * j + k from by rw [Nat.mul_succ]; omega]
    exact flat_at2 l j k a (fun p hp => hf p (List.mem_cons_of_mem _ hp)) (by simpa using h) hk
theorem OwP.ps {w0 w : World} {P : Nat → Prop} {B : Nat} {v : Value} {ps : List Pt} (h : OwP w0 P w B v ps) : ∃ A c, v = .slice A ps.length c ∧ Ps w0 P w B A c ps := by
  obtain ⟨V, rfl, hr, hi⟩ := h
  rcases hr.2 with ⟨rfl, h0⟩ | ⟨g, cap, cur, rfl, hB, hg, hnc, hcm, hs, ht⟩
  · have e : V.map (·.1) = [] := List.eq_nil_of_length_eq_zero h0
    rw [e]
    exact ⟨none, 0, rfl, Nat.zero_le _, fun h => by simp at h⟩
  · refine ⟨_, cap, rfl, hnc, fun _ => ⟨g, 0, rfl, ⟨hB, (Array.getElem?_eq_some_iff.1 hg).1⟩, fun j e hj => ?_⟩⟩
    rw [List.getElem?_map] at hj
    cases hp : V[j]? with
    | none => rw [hp] at hj; cases hj
    | some p =>
      rw [hp] at hj
      simp at hj
      subst hj
      have hjl : j < V.length := (List.getElem?_eq_some_iff.1 hp).1
      have hc := hi p (List.mem_of_getElem? hp)
      refine ⟨p.2, fun k u hk => ?_, hc⟩
      have hk3 : k < 3 := by have := (List.getElem?_eq_some_iff.1 hk).1; rwa [ptC_len hc] at this
      have := World.ownsRow.cellAt (cap := cap) hr (3 * j + k) (by rw [List.length_map]; omega)
      rw [Nat.zero_add, this, flat_at2 V j k p (fun p hp => ptC_len (hi p hp)) hp hk3]
      exact hk
/-- the part number k, in a world behind -/
theorem Ps.at {w0 w w' : World} {P : Nat → Prop} {A : Option Addr} {c : Nat} {ps : List Pt} {B : Nat} (h : Ps w0 P w B A c ps) (hb : ∀ b, B ≤ b → b < w.heap.size → w'.heap[b]? = w.heap[b]?) {k : Nat} (hk : k < ps.length) :
    ∃ b o p A1 c1 A2 c2 A3 c3, A = some ⟨b, o, none⟩ ∧ ps[k]? = some p ∧ (w'.cell? ⟨b, o + k * 3, none⟩ = some (.slice A1 p.st.length c1) ∧ w'.cell? ⟨b, o + k * 3 + 1, none⟩ = some (.slice A2 p.gn.length c2) ∧ w'.cell? ⟨b, o + k * 3 + 2, none⟩ = some (.slice A3 p.cm.length c3)) ∧
      Vs w0 P A1 c1 (texts (mk 32 p.st)) ∧ Vs w0 P A2 c2 (texts (mk 45 p.gn)) ∧ Vs w0 P A3 c3 (texts (mk 43 p.cm)) := by
  obtain ⟨b, o, rfl, ⟨hB, hlt⟩, he⟩ := h.2 (by omega)
  obtain ⟨cs, h1, A1, c1, A2, c2, A3, c3, rfl, v1, v2, v3⟩ := he k _ (List.getElem?_eq_getElem hk)
  rw [Nat.mul_comm] at h1
  have h3 : ∀ i v, ([.slice A1 (ps[k]).st.length c1, .slice A2 (ps[k]).gn.length c2, .slice A3 (ps[k]).cm.length c3] : List Value)[i]? = some v → w'.cell? ⟨b, o + k * 3 + i, none⟩ = some v := fun i v hi => (World.cell?_of_block (a := ⟨b, o + k * 3 + i, none⟩) (hb b hB hlt)).trans (h1 i v hi)
  exact ⟨b, o, _, A1, c1, A2, c2, A3, c3, rfl, List.getElem?_eq_getElem hk, ⟨h3 0 _ rfl, h3 1 _ rfl, h3 2 _ rfl⟩, v1, v2, v3⟩
theorem infoPt : (Tryz.prog.info? 69).map (fun i => (i.zero, i.size, i.bytes)) = some (some (.agg #[.slice none 0 0, .slice none 0 0, .slice none 0 0]), 3, 72) := by kernel_rfl
/-- append of one part -/
theorem wp_pushP {o : Oper} {a : Act} {K : Act → World → Prop} {Q : Exit → Act → World → Prop} {W : World} (s x : Operand)
    (ho : o.op = .call { callee := .builtin .append, args := #[s, x], argTypes := #[66, 66] })
    (w0 : World) (P : Nat → Prop) (B : Nat) (wb : World) (v : Value) (ps : List Pt) (p : Pt) (pc : List Value) (cs : Array Value) (hs : a.eval s = v) (hx : a.eval x = .slice (some ⟨W.heap.size, 0, none⟩) 1 1) (hc : cs = pc.toArray)
    (hown : OwP w0 P W B v ps) (hp : PtC w0 P p pc) (hlen : ps.length + 1 ≤ 1000000000) (hb : Below B wb W) (hbase : B ≤ W.heap.size)
    (h : ∀ v' w', OwP w0 P w' B v' (ps ++ [p]) → Below B wb w' → W.grownBy w' v.ownBlock → K (a.put o.dst v') w') : o.wp Tryz.prog a (W.alloc (.cells cs tP)) K Q := by
  obtain ⟨i0, hi0, hz0, hz1, hz2⟩ := info_parts infoPt
  subst hc
  obtain ⟨V, hV, hr, hi⟩ := hown
  have hpl := ptC_len hp
  refine wp_append_own _ s x 66 ho B tP i0 (.agg #[.slice none 0 0, .slice none 0 0, .slice none 0 0]) 3 72 Tryz.underlying66 hi0 hz0 hz1 hz2 rfl (by omega) v ps.length (V.flatMap (·.2)) hs (World.ownsRow.alloc hr _)
    ⟨W.heap.size, 0, none⟩ 1 1 pc hx (by rw [hpl]) (fun j u hu => ?_) ?_ (by unfold maxLen; omega) (by omega) (by simp; omega) (fun v' w' h1 h2 _ => ?_)
  · rw [Addr.add_mid, (Row.fresh W tP pc.toArray).cell]
    simpa using hu
  · obtain ⟨_, _, _, _, _, _, rfl, _⟩ := hp
    intro u hu
    simp only [List.mem_cons, List.not_mem_nil, or_false] at hu
    rcases hu with rfl | rfl | rfl <;> rfl
  · have hg := grownBy_back _ h2
    refine h v' w' ⟨V ++ [(p, pc)], by simp [hV], ?_, fun q hq => ?_⟩ (hb.grown hg hbase fun k hk => (World.ownsRow.lt hr k hk).1) hg
    · rw [List.flatMap_append, List.length_append, List.flatMap_cons, List.flatMap_nil, List.append_nil]
      exact h1
    · rcases List.mem_append.1 hq with hq | hq
      · exact hi q hq
      · obtain rfl : q = (p, pc) := by simpa using hq
        exact hp
theorem wpList_pushP {ops : Array Oper} {rest : List Oper} {o : Oper} {a : Act} {Q : Exit → Act → World → Prop} {W : World} (hgd : o.guard = none) (s x : Operand)
    (ho : o.op = .call { callee := .builtin .append, args := #[s, x], argTypes := #[66, 66] })
    (w0 : World) (P : Nat → Prop) (B : Nat) (wb : World) (v : Value) (ps : List Pt) (p : Pt) (pc : List Value) (cs : Array Value) (hs : a.eval s = v) (hx : a.eval x = .slice (some ⟨W.heap.size, 0, none⟩) 1 1) (hc : cs = pc.toArray)
    (hown : OwP w0 P W B v ps) (hp : PtC w0 P p pc) (hlen : ps.length + 1 ≤ 1000000000) (hb : Below B wb W) (hbase : B ≤ W.heap.size)
    (h : ∀ v' w', OwP w0 P w' B v' (ps ++ [p]) → Below B wb w' → W.grownBy w' v.ownBlock → wpList Tryz.prog ops Q rest (a.put o.dst v') w') : wpList Tryz.prog ops Q (o :: rest) a (W.alloc (.cells cs tP)) :=
  wpList_plain hgd fun _ hK => wp_pushP s x ho w0 P B wb v ps p pc cs hs hx hc hown hp hlen hb hbase fun v' w' h1 h2 h3 => hK _ _ (h v' w' h1 h2 h3)

def slenH : Value → Nat
  | .slice _ n _ => n
  | _ => 0
theorem lay_len (p : Pt) (r : List Pt) : (lay (p :: r)).length = p.st.length + (p.gn.length + (p.cm.length + (lay r).length)) := by
  rw [lay, layP, List.length_append, List.length_append, List.length_append, mk_len, mk_len, mk_len]; omega
theorem Good.pos {p : Pt} {r : List Pt} (h : Good (p :: r)) : 0 < p.st.length + (p.gn.length + p.cm.length) := by
  rcases h.1 with h | h | h
  · have := List.length_pos_iff.2 h; omega
  · have := List.length_pos_iff.2 h; omega
  · have := List.length_pos_iff.2 h; omega
theorem lay_ge : ∀ ps : List Pt, Good ps → ps.length ≤ (lay ps).length
  | [], _ => Nat.le_refl _
  | p :: r, h => by
    have := lay_ge r h.tail
    have := h.pos
    rw [lay_len, List.length_cons]; omega
theorem fronts {p : Pt} {r : List Pt} (h : Good (p :: r)) :
    (tw 32 (lay (p :: r)) = mk 32 p.st ∧ dw 32 (lay (p :: r)) = mk 45 p.gn ++ (mk 43 p.cm ++ lay r)) ∧ (tw 45 (mk 45 p.gn ++ (mk 43 p.cm ++ lay r)) = mk 45 p.gn ∧ dw 45 (mk 45 p.gn ++ (mk 43 p.cm ++ lay r)) = mk 43 p.cm ++ lay r) ∧
      (tw 43 (mk 43 p.cm ++ lay r) = mk 43 p.cm ∧ dw 43 (mk 43 p.cm ++ lay r) = lay r) := by
  refine ⟨?_, front_mk 45 _ _ (ne_gone _ _ h.stay), front_mk 43 _ _ (ne_of_stay h.stay (by decide))⟩
  rw [lay, layP, List.append_assoc, List.append_assoc]
  exact front_mk 32 _ _ (ne_stay h)

set_option maxHeartbeats 1000000 in
set_option maxRecDepth 100000 in
theorem parts_any (ps : List Pt) (hps : Good ps) (A : Option Addr) (c : Nat) (P : Nat → Prop) (w : World) (hs : Vs w P A c (texts (lay ps))) (hn : (lay ps).length ≤ 1000000) :
    Calls Tryz.prog 30 #[.slice A (lay ps).length c] w fun y w' => ∃ v, y = .returned v ∧ OwP w P w' w.heap.size v ps ∧ Below w.heap.size w w' := by
  have Hs := hide hs
  have HA := hide (show 0 < (lay ps).length → ∀ a, A = some a → a.spot = none from fun hp a ha => by
    obtain ⟨b, o, rfl, _⟩ := hs.2 (by rw [texts_len]; exact hp)
    injection ha with ha
    rw [← ha])
  have Hg := hide hps
  have Hn := hide hn
  obtain ⟨N, hN⟩ : ∃ N, N = (lay ps).length := ⟨_, rfl⟩
  rw [← hN] at hn HA ⊢
  have HN := hide hN
  clear hs hps hN
  go_enter Tryz.func30, Tryz.ntmps30
  go_wp2
  go_loopw [3, 4] (fun v l wr => ∃ (done todo : List Pt) (A2 : Option Addr) (c2 m : Nat) (v0 : Value), v0 = v ∧ l = .slice A2 m c2 ∧ m = (lay todo).length ∧ ps = done ++ todo ∧ Good todo ∧ Vs w P A2 c2 (texts (lay todo)) ∧ (0 < m → ∀ a, A2 = some a → a.spot = none) ∧ (done.length + m ≤ N) ∧ OwP w P wr w.heap.size v0 done ∧ Below w.heap.size w wr) (fun _ l _ => slenH l)
  case atStart => exact ⟨[], ps, _, _, _, _, rfl, rfl, HN.out, rfl, Hg.out, Hs.out, HA.out, by simp, OwP.nil _ _ _ _, Below.refl _ _⟩
  case round =>
    obtain ⟨done, todo, A2, c2, m, v, rfl, rfl, hm, hps, hgood, hvs, hA2, hdn, hown, hb⟩ := hrel
    have Hb := hide hb
    have Hown := hide hown
    have Hps := hide hps
    have Hgood := hide hgood
    have Hvs := hide hvs
    have HA2 := hide hA2
    have Hm := hide hm
    clear hb hown hps hgood hvs hA2 hm
    cases todo with
    | nil =>
      obtain rfl : m = 0 := Hm.out
      go_wp2
      go_ret
      exact ⟨_, rfl, by rw [Hps.out, List.append_nil]; exact Hown.out, Hb.out⟩
    | cons p r =>
      have hF := fronts Hgood.out
      have hpos := Hgood.out.pos
      have hll := lay_len p r
      rw [← Hm.out] at hll
      have hm0 : 0 < m := by omega
      have hmN : m ≤ 1000000 := by omega
      have H1 := hide (fun w1 (hb1 : Below w.heap.size w w1) => front_any 32 (lay (p :: r)) A2 c2 P w w1 Hvs.out hb1 (by rw [← Hm.out]; exact hmN) (HA2.out hm0))
      rw [← Hm.out, hF.1.1, hF.1.2] at H1
      have H2 := hide (fun A3 c3 (hv : Vs w P A3 c3 (texts (mk 45 p.gn ++ (mk 43 p.cm ++ lay r)))) w1 (hb1 : Below w.heap.size w w1) (hA3 : ∀ a, A3 = some a → a.spot = none) => front_any 45 (mk 45 p.gn ++ (mk 43 p.cm ++ lay r)) A3 c3 P w w1 hv hb1 (by simp [mk_len]; omega) hA3)
      rw [hF.2.1.1, hF.2.1.2] at H2
      have H3 := hide (fun A3 c3 (hv : Vs w P A3 c3 (texts (mk 43 p.cm ++ lay r))) w1 (hb1 : Below w.heap.size w w1) (hA3 : ∀ a, A3 = some a → a.spot = none) => front_any 43 (mk 43 p.cm ++ lay r) A3 c3 P w w1 hv hb1 (by simp [mk_len]; omega) hA3)
      rw [hF.2.2.1, hF.2.2.2] at H3
      simp only [mk_len] at H1 H2 H3
      obtain ⟨n2, hn2⟩ : ∃ n2, n2 = (mk 45 p.gn ++ (mk 43 p.cm ++ lay r)).length := ⟨_, rfl⟩
      obtain ⟨n3, hn3⟩ : ∃ n3, n3 = (mk 43 p.cm ++ lay r).length := ⟨_, rfl⟩
      obtain ⟨n4, hn4⟩ : ∃ n4, n4 = (lay r).length := ⟨_, rfl⟩
      rw [← hn2] at H1 H2
      rw [← hn3] at H2 H3
      rw [← hn4] at H3 hll
      have Hn4 := hide hn4
      have Hll := hide hll
      have Hpos := hide hpos
      have Hd0 := hide hdn
      clear hn2 hn3 hn4 hF hll hpos hdn
      obtain ⟨ls, hls⟩ : ∃ ls, ls = p.st.length := ⟨_, rfl⟩
      obtain ⟨lg, hlg⟩ : ∃ lg, lg = p.gn.length := ⟨_, rfl⟩
      obtain ⟨lc, hlc⟩ : ∃ lc, lc = p.cm.length := ⟨_, rfl⟩
      rw [← hls] at H1
      rw [← hlg] at H2
      rw [← hlc] at H3
      have Hls := hide hls
      have Hlg := hide hlg
      have Hlc := hide hlc
      clear hls hlg hlc
      have hB1 : w.heap.size ≤ wr.heap.size := Hb.out.size
      go_wp2_with fail
      obtain ⟨wa, hwa⟩ : ∃ wa, wa = wr.alloc (.cells #[.slice none 0 0, .slice none 0 0, .slice none 0 0] tP) := ⟨_, rfl⟩
      have hrow : Row wa wr.heap.size tP [.slice none 0 0, .slice none 0 0, .slice none 0 0] := by rw [hwa]; exact Row.fresh wr tP _
      have hba : Below wr.heap.size wr wa := by rw [hwa]; exact (Below.refl _ wr).alloc (Nat.le_refl _) _
      have Hown1 := hide (Hown.out.keep hba)
      have Hba := hide (Hb.out.trans (hba.mono hB1))
      rw [← hwa]
      have hglt : wr.heap.size < wa.heap.size := hrow.lt
      have Hne := hide (show ∀ b, v.ownBlock = some b → b ≠ wr.heap.size from fun b hb => by have := (Hown.out.lt b hb).2; omega)
      obtain ⟨g, hg⟩ : ∃ g, g = wr.heap.size := ⟨_, rfl⟩
      rw [← hg] at hrow hglt Hne ⊢
      have hBg : w.heap.size ≤ g := by omega
      clear hwa hba hg
      refine (H1.out wa Hba.out).mono ?_
      rintro y w2 ⟨A3, c3, rfl, hv1, hv2, hA3, hb2⟩
      have hrow2 := hrow.below hb2 hglt
      have Hown2 := hide (Hown1.out.keep hb2)
      have Hb2 := hide (Hba.out.trans (hb2.mono Hba.out.size))
      have hglt2 := hrow2.lt
      have Hv1 := hide hv1
      have H2' := hide (H2.out A3 c3 hv2)
      clear H2 hrow hglt hb2 hv1 hv2
      have b0 := hrow2.cell 0
      have b1 := hrow2.cell 1
      have b2 := hrow2.cell 2
      have f0 := hrow2.free 0
      simp only [List.getElem?_cons_zero, List.getElem?_cons_succ] at b0 b1 b2
      go_wp2_with fail
      obtain ⟨w3, hw3⟩ : ∃ w3, w3 = w2.setCell ⟨g, 0, none⟩ (.slice A2 ls c2) := ⟨_, rfl⟩
      have hrow3 : Row w3 g tP [.slice A2 ls c2, .slice none 0 0, .slice none 0 0] := by rw [hw3]; exact hrow2.put 0 _
      have Hown3 := hide (show OwP w P w3 w.heap.size v done by rw [hw3]; exact Hown2.out.put hrow2 Hne.out _)
      have Hb3 := hide (show Below w.heap.size w w3 by rw [hw3]; exact Hb2.out.setCell (p := ⟨g, 0, none⟩) hBg _)
      rw [← hw3]
      have hglt3 := hrow3.lt
      clear hw3 b0 b1 b2 f0 hrow2 hglt2
      refine (H2'.out w3 Hb3.out hA3).mono ?_
      rintro y w4 ⟨A4, c4, rfl, hv3, hv4, hA4, hb4⟩
      have hrow4 := hrow3.below hb4 hglt3
      have Hown4 := hide (Hown3.out.keep hb4)
      have Hb4 := hide (Hb3.out.trans (hb4.mono Hb3.out.size))
      have hglt4 := hrow4.lt
      have Hv3 := hide hv3
      have H3' := hide (H3.out A4 c4 hv4)
      clear H3 hrow3 hglt3 hb4 hv3 hv4 H2'
      have b0 := hrow4.cell 0
      have b1 := hrow4.cell 1
      have b2 := hrow4.cell 2
      have f1 := hrow4.free 1
      simp only [List.getElem?_cons_zero, List.getElem?_cons_succ] at b0 b1 b2
      go_wp2_with fail
      obtain ⟨w5, hw5⟩ : ∃ w5, w5 = w4.setCell ⟨g, 1, none⟩ (.slice A3 lg c3) := ⟨_, rfl⟩
      have hrow5 : Row w5 g tP [.slice A2 ls c2, .slice A3 lg c3, .slice none 0 0] := by rw [hw5]; exact hrow4.put 1 _
      have Hown5 := hide (show OwP w P w5 w.heap.size v done by rw [hw5]; exact Hown4.out.put hrow4 Hne.out _)
      have Hb5 := hide (show Below w.heap.size w w5 by rw [hw5]; exact Hb4.out.setCell (p := ⟨g, 1, none⟩) hBg _)
      rw [← hw5]
      have hglt5 := hrow5.lt
      clear hw5 b0 b1 b2 f1 hrow4 hglt4
      refine (H3'.out w5 Hb5.out hA4).mono ?_
      rintro y w6 ⟨A5, c5, rfl, hv5, hv6, hA5, hb6⟩
      have hrow6 := hrow5.below hb6 hglt5
      have Hown6 := hide (Hown5.out.keep hb6)
      have Hb6 := hide (Hb5.out.trans (hb6.mono Hb5.out.size))
      have hglt6 := hrow6.lt
      have Hv5 := hide hv5
      have Hv6 := hide hv6
      have HA5 := hide hA5
      clear hrow5 hglt5 hb6 hv5 hv6 H3' hA3 hA4 hA5
      have b0 := hrow6.cell 0
      have b1 := hrow6.cell 1
      have b2 := hrow6.cell 2
      have f2 := hrow6.free 2
      simp only [List.getElem?_cons_zero, List.getElem?_cons_succ] at b0 b1 b2
      obtain ⟨w7, hw7⟩ : ∃ w7, w7 = w6.setCell ⟨g, 2, none⟩ (.slice A4 lc c4) := ⟨_, rfl⟩
      have Hown7 := hide (show OwP w P w7 w.heap.size v done by rw [hw7]; exact Hown6.out.put hrow6 Hne.out _)
      have Hb7 := hide (show Below w.heap.size w w7 by rw [hw7]; exact Hb6.out.setCell (p := ⟨g, 2, none⟩) hBg _)
      have HW7 := hide hw7
      have Hsz := hide (show w6.heap.size = w7.heap.size by rw [hw7]; simp)
      have Hpc := hide (show PtC w P p [.slice A2 ls c2, .slice A3 lg c3, .slice A4 lc c4] from ⟨A2, c2, A3, c3, A4, c4, by rw [Hls.out, Hlg.out, Hlc.out], Hv1.out, Hv3.out, Hv5.out⟩)
      have Hdn := hide (show done.length ≤ 1000000 by have := Hd0.out; omega)
      clear hw7 hrow6
      go_wp2_with (rw [← HW7.out]; refine wpList_pushP rfl (.tmp 28) (.tmp 30) rfl w P w.heap.size w v done p [.slice A2 ls c2, .slice A3 lg c3, .slice A4 lc c4] _ rfl (by rw [← Hsz.out]; rfl) rfl Hown7.out Hpc.out (by have := Hdn.out; omega) Hb7.out Hb7.out.size ?_; intro v8 w8 hown8 hb8 _)
      have hll := Hll.out
      have hpos := Hpos.out
      have hd0 := Hd0.out
      exact ⟨⟨done ++ [p], r, A5, c5, n4, _, rfl, rfl, Hn4.out, by rw [Hps.out]; simp, Hgood.out.tail, Hv6.out, fun _ => HA5.out, by rw [List.length_append, List.length_singleton]; omega, hown8, hb8⟩, by simp only [slenH]; omega⟩
end Go.Proofs.YtnehgogajghefaaGreatDoor.Hu

namespace Go.Proofs.YtnehgogajghefaaGreatDoor.Hu
open Go Go.RowKit Kt Lw Li Df

theorem owt_off {w : World} {B : Nat} {v : Value} {l : Ls} (h : OwT w B tS v l) {g i : Nat} (hg : ∀ b, v.ownBlock = some b → b ≠ g) (u : Value) : OwT (w.setCell ⟨g, i, none⟩ u) B tS v l := by
  refine ⟨h.1, ?_⟩
  rcases h.2 with ⟨h1, h2⟩ | ⟨g', cap, cur, hv', h1, h2, h3⟩
  · exact .inl ⟨h1, h2⟩
  · exact .inr ⟨g', cap, cur, hv', h1, (Below.heap_setCell w ⟨g, i, none⟩ u g' (hg g' (by rw [hv']; rfl))).trans h2, h3⟩
theorem row_ne {w : World} {B g : Nat} {t : TypeId} {cs : List Value} {v : Value} {l : Ls} (hrow : Row w g t cs) (ht : t ≠ tS) (h : OwT w B tS v l) : ∀ b, v.ownBlock = some b → b ≠ g := by
  intro b hb e
  subst e
  rcases h.2 with ⟨rfl, _⟩ | ⟨g', cap, cur, rfl, _, hg', _⟩
  · cases hb
  · simp only [Value.ownBlock, Option.some.injEq] at hb
    subst hb
    unfold Row at hrow
    rw [hg'] at hrow
    simp only [Option.some.injEq, Obj.cells.injEq] at hrow
    exact ht hrow.2.1.symm
theorem owt_base {w : World} {B B' : Nat} {v : Value} {l : Ls} (h : OwT w B tS v l) (hb : B' ≤ B) : OwT w B' tS v l :=
  ⟨h.1, h.2.imp id fun ⟨g, cap, cur, hv', h1, h2⟩ => ⟨g, cap, cur, hv', Nat.le_trans hb h1, h2⟩⟩
theorem owt_form {w : World} {B : Nat} {v : Value} {l : Ls} (h : OwT w B tS v l) : ∃ A n c, v = .slice A n c := by
  obtain ⟨A, c, h, _⟩ := h.vs
  exact ⟨A, _, c, h⟩
theorem tP_ne : tP ≠ tS := by decide
theorem tH_ne : tH ≠ tS := by decide
/-- in the world wr the block g is a hunk whose lines, L, are a row of the call's own; w: the world at the call's start, wp: where the row was begun -/
structure HS (w wp wr : World) (g : Nat) (x0 x1 x2 x3 v : Value) (L : Ls) : Prop where
  row : Row wr g tH [x0, x1, x2, x3, v]
  own : OwT wr wp.heap.size tS v L
  far : wp.grownBy wr (some g)
  low : Below w.heap.size w wr
  lt : w.heap.size ≤ g ∧ g < wp.heap.size
section
variable {w wp wr w1 : World} {g : Nat} {x0 x1 x2 x3 v : Value} {L : Ls}
theorem HS.more (h : HS w wp wr g x0 x1 x2 x3 v L) (hb : Below wr.heap.size wr w1) : HS w wp w1 g x0 x1 x2 x3 v L :=
  ⟨h.row.below hb h.row.lt, h.own.kept hb, grown_more h.far ⟨hb.os, hb.tape, hb.output, hb.size, fun k hk _ => hb.block k hk⟩ (.inl rfl), h.low.trans (hb.mono h.low.size), h.lt⟩
theorem HS.drew (h : HS w wp wr g x0 x1 x2 x3 v L) : HS w wp wr.drew g x0 x1 x2 x3 v L := h.more ((Below.refl _ wr).drew)
theorem HS.ne (h : HS w wp wr g x0 x1 x2 x3 v L) : ∀ b, v.ownBlock = some b → b ≠ g := row_ne h.row tH_ne h.own
theorem HS.cells (h : HS w wp wr g x0 x1 x2 x3 v L) : wr.cell? ⟨g, 0, none⟩ = some x0 ∧ wr.cell? ⟨g, 1, none⟩ = some x1 ∧ wr.cell? ⟨g, 2, none⟩ = some x2 ∧ wr.cell? ⟨g, 3, none⟩ = some x3 ∧ wr.cell? ⟨g, 4, none⟩ = some v ∧ wr.frozen? ⟨g, 4, none⟩ = false :=
  ⟨h.row.cell 0, h.row.cell 1, h.row.cell 2, h.row.cell 3, h.row.cell 4, h.row.free 4⟩
theorem HS.grown (h : HS w wp wr g x0 x1 x2 x3 v L) (hg : wr.grownBy w1 v.ownBlock) : Row w1 g tH [x0, x1, x2, x3, v] :=
  h.row.grown hg (fun e => h.ne g e.symm rfl)
theorem HS.step (h : HS w wp wr g x0 x1 x2 x3 v L) {v1 : Value} {L1 : Ls} (ho : OwT w1 wp.heap.size tS v1 L1) (hg : wr.grownBy w1 v.ownBlock) : HS w wp (w1.setCell ⟨g, 4, none⟩ v1) g x0 x1 x2 x3 v1 L1 := by
  have hr1 := h.grown hg
  have hfar : wp.grownBy w1 (some g) := by
    refine ⟨hg.os.trans h.far.os, hg.tape.trans h.far.tape, hg.output.trans h.far.output, Nat.le_trans h.far.size hg.size, fun k hk hne => (hg.block k (Nat.lt_of_lt_of_le hk h.far.size) ?_).trans (h.far.block k hk hne)⟩
    intro e
    have := (World.ownsRow.lt h.own k e.symm).1
    omega
  have hlow : Below w.heap.size w w1 := h.low.grown hg h.low.size fun k hk => by
    have := (World.ownsRow.lt h.own k hk).1
    have := h.lt
    omega
  exact ⟨hr1.put 4 v1, owt_off ho (row_ne hr1 tH_ne ho) _, grown_put hfar v1, hlow.setCell (p := ⟨g, 4, none⟩) h.lt.1 _, h.lt⟩
/-- another block that is no row of texts stays -/
theorem HS.other (h : HS w wp wr g x0 x1 x2 x3 v L) {g' : Nat} {t : TypeId} {cs : List Value} (hrow : Row wr g' t cs) (ht : t ≠ tS) (hgg : g' ≠ g) (hg : wr.grownBy w1 v.ownBlock) (u : Value) : Row (w1.setCell ⟨g, 4, none⟩ u) g' t cs :=
  (hrow.grown hg (fun e => row_ne hrow ht h.own g' e.symm rfl)).off hgg u
end
theorem lay_swp_len : ∀ ps : List Pt, (lay (ps.map swp)).length = (lay ps).length
  | [] => rfl
  | p :: r => by
    rw [List.map_cons, lay_len, lay_len, lay_swp_len r]
    show p.st.length + (p.cm.length + (p.gn.length + _)) = _
    omega

end Go.Proofs.YtnehgogajghefaaGreatDoor.Hu
namespace Go.Proofs.YtnehgogajghefaaGreatDoor.Hu
open Go Go.RowKit Kt Lw Li Df

theorem edP_len : ∀ (ps : List Pt) (z : Int), (edP z ps).length ≤ ps.length
  | [], _ => Nat.le_refl _
  | p :: r, z => by
    have := edP_len r (z + p.st.length + p.gn.length)
    rw [edP, List.length_append, List.length_cons]
    unfold emitZ
    split <;> simp <;> omega
theorem drop_one {ps : List Pt} {k : Nat} {p : Pt} (h : ps[k]? = some p) : ps.drop k = p :: ps.drop (k + 1) := by
  have h1 := (List.getElem?_eq_some_iff.1 h).1
  rw [List.drop_eq_getElem_cons h1]
  rw [List.getElem?_eq_getElem h1] at h
  injection h with h
  rw [h]

set_option maxHeartbeats 1000000 in
set_option maxRecDepth 100000 in
theorem edits_any (ha han hb hbn : Int) (ps : List Pt) (hps : Good ps) (A : Option Addr) (c : Nat) (P : Nat → Prop) (w : World) (hs : Vs w P A c (texts (lay ps))) (hn : (lay ps).length ≤ 100000)
    (hr : hright ⟨ha, han, hb, hbn, lay ps⟩ = true) (hz : -1099511627776 ≤ ha ∧ ha ≤ 1099511627776) :
    Calls Tryz.prog 10 #[.agg #[.int .i64 ha, .int .i64 han, .int .i64 hb, .int .i64 hbn, .slice A (lay ps).length c]] w fun y w' => ∃ v, y = .returned v ∧ OwE w' w.heap.size v (edP ha ps) ∧ Below w.heap.size w w' := by
  have Hs := hide hs.bound
  have Hg := hide hps
  have Hn := hide hn
  have HRt := hide (fun w1 (hb1 : Below w.heap.size w w1) => hright_any ha han hb hbn (lay ps) A c _ w1 (Lw.Vs.below hs.bound hb1) (by omega))
  rw [hr] at HRt
  have HPt := hide (fun w1 (hb1 : Below w.heap.size w w1) => parts_any ps hps A c _ w1 (Lw.Vs.below hs.bound hb1) (by omega))
  have hlen := lay_ge ps hps
  obtain ⟨N, hN⟩ : ∃ N, N = (lay ps).length := ⟨_, rfl⟩
  rw [← hN] at hn HRt HPt hlen ⊢
  have HN := hide hN
  clear hs hps hN hr
  go_enter Tryz.func10, Tryz.ntmps10
  go_wp2_with fail
  obtain ⟨wa, hwa⟩ : ∃ wa, wa = w.alloc (.cells #[.int .i64 ha, .int .i64 han, .int .i64 hb, .int .i64 hbn, .slice A N c] tH) := ⟨_, rfl⟩
  have hba : Below w.heap.size w wa := by rw [hwa]; exact (Below.refl _ w).alloc (Nat.le_refl _) _
  have hr1 : Row wa w.heap.size tH [.int .i64 ha, .int .i64 han, .int .i64 hb, .int .i64 hbn, .slice A N c] := by rw [hwa]; exact Row.fresh w tH _
  rw [← hwa]
  clear hwa
  refine (HRt.out wa hba).mono ?_
  rintro y wb ⟨rfl, hbb⟩
  have hr1b := hr1.below hbb hr1.lt
  have Hbb := hide (hba.trans (hbb.mono hba.size))
  clear hba hr1 hbb HRt
  have c0 := hr1b.cell 0
  have c4 := hr1b.cell 4
  simp only [List.getElem?_cons_zero, List.getElem?_cons_succ] at c0 c4
  go_wp2_with fail
  refine (HPt.out wb Hbb.out).mono ?_
  rintro y wp ⟨vp, rfl, hvp, hbp⟩
  obtain ⟨Ap, cp, rfl, hps⟩ := OwP.ps hvp
  have Hps := hide hps
  have Hbp := hide (Hbb.out.trans (hbp.mono Hbb.out.size))
  have Hpl := hide hbp.size
  obtain ⟨M, hM⟩ : ∃ M, M = ps.length := ⟨_, rfl⟩
  rw [← hM] at hlen ⊢
  have HM := hide hM
  clear hvp hbp hps hM HPt c0 c4 hr1b
  go_wp2
  go_loopw [3, 4, 16] (fun v z i wr => ∃ (k : Nat) (T : List Ed) (q : Int) (v0 : Value), v0 = v ∧ k ≤ M ∧ i = .int .i64 k ∧ z = .int .i64 q ∧ (-1099511627776 ≤ q ∧ q + (lay (ps.drop k)).length ≤ 1099511627776 + 100000) ∧ T.length ≤ k ∧ T ++ edP q (ps.drop k) = edP ha ps ∧ OwE wr wp.heap.size v0 T ∧ Below wp.heap.size wp wr) (fun _ _ i _ => M - (intOf i).toNat)
  case atStart => exact ⟨0, [], ha, _, rfl, Nat.zero_le _, rfl, rfl, ⟨hz.1, by have := Hn.out; rw [List.drop_zero]; omega⟩, Nat.le_refl _, rfl, OwE.nil _ _, Below.refl _ _⟩
  case round =>
    obtain ⟨k, T, q, v, rfl, hk, rfl, rfl, ⟨hq1, hq2⟩, hT, hpre, hown, hb⟩ := hrel
    have Hb := hide hb
    have Hown := hide hown
    have Hpre := hide hpre
    clear hb hown hpre
    by_cases hlt : k < M
    · obtain ⟨b, o, p, A1, c1, A2, c2, A3, c3, rfl, hpk, ⟨k0, k1, k2⟩, v1, v2, v3⟩ := Hps.out.at (w' := wr) (fun b h1 h2 => Hb.out.block b h2) (k := k) (by have := HM.out; omega)
      have hbw : ∀ b, b < w.heap.size → wr.heap[b]? = wb.heap[b]? := fun b hb => ((Hb.out.block b (by have := Hbp.out.size; omega)).trans (Hbp.out.block b hb)).trans (Hbb.out.block b hb).symm
      have V3 := hide (show Vs wr (fun b => b < w.heap.size) A3 c3 (texts (mk 43 p.cm)) from Lw.Vs.move v3 fun b hb _ => hbw b hb)
      rw [drop_one hpk] at hq2
      rw [drop_one hpk, edP] at Hpre
      rw [lay_len] at hq2
      obtain ⟨ls, hls⟩ : ∃ ls, ls = p.st.length := ⟨_, rfl⟩
      obtain ⟨lg, hlg⟩ : ∃ lg, lg = p.gn.length := ⟨_, rfl⟩
      obtain ⟨lc, hlc⟩ : ∃ lc, lc = p.cm.length := ⟨_, rfl⟩
      have hbig : ls + (lg + lc) ≤ 100000 := by
        have h1 := congrArg List.length (congrArg lay (List.take_append_drop k ps))
        rw [lay_append, List.length_append, drop_one hpk, lay_len, ← hls, ← hlg, ← hlc] at h1
        have := Hn.out
        omega
      rw [← hls] at k0 Hpre hq2
      rw [← hlg] at k1 Hpre hq2
      rw [← hlc] at k2 hq2
      have Hlc := hide hlc
      obtain ⟨X, hX⟩ : ∃ X, X = (lay (ps.drop (k + 1))).length := ⟨_, rfl⟩
      rw [← hX] at hq2
      have HX := hide hX
      clear hpk v1 v2 v3 hbw hls hlg hlc hX
      have hq3 : q ≤ 1099511627776 + 100000 := by omega
      have Hq := hide (show -1099511627776 ≤ q + ls + lg ∧ q + ls + lg + X ≤ 1099511627776 + 100000 by omega)
      have HTk := hide hT
      have hTM : T.length ≤ 100000 := by omega
      have HTM := hide hTM
      clear hT hTM hq2
      have Hrow := hide (Row.fresh wr tP #[.slice A1 ls c1, .slice A2 lg c2, .slice A3 lc c3])
      have hbx : Below wr.heap.size wr (wr.alloc (.cells #[.slice A1 ls c1, .slice A2 lg c2, .slice A3 lc c3] tP)) := (Below.refl _ wr).alloc (Nat.le_refl _) _
      have Hownx := hide (Hown.out.keep hbx)
      have Hbx := hide (Hb.out.trans (hbx.mono Hb.out.size))
      have Hvx := hide (Lw.Vs.below V3.out hbx)
      by_cases h0 : lg = 0 ∧ lc = 0
      · obtain ⟨h01, h02⟩ := h0
        have hcm : p.cm = [] := List.eq_nil_of_length_eq_zero (by rw [← Hlc.out]; exact h02)
        have Hp2 := hide (show T ++ edP (q + ls + lg) (ps.drop (k + 1)) = edP ha ps by
          rw [← Hpre.out, emitZ, if_pos ⟨by omega, hcm⟩, List.nil_append])
        clear hcm Hpre
        have hd1 : decide (0 < lg) = false := decide_eq_false (by omega)
        have hd2 : decide (0 < lc) = false := decide_eq_false (by omega)
        subst h01 h02
        clear hd1 hd2
        go_wp2_with fail
        have hX := HX.out
        exact ⟨⟨k + 1, T, q + ls + ((0 : Nat) : Int), _, rfl, by omega, by go_num, by simp, ⟨Hq.out.1, by rw [← hX]; exact Hq.out.2⟩, by have := HTk.out; omega, Hp2.out, Hownx.out, Hbx.out⟩, by simp [intOf]; omega⟩
      have hcm : ¬ ((lg : Int) = 0 ∧ p.cm = []) := by
        rintro ⟨h1, h2⟩
        exact h0 ⟨by omega, by rw [Hlc.out, h2]; rfl⟩
      have Hp2 := hide (show (T ++ [⟨q + ls, lg, p.cm⟩]) ++ edP (q + ls + lg) (ps.drop (k + 1)) = edP ha ps by
        rw [← Hpre.out, emitZ, if_neg hcm, List.append_assoc])
      clear hcm Hpre
      have key : decide (0 < lg) = true ∨ (decide (0 < lg) = false ∧ decide (0 < lc) = true) := by
        by_cases h1 : 0 < lg
        · exact .inl (decide_eq_true h1)
        · exact .inr ⟨decide_eq_false h1, decide_eq_true (by omega)⟩
      clear h0
      have hlp : ∀ z : Int, z ≤ 100000 → 0 ≤ z → IntKind.i64.wrap (q + ls + z) = q + ls + z := fun z h1 h2 => IntWalk.i64_in _ (by omega)
      obtain ⟨wx, hwx⟩ : ∃ wx, wx = wr.alloc (.cells #[.slice A1 ls c1, .slice A2 lg c2, .slice A3 lc c3] tP) := ⟨_, rfl⟩
      obtain ⟨g, hgw⟩ : ∃ g, g = wr.heap.size := ⟨_, rfl⟩
      rw [← hwx, ← hgw] at Hrow
      rw [← hwx] at Hownx Hbx Hvx
      have HWx := hide hwx
      have HGw := hide hgw
      clear hwx hgw hbx
      rcases key with key | ⟨key, key2⟩
      · go_wp2_with fail
        rw [← HWx.out, ← HGw.out]
        have b1 := Hrow.out.cell 1
        have b2 := Hrow.out.cell 2
        simp only [List.getElem?_cons_zero, List.getElem?_cons_succ] at b1 b2
        refine Rg.wp_region_ord (fun w' => w'.cell? ⟨g, 1, none⟩ = some (.slice A2 lg c2) ∧ w'.cell? ⟨g, 2, none⟩ = some (.slice A3 lc c3)) [(0, true), (1, true), (2, true), (3, true), (4, true), (5, true), (6, true), (7, false), (8, true), (9, false), (10, false), (11, true)] (by kernel_rfl) (by kernel_rfl) ?_
        simp only [Rg.pick, List.map_cons, List.map_nil, List.getD_cons_zero, List.getD_cons_succ]
        iterate 7 (refine Rg.ord_quiet (v := ?_) rfl (fun w' hS => ?_) ⟨b1, b2⟩ ?_; rotate_left; (obtain ⟨s1, s2⟩ := hS; go_simp; with_reducible rfl); simp only [Act.put, List.setIfInBounds_toArray, List.set_cons_succ, List.set_cons_zero])
        refine Rg.ord_loud rfl (fun K hK => ?_)
        go_simp
        have Hvd := hide (vs_drew Hvx.out)
        rw [Hlc.out]
        refine (bare_any 43 p.cm A3 c3 _ wx.drew Hvd.out (by rw [← Hlc.out]; omega)).mono ?_
        rintro y w2 ⟨v2, rfl, hown2, hb2⟩
        obtain ⟨Ai, ni, ci, rfl⟩ := owt_form hown2
        have Hown2 := hide (owt_base hown2 (show wp.heap.size ≤ _ from Hbx.out.size))
        have Hownw := hide (Hownx.out.drew.keep hb2)
        have hb2' : Below wp.heap.size wp w2 := Hbx.out.drew.trans (hb2.mono Hbx.out.size)
        have Hb2 := hide hb2'
        have hrow2 := Hrow.out.drew.below hb2 Hrow.out.lt
        have b1 := hrow2.cell 1
        have b2 := hrow2.cell 2
        simp only [List.getElem?_cons_zero, List.getElem?_cons_succ] at b1 b2
        rw [Hlc.out] at b2
        have Hrow2 := hide hrow2
        refine hK _ _ (fun _ => ⟨b1, by rw [Hlc.out]; exact b2⟩) ?_
        clear hK K hb2 hb2' hown2 hrow2
        have b2' : w2.cell? ⟨g, 2, none⟩ = some (.slice A3 lc c3) := by rw [Hlc.out]; exact b2
        iterate 1 (refine Rg.ord_quiet (v := ?_) rfl (fun w' hS => ?_) ⟨b1, b2'⟩ ?_; rotate_left; (obtain ⟨s1, s2⟩ := hS; go_simp; with_reducible rfl); simp only [Act.put, List.setIfInBounds_toArray, List.set_cons_succ, List.set_cons_zero])
        refine Rg.ord_loud rfl (fun K hK => ?_)
        go_simp
        have hrow3 := fun o => Hrow2.out.alloc o
        refine hK _ _ (fun _ => ⟨(hrow3 _).cell 1, (hrow3 _).cell 2⟩) ?_
        clear hK K
        try simp only [Act.put, List.setIfInBounds_toArray, List.set_cons_succ, List.set_cons_zero]
        refine Rg.ord_loud rfl (fun K hK => ?_)
        refine wp_pushE (.tmp 35) (.tmp 44) rfl wp.heap.size wp v (.slice Ai ni ci) T ⟨q + ls, lg, p.cm⟩ _ rfl rfl rfl Hownw.out Hown2.out (by have := HTM.out; omega) Hb2.out Hb2.out.size ?_
        intro v4 w4 hown4 hb4 hg4
        have hrow4 := Hrow2.out.grown hg4 (fun e => by
          obtain ⟨V, _, hr, _⟩ := Hownw.out
          rcases hr.2 with ⟨rfl, _⟩ | ⟨g', cap', cur', rfl, _, hgg', _⟩
          · cases e
          · simp only [Value.ownBlock, Option.some.injEq] at e
            subst e
            have := Hrow2.out
            unfold Row at this
            rw [hgg'] at this
            simp [tP, tE] at this)
        refine hK _ _ (fun _ => ⟨hrow4.cell 1, hrow4.cell 2⟩) ?_
        clear hK K
        simp only [Act.put, List.setIfInBounds_toArray, List.set_cons_succ, List.set_cons_zero]
        iterate 1 (refine Rg.ord_quiet (v := ?_) rfl (fun w' hS => ?_) ⟨hrow4.cell 1, hrow4.cell 2⟩ ?_; rotate_left; (go_simp; with_reducible rfl); simp only [Act.put, List.setIfInBounds_toArray, List.set_cons_succ, List.set_cons_zero])
        refine Rg.ord_nil ?_
        have d1 := hrow4.cell 1
        simp only [List.getElem?_cons_zero, List.getElem?_cons_succ] at d1
        clear hrow4 hrow3 hg4 b1 b2 b2'
        go_wp2
        have hX := HX.out
        exact ⟨⟨k + 1, _, q + ls + lg, _, rfl, by omega, by go_num, rfl, ⟨Hq.out.1, by rw [← hX]; exact Hq.out.2⟩, by have := HTk.out; rw [List.length_append, List.length_singleton]; omega, Hp2.out, hown4, hb4⟩, by simp [intOf]; omega⟩
      · go_wp2_with fail
        rw [← HWx.out, ← HGw.out]
        have b1 := Hrow.out.cell 1
        have b2 := Hrow.out.cell 2
        simp only [List.getElem?_cons_zero, List.getElem?_cons_succ] at b1 b2
        refine Rg.wp_region_ord (fun w' => w'.cell? ⟨g, 1, none⟩ = some (.slice A2 lg c2) ∧ w'.cell? ⟨g, 2, none⟩ = some (.slice A3 lc c3)) [(0, true), (1, true), (2, true), (3, true), (4, true), (5, true), (6, true), (7, false), (8, true), (9, false), (10, false), (11, true)] (by kernel_rfl) (by kernel_rfl) ?_
        simp only [Rg.pick, List.map_cons, List.map_nil, List.getD_cons_zero, List.getD_cons_succ]
        iterate 7 (refine Rg.ord_quiet (v := ?_) rfl (fun w' hS => ?_) ⟨b1, b2⟩ ?_; rotate_left; (obtain ⟨s1, s2⟩ := hS; go_simp; with_reducible rfl); simp only [Act.put, List.setIfInBounds_toArray, List.set_cons_succ, List.set_cons_zero])
        refine Rg.ord_loud rfl (fun K hK => ?_)
        go_simp
        have Hvd := hide (vs_drew Hvx.out)
        rw [Hlc.out]
        refine (bare_any 43 p.cm A3 c3 _ wx.drew Hvd.out (by rw [← Hlc.out]; omega)).mono ?_
        rintro y w2 ⟨v2, rfl, hown2, hb2⟩
        obtain ⟨Ai, ni, ci, rfl⟩ := owt_form hown2
        have Hown2 := hide (owt_base hown2 (show wp.heap.size ≤ _ from Hbx.out.size))
        have Hownw := hide (Hownx.out.drew.keep hb2)
        have hb2' : Below wp.heap.size wp w2 := Hbx.out.drew.trans (hb2.mono Hbx.out.size)
        have Hb2 := hide hb2'
        have hrow2 := Hrow.out.drew.below hb2 Hrow.out.lt
        have b1 := hrow2.cell 1
        have b2 := hrow2.cell 2
        simp only [List.getElem?_cons_zero, List.getElem?_cons_succ] at b1 b2
        rw [Hlc.out] at b2
        have Hrow2 := hide hrow2
        refine hK _ _ (fun _ => ⟨b1, by rw [Hlc.out]; exact b2⟩) ?_
        clear hK K hb2 hb2' hown2 hrow2
        have b2' : w2.cell? ⟨g, 2, none⟩ = some (.slice A3 lc c3) := by rw [Hlc.out]; exact b2
        iterate 1 (refine Rg.ord_quiet (v := ?_) rfl (fun w' hS => ?_) ⟨b1, b2'⟩ ?_; rotate_left; (obtain ⟨s1, s2⟩ := hS; go_simp; with_reducible rfl); simp only [Act.put, List.setIfInBounds_toArray, List.set_cons_succ, List.set_cons_zero])
        refine Rg.ord_loud rfl (fun K hK => ?_)
        go_simp
        have hrow3 := fun o => Hrow2.out.alloc o
        refine hK _ _ (fun _ => ⟨(hrow3 _).cell 1, (hrow3 _).cell 2⟩) ?_
        clear hK K
        try simp only [Act.put, List.setIfInBounds_toArray, List.set_cons_succ, List.set_cons_zero]
        refine Rg.ord_loud rfl (fun K hK => ?_)
        refine wp_pushE (.tmp 35) (.tmp 44) rfl wp.heap.size wp v (.slice Ai ni ci) T ⟨q + ls, lg, p.cm⟩ _ rfl rfl rfl Hownw.out Hown2.out (by have := HTM.out; omega) Hb2.out Hb2.out.size ?_
        intro v4 w4 hown4 hb4 hg4
        have hrow4 := Hrow2.out.grown hg4 (fun e => by
          obtain ⟨V, _, hr, _⟩ := Hownw.out
          rcases hr.2 with ⟨rfl, _⟩ | ⟨g', cap', cur', rfl, _, hgg', _⟩
          · cases e
          · simp only [Value.ownBlock, Option.some.injEq] at e
            subst e
            have := Hrow2.out
            unfold Row at this
            rw [hgg'] at this
            simp [tP, tE] at this)
        refine hK _ _ (fun _ => ⟨hrow4.cell 1, hrow4.cell 2⟩) ?_
        clear hK K
        simp only [Act.put, List.setIfInBounds_toArray, List.set_cons_succ, List.set_cons_zero]
        iterate 1 (refine Rg.ord_quiet (v := ?_) rfl (fun w' hS => ?_) ⟨hrow4.cell 1, hrow4.cell 2⟩ ?_; rotate_left; (go_simp; with_reducible rfl); simp only [Act.put, List.setIfInBounds_toArray, List.set_cons_succ, List.set_cons_zero])
        refine Rg.ord_nil ?_
        have d1 := hrow4.cell 1
        simp only [List.getElem?_cons_zero, List.getElem?_cons_succ] at d1
        clear hrow4 hrow3 hg4 b1 b2 b2'
        go_wp2
        have hX := HX.out
        exact ⟨⟨k + 1, _, q + ls + lg, _, rfl, by omega, by go_num, rfl, ⟨Hq.out.1, by rw [← hX]; exact Hq.out.2⟩, by have := HTk.out; rw [List.length_append, List.length_singleton]; omega, Hp2.out, hown4, hb4⟩, by simp [intOf]; omega⟩
    · obtain rfl : k = M := by omega
      have Hf := hide (show T = edP ha ps by rw [← Hpre.out, HM.out, List.drop_length, edP, List.append_nil])
      go_wp2
      go_ret
      exact ⟨_, rfl, by rw [← Hf.out]; exact Hown.out.base (by have := Hbp.out.size; omega), Hbp.out.trans (Hb.out.mono Hbp.out.size)⟩
end Go.Proofs.YtnehgogajghefaaGreatDoor.Hu
namespace Go.Proofs.YtnehgogajghefaaGreatDoor.Hu
open Df

def hedits (h : Hk) : List Ed := edL h.a none h.lines
def hturn (h : Hk) : Hk := ⟨h.b, h.bn, h.a, h.an, turnA [] [] h.lines⟩
theorem hright_iff (h : Hk) : hright h = true ↔ okF false h.lines = true ∧ 0 ≤ h.a ∧ 0 ≤ h.b ∧ h.an = many 45 h.lines ∧ h.bn = many 43 h.lines := by
  unfold hright
  simp only [Bool.and_eq_true, decide_eq_true_eq]
  exact ⟨fun ⟨a, ⟨⟨b, c⟩, d⟩, e⟩ => ⟨a, b, c, d, e⟩, fun ⟨a, b, c, d, e⟩ => ⟨a, ⟨⟨b, c⟩, d⟩, e⟩⟩
/-- a right hunk by its parts -/
theorem hparts {h : Hk} (hr : hright h = true) : ∃ ps, Good ps ∧ h.lines = lay ps ∧ hedits h = edP h.a ps ∧ (hturn h).lines = lay (ps.map swp) ∧ hright (hturn h) = true ∧ hturn (hturn h) = h ∧ hedits (hturn h) = edP h.b (ps.map swp) := by
  obtain ⟨h1, h2, h3, h4, h5⟩ := (hright_iff h).1 hr
  obtain ⟨ps, hg, hl, _⟩ := parts_of _ _ h1
  have ht : (hturn h).lines = lay (ps.map swp) := by rw [hturn, hl, turnA_lay ps hg]
  refine ⟨ps, hg, hl, by rw [hedits, hl, edL_lay ps _ hg], ht, ?_, ?_, ?_⟩
  · rw [hright_iff, ht]
    refine ⟨okF_lay _ hg.swp, h3, h2, ?_, ?_⟩
    · rw [(many_lay ps).1, ← hl]; exact h5
    · rw [(many_lay ps).2, ← hl]; exact h4
  · cases h
    simp only [hturn] at ht ⊢
    rw [ht, turnA_lay _ hg.swp, swp_swp, ← hl]
  · rw [hedits, ht, edL_lay _ _ hg.swp]; rfl
theorem edP_swp_len : ∀ (ps : List Pt) (z z' : Int), (edP z (ps.map swp)).length = (edP z' ps).length
  | [], _, _ => rfl
  | p :: r, z, z' => by
    rw [List.map_cons, edP, edP, List.length_append, List.length_append, edP_swp_len r _ (z' + p.st.length + p.gn.length)]
    congr 1
    unfold emitZ swp
    have key : (((p.cm.length : Int) = 0 ∧ p.gn = []) ↔ ((p.gn.length : Int) = 0 ∧ p.cm = [])) := by
      constructor
      · rintro ⟨h1, h2⟩; exact ⟨by rw [h2]; rfl, List.eq_nil_of_length_eq_zero (by omega)⟩
      · rintro ⟨h1, h2⟩; exact ⟨by rw [h2]; rfl, List.eq_nil_of_length_eq_zero (by omega)⟩
    by_cases h : ((p.gn.length : Int) = 0 ∧ p.cm = [])
    · rw [if_pos h, if_pos (key.2 h)]
    · rw [if_neg h, if_neg fun k => h (key.1 k)]; rfl

/-- behind an edit -/
def fin (e : Ed) : Int := e.pos + e.del
/-- those behind a first edit that are in one hunk with it, and the others -/
def spl (r : Nat) : Ed → List Ed → List Ed × List Ed
  | _, [] => ([], [])
  | e, f :: l => if f.pos - fin e ≤ 2 * r then (f :: (spl r f l).1, (spl r f l).2) else ([], f :: l)
theorem spl_eq (r : Nat) : ∀ (l : List Ed) (e : Ed), (spl r e l).1 ++ (spl r e l).2 = l
  | [], _ => rfl
  | f :: l, e => by
    rw [spl]
    split
    · rw [List.cons_append, spl_eq r l f]
    · rfl
theorem spl_len (r : Nat) (l : List Ed) (e : Ed) : (spl r e l).1.length + (spl r e l).2.length = l.length := by
  have := congrArg List.length (spl_eq r l e)
  rwa [List.length_append] at this
def lastF : Int → List Ed → Int
  | z, [] => z
  | _, e :: l => lastF (fin e) l
theorem spl_gap (r : Nat) : ∀ (l : List Ed) (e : Ed) (f : Ed) (t : List Ed), (spl r e l).2 = f :: t → 2 * r < f.pos - lastF (fin e) (spl r e l).1
  | [], _, _, _, h => by cases h
  | f' :: l, e, f, t, h => by
    rw [spl] at h ⊢
    split at h
    · rename_i hc
      rw [if_pos hc, lastF]
      exact spl_gap r l f' f t h
    · rename_i hc
      rw [if_neg hc, lastF]
      simp only [List.cons.injEq] at h
      rw [← h.1]; omega
/-- a hunk's parts: lines from 'z' on -/
def pts (a : Ls) (r : Nat) : Nat → List Ed → List Pt
  | z, [] => if (a.drop z).take r = [] then [] else [⟨(a.drop z).take r, [], []⟩]
  | z, e :: g => ⟨(a.drop z).take (e.pos.toNat - z), (a.drop e.pos.toNat).take e.del.toNat, e.ins⟩ :: pts a r (e.pos.toNat + e.del.toNat) g
/-- with which line a hunk begins -/
def from_ (r : Nat) (e : Ed) : Nat := (e.pos - r).toNat
def oneH (a : Ls) (r : Nat) (more : Int) (g : List Ed) (z : Nat) : Hk :=
  ⟨z, many 45 (lay (pts a r z g)), z + more, many 43 (lay (pts a r z g)), lay (pts a r z g)⟩
def mkHs (a : Ls) (r : Nat) : Int → List Ed → List Hk
  | _, [] => []
  | more, e :: l => oneH a r more (e :: (spl r e l).1) (from_ r e) ::
      mkHs a r (more + ((oneH a r more (e :: (spl r e l).1) (from_ r e)).bn - (oneH a r more (e :: (spl r e l).1) (from_ r e)).an)) (spl r e l).2
termination_by _ l => l.length
decreasing_by
  have := spl_len r l e
  simp only [List.length_cons]
  omega
theorem right_app (n : Nat) : ∀ (g t : List Ed) (last : Int), right n last (g ++ t) = true → -1 ≤ last → right n last g = true ∧ right n (lastF last g) t = true ∧ last ≤ lastF last g ∧ (g ≠ [] → lastF last g ≤ n)
  | [], t, last, h, _ => ⟨rfl, h, Int.le_refl _, fun h => absurd rfl h⟩
  | e :: g, t, last, h, hl => by
    obtain ⟨p, d, ep, ed, hpd, hlp, hne, hr⟩ := right_head h hl
    obtain ⟨k1, k2, k3, k4⟩ := right_app n g t _ hr (by omega)
    have hf : fin e = ((p + d : Nat) : Int) := by unfold fin; rw [ep, ed]; omega
    rw [lastF, hf]
    refine ⟨?_, k2, by omega, fun _ => ?_⟩
    · rw [List.cons_append, right_cons] at h
      rw [right_cons]
      refine ⟨h.1, ?_⟩
      rw [ep, ed]
      exact k1
    · cases g with
      | nil => rw [lastF]; omega
      | cons _ _ => exact k4 (by simp)
theorem pts_good (a : Ls) (r : Nat) : ∀ (g : List Ed) (z : Nat) (last : Int), right a.length last g = true → -1 ≤ last → (z : Int) ≤ last + 1 ∨ (∀ e t, g = e :: t → (z : Int) ≤ e.pos) → z ≤ a.length →
    Good (pts a r z g) ∧ ((z : Int) = last → ∀ q t, pts a r z g = q :: t → q.st ≠ [])
  | [], z, last, _, _, _, hz => by
    rw [pts]
    split
    · exact ⟨trivial, fun _ q t h => by cases h⟩
    · rename_i h
      exact ⟨⟨.inl h, (fun q t h => by cases h), trivial⟩, fun _ q t h' => by cases h'; exact h⟩
  | e :: g, z, last, hr, hl, hzl, hz => by
    obtain ⟨p, d, ep, ed, hpd, hlp, hne, hr'⟩ := right_head hr hl
    obtain ⟨k1, k2⟩ := pts_good a r g (p + d) _ hr' (by omega) (.inl (by omega)) hpd
    have hzp : z ≤ p := by
      rcases hzl with h | h
      · omega
      · have := h e g rfl; omega
    rw [pts, ep, ed]
    simp only [Int.toNat_natCast]
    have hgc : (a.drop p).take d ≠ [] ∨ e.ins ≠ [] := by
      rcases hne with h | h
      · left
        intro h0
        have := congrArg List.length h0
        rw [List.length_take, List.length_drop, List.length_nil] at this
        omega
      · exact .inr h
    refine ⟨⟨?_, fun q t h => ⟨hgc, k2 rfl q t h⟩, k1⟩, fun hzl q t h => ?_⟩
    · rcases hgc with h | h
      · exact .inr (.inl h)
      · exact .inr (.inr h)
    · injection h with h1 _
      rw [← h1]
      intro h0
      have := congrArg List.length h0
      simp only [List.length_take, List.length_drop, List.length_nil] at this
      omega
theorem pts_edits (a : Ls) (r : Nat) : ∀ (g : List Ed) (z : Nat) (last : Int), right a.length last g = true → -1 ≤ last → (z : Int) ≤ last + 1 ∨ (∀ e t, g = e :: t → (z : Int) ≤ e.pos) → edP z (pts a r z g) = g
  | [], z, last, _, _, _ => by
    rw [pts]
    split
    · rfl
    · rw [edP, edP, emitZ, if_pos ⟨rfl, rfl⟩]; rfl
  | e :: g, z, last, hr, hl, hzl => by
    obtain ⟨p, d, ep, ed, hpd, hlp, hne, hr'⟩ := right_head hr hl
    have ih := pts_edits a r g (p + d) _ hr' (by omega) (.inl (by omega))
    have hzp : z ≤ p := by
      rcases hzl with h | h
      · omega
      · have := h e g rfl; omega
    rw [pts, ep, ed]
    simp only [Int.toNat_natCast]
    rw [edP]
    simp only [List.length_take, List.length_drop]
    rw [show min (p - z) (a.length - z) = p - z by omega, show min d (a.length - p) = d by omega, show (z : Int) + ((p - z : Nat) : Int) = (p : Int) by omega, show (p : Int) + (d : Int) = ((p + d : Nat) : Int) by omega, ih, emitZ, if_neg]
    · obtain ⟨p', d', i⟩ := e
      simp only at ep ed
      subst ep ed
      rfl
    · rintro ⟨h1, h2⟩
      rcases hne with h | h
      · omega
      · exact h h2
def delta : List Ed → Int
  | [] => 0
  | e :: g => e.ins.length - e.del + delta g
theorem delta_append : ∀ g t : List Ed, delta (g ++ t) = delta g + delta t
  | [], t => by simp [delta]
  | e :: g, t => by rw [List.cons_append, delta, delta, delta_append g t]; omega
theorem turn_append (a : Ls) : ∀ (g t : List Ed) (more : Int), turn a more (g ++ t) = turn a more g ++ turn a (more + delta g) t
  | [], t, more => by simp [turn, delta]
  | e :: g, t, more => by
    rw [List.cons_append, turn, turn, turn_append a g t, delta, List.cons_append]
    congr 3
    omega
theorem pts_turn (a : Ls) (r : Nat) : ∀ (g : List Ed) (z : Nat) (last more : Int), right a.length last g = true → -1 ≤ last → (z : Int) ≤ last + 1 ∨ (∀ e t, g = e :: t → (z : Int) ≤ e.pos) → edP (z + more) ((pts a r z g).map swp) = turn a more g
  | [], z, last, more, _, _, _ => by
    rw [pts]
    split
    · rfl
    · rw [List.map_cons, edP, swp, emitZ, if_pos ⟨rfl, rfl⟩]; rfl
  | e :: g, z, last, more, hr, hl, hzl => by
    obtain ⟨p, d, ep, ed, hpd, hlp, hne, hr'⟩ := right_head hr hl
    have ih := pts_turn a r g (p + d) _ (more + e.ins.length - d) hr' (by omega) (.inl (by omega))
    have hzp : z ≤ p := by
      rcases hzl with h | h
      · omega
      · have := h e g rfl; omega
    rw [pts, turn, ep, ed]
    simp only [Int.toNat_natCast]
    rw [List.map_cons, edP, swp]
    have hld : ((a.drop p).take d).length = d := by rw [List.length_take, List.length_drop]; omega
    have hls : ((a.drop z).take (p - z)).length = p - z := by rw [List.length_take, List.length_drop]; omega
    simp only [hls]
    rw [show (z : Int) + more + ((p - z : Nat) : Int) = p + more by omega, show (p : Int) + more + (e.ins.length : Int) = ((p + d : Nat) : Int) + (more + e.ins.length - d) by omega, ih, emitZ, if_neg]
    · rfl
    · rintro ⟨h1, h2⟩
      rcases hne with h | h
      · rw [h2] at hld; exact h hld.symm
      · exact h (List.eq_nil_of_length_eq_zero (by omega))
/-- how many lines a hunk has of the old ones -/
theorem pts_old (a : Ls) (r : Nat) : ∀ (g : List Ed) (z : Nat) (last : Int), right a.length last g = true → -1 ≤ last → (z : Int) ≤ last + 1 ∨ (∀ e t, g = e :: t → (z : Int) ≤ e.pos) → z ≤ a.length →
    (many 45 (lay (pts a r z g)) : Int) = min (lastF z g + r) a.length - z
  | [], z, last, _, _, _, hz => by
    rw [pts, lastF]
    split
    · rename_i h
      have := congrArg List.length h
      rw [List.length_take, List.length_drop, List.length_nil] at this
      simp only [lay, many]
      omega
    · simp only [lay, List.append_nil, many_old, List.length_take, List.length_drop, List.length_nil]
      omega
  | e :: g, z, last, hr, hl, hzl, hz => by
    obtain ⟨p, d, ep, ed, hpd, hlp, hne, hr'⟩ := right_head hr hl
    have ih := pts_old a r g (p + d) _ hr' (by omega) (.inl (by omega)) hpd
    have hzp : z ≤ p := by
      rcases hzl with h | h
      · omega
      · have := h e g rfl; omega
    have hf : fin e = ((p + d : Nat) : Int) := by unfold fin; rw [ep, ed]; omega
    rw [pts, lastF, hf, ep, ed]
    simp only [Int.toNat_natCast]
    rw [lay, many_append, many_old]
    simp only [List.length_take, List.length_drop]
    omega
theorem pts_delta (a : Ls) (r : Nat) : ∀ (g : List Ed) (z : Nat) (last : Int), right a.length last g = true → -1 ≤ last →
    (many 43 (lay (pts a r z g)) : Int) - many 45 (lay (pts a r z g)) = delta g
  | [], z, last, _, _ => by
    rw [pts, delta]
    split
    · simp [lay, many]
    · simp only [lay, List.append_nil, many_old, many_new, List.length_nil]; omega
  | e :: g, z, last, hr, hl => by
    obtain ⟨p, d, ep, ed, hpd, hlp, hne, hr'⟩ := right_head hr hl
    have ih := pts_delta a r g (p + d) _ hr' (by omega)
    rw [pts, delta, ep, ed]
    simp only [Int.toNat_natCast]
    rw [lay, many_append, many_append, many_old, many_new]
    simp only [List.length_take, List.length_drop]
    omega
end Go.Proofs.YtnehgogajghefaaGreatDoor.Hu
namespace Go.Proofs.YtnehgogajghefaaGreatDoor.Hu
open Df

theorem lastF_delta (n : Nat) : ∀ (g : List Ed) (last z : Int), right n last g = true → -1 ≤ last → z ≤ last + 1 → z ≤ lastF z g + delta g
  | [], _, z, _, _, _ => by simp [lastF, delta]
  | e :: g, last, z, hr, hl, hz => by
    obtain ⟨p, d, ep, ed, hpd, hlp, hne, hr'⟩ := right_head hr hl
    have hf : fin e = ((p + d : Nat) : Int) := by unfold fin; rw [ep, ed]; omega
    have := lastF_delta n g _ ((p + d : Nat) : Int) hr' (by omega) (by omega)
    rw [lastF, delta, hf, ed]
    omega
theorem mkHs_cons (a : Ls) (r : Nat) (more : Int) (e : Ed) (l : List Ed) : mkHs a r more (e :: l) = oneH a r more (e :: (spl r e l).1) (from_ r e) ::
      mkHs a r (more + ((oneH a r more (e :: (spl r e l).1) (from_ r e)).bn - (oneH a r more (e :: (spl r e l).1) (from_ r e)).an)) (spl r e l).2 := by rw [mkHs]
theorem mkHs_nil (a : Ls) (r : Nat) (more : Int) : mkHs a r more [] = [] := by rw [mkHs]
theorem from_le (r : Nat) (e : Ed) (p : Nat) (h : e.pos = p) : from_ r e ≤ p := by unfold from_; omega
/-- a hunk of right edits -/
theorem one_facts (a : Ls) (r : Nat) (more : Int) (e : Ed) (g : List Ed) (last : Int) (hr : right a.length last (e :: g) = true) (hl : -1 ≤ last) (hb : 0 ≤ (from_ r e : Int) + more) :
    hright (oneH a r more (e :: g) (from_ r e)) = true ∧ hedits (oneH a r more (e :: g) (from_ r e)) = e :: g ∧ hedits (hturn (oneH a r more (e :: g) (from_ r e))) = turn a more (e :: g) ∧
      ((oneH a r more (e :: g) (from_ r e)).bn - (oneH a r more (e :: g) (from_ r e)).an = delta (e :: g)) ∧ (from_ r e : Int) + (oneH a r more (e :: g) (from_ r e)).an = min (lastF (fin e) g + r) a.length := by
  obtain ⟨p, d, ep, ed, hpd, hlp, hne, hr'⟩ := right_head hr hl
  have hf := from_le r e p ep
  have hz : ((from_ r e : Nat) : Int) ≤ last + 1 ∨ (∀ e' t, e :: g = e' :: t → ((from_ r e : Nat) : Int) ≤ e'.pos) := by
    refine .inr fun e' t h => ?_
    injection h with h1 _
    subst h1
    rw [ep]; omega
  obtain ⟨hg, _⟩ := pts_good a r (e :: g) (from_ r e) last hr hl hz (by omega)
  have hright' : hright (oneH a r more (e :: g) (from_ r e)) = true := by
    rw [hright_iff]
    exact ⟨okF_lay _ hg, by simp [oneH], by simpa [oneH] using hb, rfl, rfl⟩
  refine ⟨hright', ?_, ?_, ?_, ?_⟩
  · rw [hedits, oneH, edL_lay _ _ hg]
    exact pts_edits a r (e :: g) (from_ r e) last hr hl hz
  · rw [hedits, hturn, oneH]
    simp only
    rw [turnA_lay _ hg, edL_lay _ _ hg.swp]
    exact pts_turn a r (e :: g) (from_ r e) last more hr hl hz
  · exact pts_delta a r (e :: g) (from_ r e) last hr hl
  · have := pts_old a r (e :: g) (from_ r e) last hr hl hz (by omega)
    rw [lastF] at this
    simp only [oneH]
    omega
theorem mk_facts (a : Ls) (r : Nat) : ∀ (k : Nat) (l : List Ed) (more last e0 : Int), l.length ≤ k → right a.length last l = true → -1 ≤ last → 0 ≤ e0 → e0 ≤ last + 1 → (∀ e t, l = e :: t → e0 ≤ from_ r e) → 0 ≤ e0 + more →
    (∀ h ∈ mkHs a r more l, hright h = true) ∧ (mkHs a r more l).flatMap hedits = l ∧ (mkHs a r more l).flatMap (fun h => hedits (hturn h)) = turn a more l
  | _, [], more, _, _, _, _, _, _, _, _, _ => by
    rw [mkHs_nil]
    exact ⟨(fun h hh => by cases hh), rfl, rfl⟩
  | 0, e :: l, _, _, _, h, _, _, _, _, _, _ => by simp at h
  | k + 1, e :: l, more, last, e0, hk, hr, hl, he0, hel, hgap, hb => by
    have hsp := spl_eq r l e
    have hsl := spl_len r l e
    have hsg := spl_gap r l e
    obtain ⟨g, hg⟩ : ∃ g, g = (spl r e l).1 := ⟨_, rfl⟩
    obtain ⟨t, ht⟩ : ∃ t, t = (spl r e l).2 := ⟨_, rfl⟩
    rw [mkHs_cons, ← hg, ← ht]
    rw [← hg, ← ht] at hsp hsl hsg
    have hr2 : right a.length last ((e :: g) ++ t) = true := by rw [List.cons_append, hsp]; exact hr
    obtain ⟨r1, r2, r3, r4⟩ := right_app a.length (e :: g) t last hr2 hl
    have hge := hgap e l rfl
    obtain ⟨f1, f2, f3, f4, f5⟩ := one_facts a r more e g last r1 hl (by omega)
    rw [f4]
    have hld := lastF_delta a.length (e :: g) last e0 r1 hl hel
    rw [lastF] at hld r2 r3 r4
    simp only [List.length_cons] at hk
    have hl0 : 0 ≤ lastF (fin e) g := by
      obtain ⟨p, d, ep, ed, hpd, hlp, hne, hr'⟩ := right_head r1 hl
      have hf : fin e = ((p + d : Nat) : Int) := by unfold fin; rw [ep, ed]; omega
      have := (right_app a.length g [] _ (by rw [List.append_nil]; exact hr') (by omega)).2.2.1
      rw [hf]; omega
    have ih := mk_facts a r k t (more + delta (e :: g)) _ (lastF (fin e) g) (by omega) r2 (by omega) (by omega) (by omega) (fun f t' h => by
      have := hsg f t' h
      unfold from_
      omega) (by omega)
    obtain ⟨i1, i2, i3⟩ := ih
    refine ⟨fun h hh => ?_, ?_, ?_⟩
    · rcases List.mem_cons.1 hh with rfl | hh
      · exact f1
      · exact i1 h hh
    · rw [List.flatMap_cons, f2, i2, List.cons_append, hsp]
    · rw [List.flatMap_cons, f3, i3, ← turn_append, List.cons_append, hsp]
/-- hunks rise and are apart, up to n; b: is there one ahead that ends at e? -/
def rise (n : Int) : Bool → Int → List Hk → Prop
  | _, e, [] => e ≤ n
  | b, e, h :: t => e ≤ h.a ∧ (b = true → e ≠ h.a) ∧ rise n true (h.a + h.an) t
theorem mk_rise (a : Ls) (r : Nat) : ∀ (k : Nat) (l : List Ed) (more last e0 : Int) (b : Bool), l.length ≤ k → right a.length last l = true → -1 ≤ last → e0 ≤ a.length → (∀ e t, l = e :: t → e0 ≤ from_ r e ∧ (b = true → e0 ≠ from_ r e)) → 0 ≤ last + 1 + more →
    rise a.length b e0 (mkHs a r more l)
  | _, [], more, _, _, _, _, _, _, h, _, _ => by
    rw [mkHs_nil]
    exact h
  | 0, e :: l, _, _, _, _, h, _, _, _, _, _ => by simp at h
  | k + 1, e :: l, more, last, e0, b, hk, hr, hl, he0, hgap, hb => by
    have hsp := spl_eq r l e
    have hsl := spl_len r l e
    have hsg := spl_gap r l e
    obtain ⟨g, hg⟩ : ∃ g, g = (spl r e l).1 := ⟨_, rfl⟩
    obtain ⟨t, ht⟩ : ∃ t, t = (spl r e l).2 := ⟨_, rfl⟩
    rw [mkHs_cons, ← hg, ← ht]
    rw [← hg, ← ht] at hsp hsl hsg
    have hr2 : right a.length last ((e :: g) ++ t) = true := by rw [List.cons_append, hsp]; exact hr
    obtain ⟨r1, r2, r3, r4⟩ := right_app a.length (e :: g) t last hr2 hl
    obtain ⟨hge, hgn⟩ := hgap e l rfl
    obtain ⟨p, d, ep, ed, hpd, hlp, hne, hr'⟩ := right_head hr hl
    have hz : ((from_ r e : Nat) : Int) ≤ last + 1 ∨ (∀ e' t, e :: g = e' :: t → ((from_ r e : Nat) : Int) ≤ e'.pos) := by
      refine .inr fun e' t h => ?_
      injection h with h1 _
      subst h1
      have := from_le r e p ep
      rw [ep]; omega
    have f4 := pts_delta a r (e :: g) (from_ r e) last r1 hl
    have f5 := pts_old a r (e :: g) (from_ r e) last r1 hl hz (by have := from_le r e p ep; omega)
    have hld := lastF_delta a.length (e :: g) last (last + 1) r1 hl (Int.le_refl _)
    rw [lastF] at hld r2 r3 f5
    simp only [List.length_cons] at hk
    refine ⟨hge, hgn, ?_⟩
    simp only [oneH]
    rw [f4]
    refine mk_rise a r k t (more + delta (e :: g)) _ _ true (by omega) r2 (by omega) (by omega) (fun f t' h => ?_) (by omega)
    have := hsg f t' h
    unfold from_ at *
    exact ⟨by omega, fun _ => by omega⟩
/-- how often edits are far apart -/
def gaps (r : Nat) : Ed → List Ed → Nat
  | _, [] => 0
  | e, f :: l => (if f.pos - fin e ≤ 2 * r then 0 else 1) + gaps r f l
theorem spl_gaps (r : Nat) : ∀ (l : List Ed) (e : Ed), gaps r e l = match (spl r e l).2 with | [] => 0 | f :: t => 1 + gaps r f t
  | [], _ => rfl
  | f :: l, e => by
    rw [gaps, spl]
    by_cases h : f.pos - fin e ≤ 2 * r
    · rw [if_pos h, if_pos h, Nat.zero_add]; exact spl_gaps r l f
    · rw [if_neg h, if_neg h]
theorem mk_count (a : Ls) (r : Nat) : ∀ (k : Nat) (l : List Ed) (e : Ed) (more : Int), l.length ≤ k → (mkHs a r more (e :: l)).length = 1 + gaps r e l
  | k, l, e, more, hk => by
    rw [mkHs_cons, List.length_cons, spl_gaps]
    have hsl := spl_len r l e
    obtain ⟨t, ht⟩ : ∃ t, t = (spl r e l).2 := ⟨_, rfl⟩
    rw [← ht] at hsl ⊢
    cases t with
    | nil => rw [mkHs_nil]; rfl
    | cons f t =>
      cases k with
      | zero => simp at hsl; omega
      | succ k =>
        rw [mk_count a r k t f _ (by simp at hsl; omega)]
        show 1 + gaps r f t + 1 = 1 + (1 + gaps r f t)
        omega
theorem gaps_mono (r r' : Nat) (h : r ≤ r') : ∀ (l : List Ed) (e : Ed), gaps r' e l ≤ gaps r e l
  | [], _ => Nat.le_refl _
  | f :: l, e => by
    have := gaps_mono r r' h l f
    rw [gaps, gaps]
    split <;> split <;> omega
theorem mk_fewer (a : Ls) (r r' : Nat) (h : r ≤ r') (l : List Ed) : (mkHs a r' 0 l).length ≤ (mkHs a r 0 l).length := by
  cases l with
  | nil => rw [mkHs_nil, mkHs_nil]; exact Nat.le_refl _
  | cons e l =>
    rw [mk_count a r' _ l e _ (Nat.le_refl _), mk_count a r _ l e _ (Nat.le_refl _)]
    have := gaps_mono r r' h l e
    omega
theorem mk_none (a : Ls) (r : Nat) (more : Int) (l : List Ed) : ((mkHs a r more l).length = 0) ↔ l.length = 0 := by
  cases l with
  | nil => rw [mkHs_nil]; simp
  | cons e l => rw [mk_count a r _ l e _ (Nat.le_refl _)]; simp
theorem mk_le (a : Ls) (r : Nat) (more : Int) (l : List Ed) : (mkHs a r more l).length ≤ l.length := by
  cases l with
  | nil => rw [mkHs_nil]; exact Nat.le_refl _
  | cons e l =>
    rw [mk_count a r _ l e _ (Nat.le_refl _), List.length_cons]
    have : ∀ (l : List Ed) (e : Ed), gaps r e l ≤ l.length := by
      intro l
      induction l with
      | nil => intro e; exact Nat.le_refl _
      | cons f l ih => intro e; have := ih f; rw [gaps, List.length_cons]; split <;> omega
    have := this l e
    omega
/-- all of it, from the start -/
theorem mk_start (a : Ls) (r : Nat) (l : List Ed) (hr : right a.length (-1) l = true) :
    (∀ h ∈ mkHs a r 0 l, hright h = true) ∧ (mkHs a r 0 l).flatMap hedits = l ∧ (mkHs a r 0 l).flatMap (fun h => hedits (hturn h)) = turn a 0 l ∧ rise a.length false 0 (mkHs a r 0 l) := by
  obtain ⟨h1, h2, h3⟩ := mk_facts a r _ l 0 (-1) 0 (Nat.le_refl _) hr (by omega) (by omega) (by omega) (fun e t _ => by omega) (by omega)
  exact ⟨h1, h2, h3, mk_rise a r _ l 0 (-1) 0 false (Nat.le_refl _) hr (by omega) (by omega) (fun e t _ => ⟨by omega, fun h => by cases h⟩) (by omega)⟩
/-- how many lines a hunk has -/
theorem pts_len (a : Ls) (r : Nat) : ∀ (g : List Ed) (z : Nat) (last : Int), right a.length last g = true → -1 ≤ last → z ≤ a.length → (lay (pts a r z g)).length ≤ many 45 (lay (pts a r z g)) + size g
  | [], z, _, _, _, _ => by
    rw [pts, size]
    split
    · simp [lay, many]
    · simp only [lay, List.append_nil]
      rw [many_old, layP, List.length_append, List.length_append, mk_len, mk_len, mk_len]
      simp
  | e :: g, z, last, hr, hl, hz => by
    obtain ⟨p, d, ep, ed, hpd, hlp, hne, hr'⟩ := right_head hr hl
    have ih := pts_len a r g (p + d) _ hr' (by omega) hpd
    rw [pts, ep, ed]
    simp only [Int.toNat_natCast]
    rw [lay, many_append, many_old, layP, size, ed]
    simp only [List.length_append, mk_len, List.length_take, List.length_drop]
    omega
end Go.Proofs.YtnehgogajghefaaGreatDoor.Hu
