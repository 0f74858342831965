/-
  Above, on lists: what is seen, and what is still to look at.
-/
import Derived.Test.YtplmcpdlommmaaaQXN
namespace Go.Proofs.Ytplmcpdlommmaaa.Dq
open Go Go.RowKit Kt Kg Lw Tr

theorem on_level {D : List Nd} (h : Inv D) {a b : Bs} (ho : On D a b) : level D a ≤ level D b := by
  induction ho with
  | self => exact Int.le_refl _
  | step hp _ ih => have := level_below h hp; omega
structure Ab (D : List Nd) (a b : Bs) (seen T : List Bs) : Prop where
  once : seen.Nodup
  sub : ∀ y ∈ T, y ∈ seen
  on : ∀ y ∈ seen, On D y b
  b_in : b ∈ seen
  shut : ∀ y ∈ seen, y ∉ T → y ≠ a ∧ (level D y ≤ level D a ∨ ∀ p ∈ parents D y, p ∈ seen)
/-- one is looked at: so many of its parents are seen -/
structure AbI (D : List Nd) (a b : Bs) (seen T : List Bs) (id : Bs) (k : Nat) : Prop where
  once : seen.Nodup
  sub : ∀ y ∈ T, y ∈ seen
  on : ∀ y ∈ seen, On D y b
  b_in : b ∈ seen
  id_in : id ∈ seen
  ne : id ≠ a
  shut : ∀ y ∈ seen, y ∉ T → y ≠ id → y ≠ a ∧ (level D y ≤ level D a ∨ ∀ p ∈ parents D y, p ∈ seen)
  ps : ∀ p ∈ (parents D id).take k, p ∈ seen
section
variable {D : List Nd} {a b : Bs} {seen T : List Bs} {id : Bs} {k : Nat}
theorem Ab.start (D : List Nd) (a b : Bs) : Ab D a b [b] [b] :=
  ⟨List.nodup_cons.2 ⟨by simp, List.nodup_nil⟩, fun _ h => h, fun y hy => by rw [List.mem_singleton.1 hy]; exact .self _, List.mem_cons_self, fun y hy hn => absurd hy hn⟩
theorem Ab.pop (h : Ab D a b seen (T ++ [id])) (hne : id ≠ a) : AbI D a b seen T id 0 :=
  ⟨h.once, fun y hy => h.sub y (List.mem_append_left _ hy), h.on, h.b_in, h.sub id (List.mem_append_right _ List.mem_cons_self), hne, fun y hy hn hi => h.shut y hy fun hm => (List.mem_append.1 hm).elim hn fun e => hi (List.mem_singleton.1 e), fun p hp => by simp at hp⟩
theorem Ab.skip (h : Ab D a b seen (T ++ [id])) (hne : id ≠ a) (hl : level D id ≤ level D a) : Ab D a b seen T :=
  ⟨h.once, fun y hy => h.sub y (List.mem_append_left _ hy), h.on, h.b_in, fun y hy hn => by
    by_cases e : y = id
    · subst e; exact ⟨hne, .inl hl⟩
    · exact h.shut y hy fun hm => (List.mem_append.1 hm).elim hn fun e2 => e (List.mem_singleton.1 e2)⟩
theorem AbI.old (h : AbI D a b seen T id k) {x : Bs} (hx : (parents D id)[k]? = some x) (hs : x ∈ seen) : AbI D a b seen T id (k + 1) :=
  ⟨h.once, h.sub, h.on, h.b_in, h.id_in, h.ne, h.shut, fun p hp => by
    rw [List.take_add_one, hx] at hp
    rcases List.mem_append.1 hp with hp | hp
    · exact h.ps p hp
    · rw [List.mem_singleton.1 (show p ∈ [x] from hp)]; exact hs⟩
theorem AbI.new (h : AbI D a b seen T id k) {x : Bs} (hx : (parents D id)[k]? = some x) (hs : x ∉ seen) : AbI D a b (x :: seen) (T ++ [x]) id (k + 1) := by
  have hm : x ∈ parents D id := List.mem_of_getElem? hx
  refine ⟨List.nodup_cons.2 ⟨hs, h.once⟩, fun y hy => ?_, fun y hy => ?_, List.mem_cons_of_mem _ h.b_in, List.mem_cons_of_mem _ h.id_in, h.ne, fun y hy hn hi => ?_, fun p hp => ?_⟩
  · rcases List.mem_append.1 hy with k | k
    · exact List.mem_cons_of_mem _ (h.sub y k)
    · rw [List.mem_singleton.1 k]; exact List.mem_cons_self
  · rcases List.mem_cons.1 hy with k | k
    · rw [k]; exact On.trans (.step hm (.self _)) (h.on id h.id_in)
    · exact h.on y k
  · rcases List.mem_cons.1 hy with k | k
    · exact absurd (List.mem_append_right T (List.mem_singleton.2 k)) hn
    · have := h.shut y k (fun q => hn (List.mem_append_left _ q)) hi
      exact ⟨this.1, this.2.imp (fun z => z) fun z p hp => List.mem_cons_of_mem _ (z p hp)⟩
  · rw [List.take_add_one, hx] at hp
    rcases List.mem_append.1 hp with hp | hp
    · exact List.mem_cons_of_mem _ (h.ps p hp)
    · rw [List.mem_singleton.1 (show p ∈ [x] from hp)]; exact List.mem_cons_self
theorem AbI.done (h : AbI D a b seen T id k) (hk : (parents D id).length ≤ k) : Ab D a b seen T :=
  ⟨h.once, h.sub, h.on, h.b_in, fun y hy hn => by
    by_cases e : y = id
    · subst e; exact ⟨h.ne, .inr fun p hp => h.ps p (by rw [List.take_of_length_le hk]; exact hp)⟩
    · exact h.shut y hy hn e⟩
theorem Ab.found (hI : Inv D) (hb : has D b = true) (h : Ab D a b seen T) (ha : a ∈ T) : above D a b = true := (above_iff hI).2 ⟨hb, h.on a (h.sub a ha)⟩
theorem Ab.over (hI : Inv D) (h : Ab D a b seen []) : above D a b = false := by
  cases hab : above D a b with
  | false => rfl
  | true =>
    obtain ⟨_, ho⟩ := (above_iff hI).1 hab
    have key : ∀ y, On D a y → y ∈ seen → False := fun y ho => by
      induction ho with
      | self => exact fun hy => (h.shut _ hy (by simp)).1 rfl
      | step hp ho2 ih =>
        intro hy
        rcases (h.shut _ hy (by simp)).2 with k | k
        · have h1 := on_level hI ho2
          have h2 := level_below hI hp
          omega
        · exact ih (k _ hp)
    exact (key b ho h.b_in).elim
theorem above_out (hI : Inv D) (h : has D a = false ∨ has D b = false) : above D a b = false := by
  cases hab : above D a b with
  | false => rfl
  | true =>
    obtain ⟨hb, ho⟩ := (above_iff hI).1 hab
    rcases h with h | h
    · rw [on_has hI ho hb] at h; cases h
    · rw [hb] at h; cases h
theorem AbI.few (h : AbI D a b seen T id k) (hI : Inv D) (hb : has D b = true) (hf : D.length ≤ 40) : seen.length ≤ 40 := by
  have := len_sub (m := all D true) h.once fun y hy => (all_in hI.up y).2 (on_has hI (h.on y hy) hb)
  have := all_len D true
  omega
end
/-- how many a map holds -/
def mapCnt (w : World) (b : Nat) : Nat :=
  match w.heap[b]? with
  | some (.map es _) => es.size
  | _ => 0
theorem Mp.cnt {w : World} {b : Nat} {f : Bs → Option Value} (h : Mp w b f) (L : List Bs) (hn : L.Nodup) (hL : ∀ k, k ∈ L ↔ (f k).isSome = true) : mapCnt w b = L.length := by
  obtain ⟨es, clock, hb, hs, h3, h4⟩ := h
  have hp : (es.toList.map (·.key)).Perm (L.map kS) := by
    refine (List.perm_ext_iff_of_nodup hs.2.2 (List.Pairwise.map _ (fun a b hab e => hab (kS_inj e)) hn)).2 fun v => ?_
    rw [List.mem_map, List.mem_map]
    constructor
    · rintro ⟨x, hx, rfl⟩
      obtain ⟨k, hk⟩ := h3 x hx
      refine ⟨k, (hL k).2 ?_, hk.symm⟩
      rw [(h4 k x.val).2 ⟨x, hx, hk, rfl⟩]; rfl
    · rintro ⟨k, hk, rfl⟩
      obtain ⟨v, hv⟩ := Option.isSome_iff_exists.1 ((hL k).1 hk)
      obtain ⟨x, hx, e, _⟩ := (h4 k v).1 hv
      exact ⟨x, hx, e⟩
  have := hp.length_eq
  unfold mapCnt
  rw [hb]
  simpa using this
end Go.Proofs.Ytplmcpdlommmaaa.Dq
namespace Go.Proofs.Ytplmcpdlommmaaa.Dq
open Go Go.RowKit Kt Kg Lw Tr

/-- in memory: the map of those that are seen, the row of those to look at -/
structure AbM (w : World) (q : Nat) (wr : World) (seen T : List Bs) (v : Value) : Prop where
  low : Below w.heap.size w wr
  mp : Mp wr q fun k => if k ∈ seen then some unV else none
  own : OwT wr w.heap.size tId v T
  off : v.ownBlock ≠ some q
  lo : w.heap.size ≤ q
section
variable {w wr w2 : World} {q : Nat} {seen T : List Bs} {v : Value}
theorem AbM.grow (h : AbM w q wr seen T v) (hb : Below wr.heap.size wr w2) : AbM w q w2 seen T v :=
  ⟨h.low.trans (hb.mono h.low.size), h.mp.move (hb.block _ h.mp.lt), h.own.kept hb, h.off, h.lo⟩
theorem AbM.drew (h : AbM w q wr seen T v) : AbM w q wr.drew seen T v := ⟨h.low.drew, h.mp, h.own.drew, h.off, h.lo⟩
theorem AbM.put (h : AbM w q wr seen T v) (x : Bs) : ∃ o, (Instr.mapUpdate tMH (.map (some q)) (kS x) (.agg #[])).run Try.prog wr = .ok () (wr.putObj q o) ∧ AbM w q (wr.putObj q o) (x :: seen) T v := by
  obtain ⟨o, hup, hm⟩ := h.mp.update (P := Try.prog) (T := tMH) Try.underlying58 Try.underlying23 x unV
  have ho : ∀ k, k ≠ q → (wr.putObj q o).heap[k]? = wr.heap[k]? := fun k hk => World.putObj_heap_other hk
  have hs : (wr.putObj q o).heap.size = wr.heap.size := by simp [World.putObj]
  have hlo := h.lo
  refine ⟨o, hup, ⟨h.low.os, h.low.tape, h.low.output, by rw [hs]; exact h.low.size, fun k hk => (ho k (by omega)).trans (h.low.block k hk)⟩, hm.congr fun y => ?_, OwT.moved h.own fun g hg => ho g fun e => h.off (by rw [hg, e]), h.off, hlo⟩
  by_cases e : y = x
  · subst e; rw [upd_same, if_pos List.mem_cons_self]
  · rw [upd_ne _ _ e]
    simp [e]
theorem AbM.push (h : AbM w q wr seen T v) {v' : Value} {x : Bs} (hown : OwT w2 w.heap.size tId v' (T ++ [x])) (hg : wr.grownBy w2 v.ownBlock) (hor : v'.ownBlock = v.ownBlock ∨ v'.ownBlock = some (wr.heap.size + 1)) : AbM w q w2 seen (T ++ [x]) v' := by
  have hq := h.mp.lt
  refine ⟨h.low.grown hg h.low.size fun k e => (World.ownsRow.lt h.own k e).1, h.mp.move (hg.block q hq fun e => h.off e.symm), hown, fun e => ?_, h.lo⟩
  rcases hor with k | k
  · rw [k] at e; exact h.off e
  · rw [k] at e; injection e with e; omega
theorem AbM.cnt (h : AbM w q wr seen T v) (hn : seen.Nodup) : mapCnt wr q = seen.length := h.mp.cnt seen hn fun k => by by_cases e : k ∈ seen <;> simp [e]
theorem AbM.look (h : AbM w q wr seen T v) (x : Bs) : (Instr.lookup tMH (.map (some q)) (kS x) true).run Try.prog wr = .ok (.tuple #[.agg #[], .bool (decide (x ∈ seen))]) wr := by
  by_cases e : x ∈ seen
  · have := h.mp.look_some (P := Try.prog) (T := tMH) Try.underlying58 Try.underlying23 (k := x) (v := unV) (by simp [e]) true
    rw [this, decide_eq_true e]; rfl
  · have := h.mp.look_none (P := Try.prog) (T := tMH) Try.underlying58 Try.underlying23 (zeroU wr) (k := x) (by simp [e]) true
    rw [this, decide_eq_false e]; rfl
end
set_option maxRecDepth 100000 in
set_option maxHeartbeats 2000000 in
theorem pabove_any {w : World} {p : Pc} {D : List Nd} {sl : Bs → Option Addr × Nat} {su lev : Bs → Nat} {bh : Bs → List Bs} {bv : Bs → Option Value} (h : Gm w p D sl su lev bh bv) (hK : Okd D) (hL : Lv D lev) (a b : Bs) :
    Calls Try.prog 29 #[pt p.g, kS a, kS b] w fun y w' => y = .returned (.bool (above D a b)) ∧ Below w.heap.size w w' := by
  have HHa := hide (phas_any h a)
  have H := hide h
  have HK := hide hK
  have HL := hide hL
  clear h hK hL
  cases ha : has D a with
  | false =>
    rw [ha] at HHa
    rw [above_out HK.out.inv (.inl ha)]
    clear ha
    go_enter Try.func29, Try.ntmps29
    go_wp2_with fail
    refine HHa.out.mono ?_
    rintro y w1 ⟨rfl, hb⟩
    have HB := hide hb
    clear hb HHa
    go_wp2
    go_ret
    exact ⟨rfl, HB.out⟩
  | true =>
    rw [ha] at HHa
    have HHas := hide ha
    cases hb : has D b with
    | false =>
      rw [above_out HK.out.inv (.inr hb)]
      have HNb := hide hb
      clear ha hb
      go_enter Try.func29, Try.ntmps29
      go_wp2_with fail
      refine HHa.out.mono ?_
      rintro y w1 ⟨rfl, hb⟩
      have h2 := phas_any (H.out.below hb) b
      rw [HNb.out] at h2
      have HH2 := hide h2
      have HB := hide hb
      clear hb HHa h2
      go_wp2_with fail
      refine HH2.out.mono ?_
      rintro y w2 ⟨rfl, hb⟩
      have HB2 := hide (HB.out.trans (hb.mono HB.out.size))
      clear hb HH2
      go_wp2
      go_ret
      exact ⟨rfl, HB2.out⟩
    | true =>
      have HHb := hide hb
      clear ha hb
      obtain ⟨r, hr⟩ : ∃ r, r = above D a b := ⟨_, rfl⟩
      rw [← hr]
      have HR := hide hr
      clear hr
      go_enter Try.func29, Try.ntmps29
      go_wp2_with fail
      refine HHa.out.mono ?_
      rintro y w1 ⟨rfl, hb⟩
      have h2 := phas_any (H.out.below hb) b
      rw [HHb.out] at h2
      have HH2 := hide h2
      have HB := hide hb
      clear hb HHa h2
      go_wp2_with fail
      refine HH2.out.mono ?_
      rintro y w2 ⟨rfl, hb⟩
      have hb2 := HB.out.trans (hb.mono HB.out.size)
      obtain ⟨q, hq⟩ : ∃ q, q = w2.heap.size := ⟨_, rfl⟩
      obtain ⟨w3, hw3⟩ : ∃ z, z = w2.alloc (.map #[] 0) := ⟨_, rfl⟩
      have hmk : (Instr.makeMap tMH none).run Try.prog w2 = .ok (.map (some q)) w3 := by rw [run_makeMap, hq, hw3]
      have hM3 : AbM w q w3 [] [] (.slice none 0 0) := ⟨by rw [hw3]; exact hb2.alloc hb2.size _, by rw [hw3, hq]; exact (Mp.made w2).congr fun k => by simp, OwT.nil _ _ _, (fun (e : Value.ownBlock (.slice none 0 0) = some q) => (by cases e)), by rw [hq]; exact hb2.size⟩
      obtain ⟨o, hup, hM4⟩ := hM3.put b
      obtain ⟨w4, hw4⟩ : ∃ z, z = w3.putObj q o := ⟨_, rfl⟩
      rw [← hw4] at hup hM4
      have hM5 : AbM w q (w4.alloc (.cells #[kS b] tId)) [b] [b] (.slice (some ⟨w4.heap.size, 0, none⟩) 1 1) := by
        have h1 := hM4.grow ((Below.refl w4.heap.size w4).alloc (Nat.le_refl _) (.cells #[kS b] tId))
        refine ⟨h1.low, h1.mp, OwT.lit w4 w.heap.size tId [b] #[kS b] rfl hM4.low.size (by show 1 ≤ maxLen; unfold maxLen; omega), fun e => ?_, h1.lo⟩
        injection e with e
        have e : w4.heap.size = q := e
        have := hM4.mp.lt
        omega
      have HM5 := hide hM5
      clear hb HH2 hb2 hM3 hM4 hM5 hq hw3 hw4
      have HA0 := hide (Ab.start D a b)
      go_wp2
      obtain ⟨w5, hw5⟩ : ∃ z, z = w4.alloc (.cells #[kS b] tId) := ⟨_, rfl⟩
      rw [← hw5] at HM5 ⊢
      clear hw5 hmk hup
      go_loopw [8] (fun v8 wr => ∃ seen T A c, v8 = .slice A T.length c ∧ Hid (AbM w q wr seen T (.slice A T.length c)) ∧ Hid (Ab D a b seen T) ∧ 2 * (41 - seen.length) + T.length ≤ 81) (fun v8 wr => 2 * (41 - mapCnt wr q) + lenV v8)
      case atStart => exact ⟨_, _, _, _, rfl, HM5, HA0, by simp⟩
      case round =>
        clear HM5 HA0
        obtain ⟨seen, T, A, c, rfl, HM, HA, hbd⟩ := hrel
        rcases T.eq_nil_or_concat with rfl | ⟨T, x, rfl⟩
        · have HF := hide (And.intro (HR.out.trans (Ab.over HK.out.inv HA.out)) HM.out.low)
          clear hbd
          go_wp2
          go_ret
          exact ⟨by rw [HF.out.1]; rfl, HF.out.2⟩
        · rw [List.concat_eq_append] at *
          obtain ⟨m, hm⟩ : ∃ m, m = T.length := ⟨_, rfl⟩
          have hm1 : (T ++ [x]).length = m + 1 := by rw [List.length_append, hm]; rfl
          have hown := HM.out.own
          obtain ⟨g, rfl⟩ : ∃ g, A = some ⟨g, 0, none⟩ := by
            rcases hown.2 with ⟨h1, h2⟩ | ⟨g, _, _, h1, _⟩
            · omega
            · injection h1 with h1; exact ⟨g, h1⟩
          have hlast := (rdy_cell hown (k := m) (by omega)).1
          rw [show (T ++ [x]).getD m [] = x from by rw [hm, List.getD_eq_getElem?_getD]; simp] at hlast
          have hmc : m ≤ c := by obtain ⟨_, _, k3, _⟩ := row_holds hown; omega
          have hcut := OwT.cut hown (m := m) (by omega)
          rw [show (T ++ [x]).take m = T from by rw [hm]; simp, ← hm] at hcut
          have HM2 := hide (show AbM w q wr seen T (.slice (some ⟨g, 0, none⟩) m c) from ⟨HM.out.low, HM.out.mp, hcut, HM.out.off, HM.out.lo⟩)
          have e1 : ((m + 1 : Nat) : Int) - 1 = ((m : Nat) : Int) := by omega
          have hcnt := HM.out.cnt HA.out.once
          have hbd2 : 2 * (41 - seen.length) + (m + 1) ≤ 81 := by omega
          rw [hm1]
          have HMl := hide hm
          have HBd := hide hbd2
          have HCnt := hide hcnt
          have hm41 : m ≤ 81 := by omega
          clear hm hm1 hown hcut hcnt hbd hbd2
          by_cases hxa : x = a
          · subst hxa
            have HF := hide (And.intro (HR.out.trans (Ab.found HK.out.inv HHb.out HA.out (List.mem_append_right T List.mem_cons_self))) HM.out.low)
            go_wp2
            go_ret
            exact ⟨by rw [HF.out.1]; rfl, HF.out.2⟩
          · have hxin : has D x = true := on_has HK.out.inv (HA.out.on x (HA.out.sub x (List.mem_append_right T List.mem_cons_self))) HHb.out
            have hG := H.out.below HM.out.low.drew
            obtain ⟨c0, _⟩ := hG.cells
            obtain ⟨Ax, nx, cx, zx, hlx, qx, _⟩ := hG.lookN x false
            obtain ⟨Aa, na, ca, za, hla, qa, _⟩ := hG.lookN a false
            simp only [Bool.false_eq_true, if_false] at hlx hla
            obtain ⟨hAx, hcx, hnx, rfl⟩ := qx hxin
            obtain ⟨g1, g2, g3, rfl⟩ := qa HHas.out
            clear g1 g2 g3
            have hpp : parents D x = psL D x := by rw [parents_psL, if_pos hxin]
            rw [← hpp] at hnx
            have hlevx : level D x = (lev x : Int) := by rw [level_in hxin, HL.out.eq HK.out.inv hxin]
            have hleva : level D a = (lev a : Int) := by rw [level_in HHas.out, HL.out.eq HK.out.inv HHas.out]
            have hps6 : nx ≤ 10 := by
              rw [hnx, hpp]
              obtain ⟨n, hn⟩ := Option.isSome_iff_exists.1 (has_known hxin)
              unfold psL; rw [hn]
              exact (HK.out.ids n (get_some hn).1).2.1
            have HVs := hide (show Vs w (fun b => b < w.heap.size) Ax cx (texts (parents D x)) from by have := vs_low (H.out.sls x (has_known hxin)); rw [← hpp, ← hAx, ← hcx] at this; exact this)
            have HNx := hide hnx
            obtain ⟨lx, hlxe⟩ : ∃ z, z = lev x := ⟨_, rfl⟩
            obtain ⟨la, hlae⟩ : ∃ z, z = lev a := ⟨_, rfl⟩
            rw [← hlxe] at hlx hlevx
            rw [← hlae] at hla hleva
            have HLx := hide hlevx
            have HLa := hide hleva
            have hfx := fun w => fldN1 Ax nx cx ((lx : Nat) : Int) w
            have hfa := fun w => fldN1 Aa na ca ((la : Nat) : Int) w
            have hf0 := fun w => fldN0 Ax nx cx ((lx : Nat) : Int) w
            have HX := hide hxa
            have hxf : (x == a) = false := by simpa using hxa
            clear hG qx qa hAx hcx hnx hpp hlevx hleva hlxe hlae hxin
            go_wp2
            refine Rg.wp_region_ord (fun w' => w'.cell? ⟨p.g, 0, none⟩ = some (.map (some p.a)) ∧ (Instr.lookup tMN (.map (some p.a)) (kS x) false).run Try.prog w' = .ok (.agg #[.slice Ax nx cx, .int .i64 (lx : Nat)]) w' ∧ (Instr.lookup tMN (.map (some p.a)) (kS a) false).run Try.prog w' = .ok (.agg #[.slice Aa na ca, .int .i64 (la : Nat)]) w') [(0, true), (1, true), (2, true), (3, true), (4, true), (5, true), (6, true), (7, true), (8, true), (9, true), (10, true), (11, true), (12, true), (13, true), (14, true)] (by kernel_rfl) (by kernel_rfl) ?_
            simp only [Rg.pick, List.map_cons, List.map_nil, List.getD_cons_zero, List.getD_cons_succ]
            iterate 8 (refine Rg.ord_quiet (v := ?_) rfl (fun w' hS => ?_) ⟨c0, hlx, hla⟩ ?_; rotate_left; (obtain ⟨s2, s1, s0⟩ := hS; go_simp; with_reducible rfl); simp only [Act.put, List.setIfInBounds_toArray, List.set_cons_succ, List.set_cons_zero])
            iterate 7 (refine Rg.ord_quiet (v := ?_) rfl (fun w' hS => ?_) ⟨c0, hlx, hla⟩ ?_; rotate_left; (obtain ⟨s2, s1, s0⟩ := hS; go_simp; with_reducible rfl); simp only [Act.put, List.setIfInBounds_toArray, List.set_cons_succ, List.set_cons_zero])
            refine Rg.ord_nil ?_
            by_cases hle : lx ≤ la
            · have HF := hide (HA.out.skip HX.out (by rw [HLx.out, HLa.out]; omega))
              have HM3 := hide HM2.out.drew
              have HC3 := hide (show mapCnt wr.drew q = seen.length from HM3.out.cnt HF.out.once)
              clear hlast c0 hlx hla hfx hfa hf0
              go_wp2
              refine ⟨⟨seen, T, _, c, by rw [HMl.out], by rw [← HMl.out]; exact HM3, HF, by rw [← HMl.out]; have := HBd.out; omega⟩, ?_⟩
              rw [HC3.out, HCnt.out]
              show 2 * (41 - seen.length) + m < 2 * (41 - seen.length) + (m + 1)
              omega
            · rw [decide_eq_false hle]
              have hI := HA.out.pop HX.out
              have HI := hide hI
              have HM3 := hide HM2.out.drew
              obtain ⟨M, hM⟩ : ∃ z, z = 2 * (41 - seen.length) + m := ⟨_, rfl⟩
              have HMM := hide hM
              clear hI hM hlast hfx hfa hla
              go_wp2
              clear c0 hlx hf0
              obtain ⟨wo, hwo⟩ : ∃ z, z = wr := ⟨_, rfl⟩
              subst hwo
              go_loopw [8, 70] (fun v8 v70 wr2 => ∃ (k : Nat) (seen2 T2 : List Bs) (A2 : Option Addr) (c2 : Nat), v70 = .int .i64 k ∧ k ≤ nx ∧ v8 = .slice A2 T2.length c2 ∧ Hid (AbM w q wr2 seen2 T2 (.slice A2 T2.length c2)) ∧ Hid (AbI D a b seen2 T2 x k) ∧ Hid (2 * (41 - seen2.length) + T2.length ≤ M)) (fun _ v70 _ => nx - (intOf v70).toNat)
              case atStart => exact ⟨0, seen, T, _, c, rfl, Nat.zero_le _, by rw [HMl.out], by rw [← HMl.out]; exact HM3, HI, hide (by rw [HMM.out, HMl.out]; exact Nat.le_refl _)⟩
              case round =>
                clear HI HM3
                obtain ⟨k, seen2, T2, A2, c2, rfl, hk, rfl, HM3, HI, HB⟩ := hrel
                obtain ⟨m2, hm2⟩ : ∃ z, z = T2.length := ⟨_, rfl⟩
                rw [← hm2] at HM3 ⊢
                have hm2b : m2 ≤ 200 := by have h1 := HB.out; have h2 := HMM.out; omega
                have HM2l := hide hm2
                clear hm2
                by_cases hlt : k < nx
                · obtain ⟨ab, ao, rfl, ck⟩ := vs_text (w' := wr) HVs.out HM3.out.low (k := k) (by have := HNx.out; omega)
                  obtain ⟨y, hy⟩ : ∃ y, y = (parents D x).getD k [] := ⟨_, rfl⟩
                  have hyk : (parents D x)[k]? = some y := by rw [hy, List.getD_eq_getElem?_getD, List.getElem?_eq_getElem (by have := HNx.out; omega)]; rfl
                  rw [← hy] at ck
                  have hlk := HM3.out.look y
                  have HYk := hide hyk
                  clear hy hyk
                  by_cases hys : y ∈ seen2
                  · rw [decide_eq_true hys] at hlk
                    have HI2 := hide (HI.out.old HYk.out hys)
                    have HM4 := hide (HM3.out.grow ((Below.refl _ wr).alloc (Nat.le_refl _) (.cells #[] 70)))
                    clear hys
                    go_wp2
                    exact ⟨⟨k + 1, seen2, T2, A2, c2, by go_num, by omega, by rw [HM2l.out], by rw [← HM2l.out]; exact HM4, HI2, HB⟩, by simp [intOf]; omega⟩
                  · rw [decide_eq_false hys] at hlk
                    obtain ⟨o2, hup2, hM5⟩ := (HM3.out.grow ((Below.refl _ wr).alloc (Nat.le_refl _) (.cells #[] 70))).put y
                    obtain ⟨w7, hw7⟩ : ∃ z, z = (wr.alloc (.cells #[] 70)).putObj q o2 := ⟨_, rfl⟩
                    rw [← hw7] at hup2 hM5
                    have HI2 := hide (HI.out.new HYk.out hys)
                    have HB2 := hide (show 2 * (41 - (y :: seen2).length) + (T2 ++ [y]).length ≤ M from by
                      have h1 := HI2.out.few HK.out.inv HHb.out HK.out.few
                      have h2 := HB.out
                      rw [List.length_append]
                      rw [List.length_cons] at h1 ⊢
                      simp only [List.length_cons, List.length_nil]
                      omega)
                    have hle7 : (T2 ++ [y]).length = m2 + 1 := by rw [List.length_append, HM2l.out]; rfl
                    have HL7 := hide hle7
                    have HSt := hide (show ∀ v8 w8, OwT w8 w.heap.size tId v8 (T2 ++ [y]) → w7.grownBy w8 (Value.ownBlock (.slice A2 m2 c2)) → (v8.ownBlock = Value.ownBlock (.slice A2 m2 c2) ∨ v8.ownBlock = some (w7.heap.size + 1)) → ∃ A7 c7, v8 = .slice A7 (m2 + 1) c7 ∧ Hid (AbM w q w8 (y :: seen2) (T2 ++ [y]) (.slice A7 (m2 + 1) c7)) from by
                      intro v8 w8 h1 h2 h3
                      obtain ⟨A7, c7, hv8, _⟩ := h1.vs
                      rw [HL7.out] at hv8
                      subst hv8
                      exact ⟨A7, c7, rfl, hide (hM5.push h1 h2 h3)⟩)
                    have HOw := hide hM5.own
                    have HLow := hide hM5.low
                    clear hys hw7 hM5 hle7
                    go_wp2_with (at_builtin; refine wpList_pushT Try.underlying31 rfl (.tmp 85) (.tmp 87) rfl w.heap.size w7 (.slice A2 m2 c2) T2 y _ rfl rfl rfl HOw.out (by have := HM2l.out; omega) (Below.refl _ _) HLow.out.size ?_; intro v8 w8 hown8 _ hg8 hor8; obtain ⟨A7, c7, hv8, HNew⟩ := HSt.out v8 w8 hown8 hg8 hor8; clear hown8 hg8 hor8; subst hv8)
                    clear hlk hup2
                    go_wp2
                    exact ⟨⟨k + 1, y :: seen2, T2 ++ [y], A7, c7, by go_num, by omega, by rw [HL7.out], by rw [HL7.out]; exact HNew, HI2, HB2⟩, by simp [intOf]; omega⟩
                · obtain rfl : k = nx := by omega
                  have HF := hide (HI.out.done (by rw [HNx.out]; exact Nat.le_refl _))
                  have HC3 := hide (HM3.out.cnt HF.out.once)
                  go_wp2
                  refine ⟨⟨seen2, T2, A2, c2, by rw [HM2l.out], by rw [← HM2l.out]; exact HM3, HF, ?_⟩, ?_⟩
                  · have h1 := HB.out; have h2 := HMM.out; have h3 := HBd.out; omega
                  · rw [HC3.out, HCnt.out]
                    show 2 * (41 - seen2.length) + m2 < 2 * (41 - seen.length) + (m + 1)
                    have h1 := HB.out; have h2 := HMM.out; have h3 := HM2l.out; omega
end Go.Proofs.Ytplmcpdlommmaaa.Dq
