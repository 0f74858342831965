/-
  A patch that came in.
-/
import Derived.Lib.SmallJoins
import Derived.Test.YtabgkfkjnpcbkaaDoorQTX
import Derived.BigQuiet
namespace Go.Proofs.YtabgkfkjnpcbkaaDoor.Tr
open Go Go.RowKit Go.WideShapes Go.ChangeShapes Go.ChangeAt Go.ChangeMaps Go.Deep Kt Lw Li Df

section
variable {H : Type} {enc : TypeId × Value → H} {P : Program}
theorem open_texts1 {t e : TypeId} {W : World} {n : Nat} {v : Value} {y : DataW H × List MemPlace} (ht : P.underlying t = some (.slice e)) (he : P.underlying e = some .string) (hc : P.cellsOf e = 1)
    (hf : DataW.trod enc P W 0 (fun _ => true) true n t [v] = some y) :
    ∃ (l : List (List UInt8)) (A : Option Addr) (c : Nat), v = .slice A l.length c ∧ (Vs W (fun _ => True) A c (texts l) ∧ ∀ s ∈ l, s.length ≤ maxLen) ∧ l.length ≤ maxLen := by
  rcases open_strings ht he hc hf with ⟨hcs, hx⟩ | ⟨a, len, cap, zs, hcs, _, hl, hm, hz, hx, hcell, hwz⟩
  · obtain rfl : v = .slice none 0 0 := List.head_eq_of_cons_eq hcs
    exact ⟨[], none, 0, rfl, ⟨⟨Nat.zero_le _, fun h => by simp [texts] at h⟩, fun z hz => by cases hz⟩, Nat.zero_le _⟩
  · obtain rfl : v = .slice (some a) len cap := List.head_eq_of_cons_eq hcs
    simp only [if_true] at hz
    have hlen : ((zs.take len).map fun s => s.data.toList).length = len := by rw [List.length_map, List.length_take]; omega
    refine ⟨(zs.take len).map fun s => s.data.toList, some a, cap, by rw [hlen], ⟨⟨by rw [texts_len, hlen]; exact hl, fun hn => ?_⟩, fun z hzm => ?_⟩, by rw [hlen]; omega⟩
    · rw [texts_len, hlen] at hn
      obtain ⟨ab, ao, spot⟩ := a
      have hspot : spot = none := by simpa [Addr.add] using World.cell?_spot (hcell 0 (by omega))
      subst hspot
      refine ⟨ab, ao, rfl, trivial, fun j v hj => ?_⟩
      have hjl : j < len := by have := (List.getElem?_eq_some_iff.1 hj).1; rw [texts_len, hlen] at this; exact this
      have hcj := hcell j (by omega)
      rw [Addr.add_mid] at hcj
      rw [hcj, ← hj, texts_at _ _ (by rw [hlen]; exact hjl)]
      simp [List.getD_eq_getElem?_getD, hjl, List.getElem?_eq_getElem (show j < zs.length by omega)]
    · obtain ⟨s, hs, rfl⟩ := List.mem_map.1 hzm
      rw [Array.length_toList]
      exact hwz s (List.mem_of_mem_take hs)
set_option maxRecDepth 100000 in
theorem open_changes1 {W : World} {fuel : Nat} {v : Value} {y : DataW H × List MemPlace}
    (hf : DataW.trod enc Tryd.prog W 0 (fun _ => true) true fuel 23 [v] = some y) :
    ∃ (L : List Ch) (A : Option Addr) (c : Nat), v = .slice A L.length c ∧ (Chs W A c L ∧ ∀ f ∈ L, f.path.length ≤ maxLen ∧ f.text.length ≤ maxLen) ∧ L.length ≤ maxLen := by
  rcases open_slice Tryd.underlying23 hf with ⟨hcs, _⟩ | ⟨a, len, cap, m, n, D, Pl, hcs, _, hl, hm, hmm, _, hi⟩
  · obtain rfl : v = .slice none 0 0 := List.head_eq_of_cons_eq hcs
    exact ⟨[], none, 0, rfl, ⟨Chs.nil _ _ _, fun f hf => by cases hf⟩, Nat.zero_le _⟩
  · obtain rfl : v = .slice (some a) len cap := List.head_eq_of_cons_eq hcs
    simp only [if_true] at hmm
    subst hmm
    have hC : Tryd.prog.cellsOf 51 = 3 := by kernel_rfl
    have cB : Tryd.prog.cellsOf 4 = 1 := by kernel_rfl
    have cS : Tryd.prog.cellsOf 9 = 1 := by kernel_rfl
    rw [hC] at hi
    have hel : ∀ i, i < len → ∃ e : Ch, ∀ k u, (chC e)[k]? = some u → W.cell? ((a.add (i * 3)).add k) = some u := by
      intro i hil
      obtain ⟨cs', hc, ht⟩ := hi i (by omega)
      obtain ⟨_, hcl, hat⟩ := World.cells?_some hc
      obtain ⟨y0, y1, y2, n', _, _, h0, h1, h2⟩ := trod_struct3 Tryd.underlying51 ht
      simp only [cS, cB] at h0 h1 h2
      obtain ⟨p, e0, _, hp⟩ := DataW.trod_string Tryd.underlying9 h0
      obtain ⟨gb, e1, _⟩ := DataW.trod_bool Tryd.underlying4 h1
      obtain ⟨x, e2, _, hx⟩ := DataW.trod_string Tryd.underlying9 h2
      have k0 := one_at _ _ _ e0
      have k1 := one_at _ _ _ e1
      have k2 := one_at _ _ _ e2
      refine ⟨⟨p.data.toList, gb, x.data.toList⟩, fun k u hk => ?_⟩
      have hk2 : k < 3 := (List.getElem?_eq_some_iff.1 hk).1
      rw [hat k hk2]
      rcases k with _ | _ | _ | k
      · rw [k0, ← hk]; rfl
      · rw [k1, ← hk]; rfl
      · rw [k2, ← hk]; rfl
      · omega
    have hlen : ∀ i, i < len → ∀ e : Ch, (∀ k u, (chC e)[k]? = some u → W.cell? ((a.add (i * 3)).add k) = some u) → e.path.length ≤ maxLen ∧ e.text.length ≤ maxLen := by
      intro i hil e he
      obtain ⟨cs', hc, ht⟩ := hi i (by omega)
      obtain ⟨_, hcl, hat⟩ := World.cells?_some hc
      obtain ⟨y0, y1, y2, n', _, _, h0, h1, h2⟩ := trod_struct3 Tryd.underlying51 ht
      simp only [cS, cB] at h0 h1 h2
      obtain ⟨p, e0, _, hp⟩ := DataW.trod_string Tryd.underlying9 h0
      obtain ⟨gb, e1, _⟩ := DataW.trod_bool Tryd.underlying4 h1
      obtain ⟨x, e2, _, hx⟩ := DataW.trod_string Tryd.underlying9 h2
      have k0 := one_at _ _ _ e0
      have k1 := one_at _ _ _ e1
      have k2 := one_at _ _ _ e2
      have g0 := he 0 _ rfl
      have g1 := he 2 _ rfl
      rw [hat 0 (by omega), k0] at g0
      rw [hat 2 (by omega), k2] at g1
      simp only [Option.some.injEq, Value.string.injEq] at g0 g1
      have q0 := congrArg ByteArray.size g0
      have q1 := congrArg ByteArray.size g1
      exact ⟨by rw [show e.path.length = (ByteArray.mk e.path.toArray).size from rfl, ← q0]; exact hp, by rw [show e.text.length = (ByteArray.mk e.text.toArray).size from rfl, ← q1]; exact hx⟩
    obtain ⟨L, hLl, hQ⟩ := list_of _ len hel
    refine ⟨L, some a, m, by rw [hLl], ⟨⟨by omega, fun hn => ?_⟩, fun f hf => ?_⟩, by omega⟩
    · obtain ⟨ab, ao, spot⟩ := a
      obtain ⟨e0, hc0⟩ := hel 0 (by omega)
      have hspot : spot = none := by simpa [Addr.add] using World.cell?_spot (hc0 0 _ rfl)
      subst hspot
      have hlt : ab < W.heap.size := by
        have := hc0 0 _ rfl
        rw [Addr.add_mid, Addr.add_mid] at this
        exact World.block_lt_of_cell? W _ this
      refine ⟨ab, ao, rfl, hlt, fun j e hj k u hk => ?_⟩
      have := hQ j e hj k u hk
      rw [Addr.add_mid, Addr.add_mid] at this
      rw [Nat.mul_comm 3 j]
      exact this
    · obtain ⟨j, hj⟩ := List.getElem?_of_mem hf
      exact hlen j (by rw [← hLl]; exact (List.getElem?_eq_some_iff.1 hj).1) f (hQ j f hj)
/-- what a patch is in memory -/
def PchV (p : Pch) (Ai Ac : Option Addr) (ci cc : Nat) : Value := .agg #[.slice Ai p.ids.length ci, .string ⟨p.author.toArray⟩, .string ⟨p.note.toArray⟩, .slice Ac p.chs.length cc]
open Go.Joins in
set_option maxRecDepth 100000 in
theorem open_patch {W : World} {base : Nat} {v : Value} {d : DataW H} {ps : List MemPlace}
    (hval : Value.okWide Tryd.prog W .any base 25 v) (h : DataW.Trod enc Tryd.prog W 0 (fun _ => true) true 25 v d ps) :
    ∃ (p : Pch) (Ai Ac : Option Addr) (ci cc : Nat), v = PchV p Ai Ac ci cc ∧ (Vs W (fun _ => True) Ai ci (texts p.ids) ∧ ∀ s ∈ p.ids, s.length ≤ maxLen) ∧ (Chs W Ac cc p.chs ∧ ∀ f ∈ p.chs, f.path.length ≤ maxLen ∧ f.text.length ≤ maxLen) ∧
      p.ids.length ≤ maxLen ∧ p.author.length ≤ maxLen ∧ p.note.length ≤ maxLen ∧ p.chs.length ≤ maxLen := by
  obtain ⟨v0, v1, v2, v3, y0, y1, y2, y3, n, rfl, _, _, h0, h1, h2, h3⟩ := open_agg4 Tryd.underlying25 (by kernel_rfl) (by kernel_rfl) hval h
  obtain ⟨ids, Ai, ci, rfl, hi, li⟩ := open_texts1 Tryd.underlying22 Tryd.underlying33 (by kernel_rfl) h0
  obtain ⟨a, e1, _, ha⟩ := DataW.trod_string Tryd.underlying9 h1
  obtain ⟨o, e2, _, ho⟩ := DataW.trod_string Tryd.underlying9 h2
  obtain ⟨chs, Ac, cc, rfl, hc, lc⟩ := open_changes1 h3
  simp only [List.cons.injEq, and_true] at e1 e2
  subst e1 e2
  exact ⟨⟨ids, a.data.toList, o.data.toList, chs⟩, Ai, Ac, ci, cc, rfl, hi, hc, li, ha, ho, lc⟩
end
end Go.Proofs.YtabgkfkjnpcbkaaDoor.Tr
namespace Go.Proofs.YtabgkfkjnpcbkaaDoor.Tr
open Go Go.RowKit Kt Lw Li Lx Df Wr Kf

/-- what holds of an operation's value once it is done -/
def PhiP (p x : Bs) (n g B : Nat) : Nat → Value → World → Prop
  | 0, v, _ => v = .pointer (some ⟨g, 0, none⟩)
  | 1, v, _ => v = .string ⟨p.toArray⟩
  | 2, v, w => Is w (fun _ => True) v p
  | 3, v, w => Is w (fun _ => True) v (txt p)
  | 4, v, _ => v = .int .u64 (n : Int)
  | 5, v, w => Is w (fun _ => True) v (txt p ++ form n)
  | 6, v, _ => v = .pointer (some ⟨g, 2, none⟩)
  | 7, v, _ => v = .string ⟨x.toArray⟩
  | 8, v, w => Is w (fun _ => True) v x
  | 9, v, w => Own w B 5 v (txt p ++ (form n ++ txt x))
  | _, _, _ => True
theorem PhiP.keep {p x : Bs} {n g B k : Nat} {v : Value} {w w' : World} (h : PhiP p x n g B k v w) (hb : Below w.heap.size w w') : PhiP p x n g B k v w' := by
  unfold PhiP at h ⊢
  split at h <;> first | exact h | exact h.below hb | exact h.kept hb
def frP (r : Value) (p1 x2 w3 y4 y5 : Value) (v : Nat → Value) : Act := { tmps := List.toArray (r :: p1 :: x2 :: w3 :: y4 :: y5 :: v 6 :: v 7 :: v 8 :: v 9 :: v 10 :: v 11 :: v 12 :: v 13 :: v 14 :: v 15 :: []), defers := [] }
/-- what holds of all that is done so far -/
structure DnP (p x : Bs) (n g B : Nat) (w1 : World) (listed : Array Bool) (v : Nat → Value) (x2 : Value) (w : World) : Prop where
  low : Below w1.heap.size w1 w
  phi : ∀ k, k < 10 → listed.getD k false = true → PhiP p x n g B k (v (k + 6)) w
  fin : listed.getD 10 false = true → Own w B 5 x2 (txt p ++ (form n ++ txt x))
theorem DnP.step {p x : Bs} {n g B : Nat} {w1 : World} {listed : Array Bool} {v : Nat → Value} {x2 : Value} {w : World} (h : DnP p x n g B w1 listed v x2 w) (k : Nat) (hk : k < 10) {nv : Value} {w' : World} (hb : Below w.heap.size w w') (hn : PhiP p x n g B k nv w') :
    DnP p x n g B w1 (listed.setIfInBounds k true) (updX v (k + 6) nv) x2 w' := by
  refine ⟨h.low.trans (hb.mono h.low.size), fun j hj hl => ?_, fun hl => ?_⟩
  · by_cases e : j = k
    · subst e; rw [updX_same]; exact hn
    · rw [updX_other _ _ _ _ (by omega)]
      rw [getD_set_ne false (fun h => e h.symm)] at hl
      exact (h.phi j hj hl).keep hb
  · rw [getD_set_ne false (by omega)] at hl
    exact (h.fin hl).kept hb
theorem DnP.last {p x : Bs} {n g B : Nat} {w1 : World} {listed : Array Bool} {v : Nat → Value} {x2 : Value} {w : World} (h : DnP p x n g B w1 listed v x2 w) {nv : Value} (hn : Own w B 5 nv (txt p ++ (form n ++ txt x))) :
    DnP p x n g B w1 (listed.setIfInBounds 10 true) v nv w :=
  ⟨h.low, fun j hj hl => h.phi j hj (by rw [getD_set_ne false (by omega)] at hl; exact hl), fun _ => hn⟩
set_option maxRecDepth 100000 in
set_option maxHeartbeats 8000000 in
theorem change4_any {B : Code} (hB : B = (findR 4 (Tryd.f59.body.getD .skip)).getD .skip) {Q : Exit → Act → World → Prop} (p x : Bs) (n g q : Nat) (r y4 y5 x0 : Value) (w1 : World) (hq : q ≤ w1.heap.size)
    (hp : p.length ≤ 200) (hx : x.length ≤ 65536) (hn : n < 18446744073709551616)
    (hc : ∀ wz, Below w1.heap.size w1 wz → wz.cell? ⟨g, 0, none⟩ = some (.string ⟨p.toArray⟩) ∧ wz.cell? ⟨g, 2, none⟩ = some (.string ⟨x.toArray⟩))
    (hQ : ∀ (v : Nat → Value) (x2 : Value) (wz : World), Own wz q 5 x2 (txt p ++ (form n ++ txt x)) → Below w1.heap.size w1 wz → Q .normal (frP r (.pointer (some ⟨g, 0, none⟩)) x2 (.int .u64 (n : Int)) y4 y5 v) wz) :
    B.wp Tryd.prog Q (frP r (.pointer (some ⟨g, 0, none⟩)) x0 (.int .u64 (n : Int)) y4 y5 (fun _ => undef)) w1 := by
  have hf10 := form_ten (n := p.length) (by omega)
  have hfn := form_ten hn
  have hpl : (txt p).length = (form p.length).length + p.length := by unfold txt; rw [List.length_append]
  have HT1 := hide (fun (wz : World) A c (hs : Sl wz (fun _ => True) A c p) => text_put [] p none 0 A c (fun _ => True) (fun _ => True) wz (Sl.nil _ _ _ _) hs (by simp; omega))
  have HT2 := hide (fun (wz : World) A0 c0 (h0 : Sl wz (fun _ => True) A0 c0 (txt p)) => num_any (txt p) n A0 c0 (fun _ => True) wz h0 hn (by omega))
  have HT3 := hide (fun (wz : World) A0 c0 A c (h0 : Sl wz (fun _ => True) A0 c0 (txt p ++ form n)) (hs : Sl wz (fun _ => True) A c x) => text_put (txt p ++ form n) x A0 c0 A c (fun _ => True) (fun _ => True) wz h0 hs (by rw [List.length_append]; omega))
  have e2 : (txt p ++ form n) ++ (form x.length ++ x) = txt p ++ (form n ++ txt x) := by rw [List.append_assoc]; rfl
  rw [e2] at HT3
  have HC := hide hc
  have HK := hide hQ
  have HS := hide hq
  clear hf10 hfn hpl e2 hp hx hc hQ hq hn
  rw [hB]
  refine Rv.wp_region_inv (fun listed a' w' => ∃ v x2, a' = frP r (.pointer (some ⟨g, 0, none⟩)) x2 (.int .u64 (n : Int)) y4 y5 v ∧ DnP p x n g q w1 listed v x2 w') (by kernel_rfl) (by kernel_rfl) ?start ?step ?fin
  case start =>
    refine ⟨fun _ => undef, _, rfl, ⟨(Below.refl _ w1).drew, fun k hk hl => ?_, fun hl => ?_⟩⟩
    · rw [repX_false] at hl; cases hl
    · rw [repX_false] at hl; cases hl
  case fin =>
    rintro listed a' w' ⟨v, x2, rfl, hd⟩ hl
    exact HK.out v x2 w' (hd.fin (hl 10 (by simp))) hd.low
  case step =>
    rintro listed a' w' i op ⟨v, x2, rfl, hd⟩ hop hsz hdep K hK
    have hi : i < 11 := by have := (List.getElem?_eq_some_iff.1 hop).1; simpa using this
    have HKK := hide (show ∀ k nv wz, k < 10 → i = k → Below w'.heap.size w' wz → PhiP p x n g q k nv wz → K (frP r (.pointer (some ⟨g, 0, none⟩)) x2 (.int .u64 (n : Int)) y4 y5 (updX v (k + 6) nv)) wz from
      fun k nv wz hk hik hbz hph => hK _ _ ⟨_, _, rfl, by rw [hik]; exact hd.step k hk hbz hph⟩)
    obtain ⟨c0, c2⟩ := HC.out w' hd.low
    have Hd := hide hd
    have Hdep := hide hdep
    have HhK := hide hK
    clear hd hdep hK HC
    have hcase : i = 0 ∨ i = 1 ∨ i = 2 ∨ i = 3 ∨ i = 4 ∨ i = 5 ∨ i = 6 ∨ i = 7 ∨ i = 8 ∨ i = 9 ∨ i = 10 := by omega
    rcases hcase with rfl | rfl | rfl | rfl | rfl | rfl | rfl | rfl | rfl | rfl | rfl
    · simp only [List.getElem?_cons_zero, Option.some.injEq] at hop
      subst hop
      unfold frP
      go_simp
      have hk := HKK.out 0 (.pointer (some ⟨g, 0, none⟩)) _ (by omega) rfl (Below.refl _ _) rfl
      simp only [frP, updX, Nat.reduceAdd, Nat.reduceEqDiff, ↓reduceIte] at hk
      exact hk
    · simp only [List.getElem?_cons_zero, List.getElem?_cons_succ, Option.some.injEq] at hop
      subst hop
      have h0 : v 6 = .pointer (some ⟨g, 0, none⟩) := Hd.out.phi 0 (by omega) (Hdep.out 0 (by kernel_rfl))
      unfold frP
      go_simp
      have hk := HKK.out 1 (.string ⟨p.toArray⟩) _ (by omega) rfl (Below.refl _ _) rfl
      simp only [frP, updX, Nat.reduceAdd, Nat.reduceEqDiff, ↓reduceIte, h0] at hk
      exact hk
    · simp only [List.getElem?_cons_zero, List.getElem?_cons_succ, Option.some.injEq] at hop
      subst hop
      have h1 : v 7 = .string ⟨p.toArray⟩ := Hd.out.phi 1 (by omega) (Hdep.out 1 (by kernel_rfl))
      obtain ⟨cap, ob, hrun, hsl⟩ := conv_txt p w'
      have Hsl := hide hsl
      clear hsl
      unfold frP
      go_simp
      have hk := HKK.out 2 (.slice (some ⟨w'.heap.size, 0, none⟩) p.length cap) _ (by omega) rfl ((Below.refl _ _).drew.alloc (Nat.le_refl _) ob) ⟨_, _, rfl, Hsl.out⟩
      simp only [frP, updX, Nat.reduceAdd, Nat.reduceEqDiff, ↓reduceIte, h1] at hk
      exact hk
    · simp only [List.getElem?_cons_zero, List.getElem?_cons_succ, Option.some.injEq] at hop
      subst hop
      obtain ⟨A2, k2, h2, hs2⟩ : Is w' (fun _ => True) (v 8) p := Hd.out.phi 2 (by omega) (Hdep.out 2 (by kernel_rfl))
      have hT := HT1.out w' A2 k2 hs2
      clear hs2
      generalize hpl : p.length = pl at h2
      rw [hpl] at hT
      unfold frP
      go_simp
      refine hT.mono ?_
      rintro y w2 ⟨v2, rfl, hown2, hb2⟩
      have hk := HKK.out 3 (v2) _ (by omega) rfl hb2 (show Is w2 (fun _ => True) v2 (txt p) from by have := (Is.own hown2).imp (Q := fun _ => True) fun _ _ _ => trivial; rw [List.nil_append, ← hpl] at this; exact this)
      simp only [frP, updX, Nat.reduceAdd, Nat.reduceEqDiff, ↓reduceIte, h2] at hk
      exact hk
    · simp only [List.getElem?_cons_zero, List.getElem?_cons_succ, Option.some.injEq] at hop
      subst hop
      unfold frP
      go_simp
      have hk := HKK.out 4 (.int .u64 (n : Int)) _ (by omega) rfl (Below.refl _ _) rfl
      simp only [frP, updX, Nat.reduceAdd, Nat.reduceEqDiff, ↓reduceIte] at hk
      exact hk
    · simp only [List.getElem?_cons_zero, List.getElem?_cons_succ, Option.some.injEq] at hop
      subst hop
      obtain ⟨A3, k3, h3, hs3⟩ : Is w' (fun _ => True) (v 9) (txt p) := Hd.out.phi 3 (by omega) (Hdep.out 3 (by kernel_rfl))
      have h4 : v 10 = .int .u64 (n : Int) := Hd.out.phi 4 (by omega) (Hdep.out 4 (by kernel_rfl))
      have hT := HT2.out w' A3 k3 hs3
      clear hs3
      generalize (txt p).length = n3 at h3 hT
      unfold frP
      go_simp
      refine hT.mono ?_
      rintro y w2 ⟨v2, rfl, hown2, hb2⟩
      have hk := HKK.out 5 (v2) _ (by omega) rfl hb2 (show Is w2 (fun _ => True) v2 (txt p ++ form n) from (Is.own hown2).imp (Q := fun _ => True) fun _ _ _ => trivial)
      simp only [frP, updX, Nat.reduceAdd, Nat.reduceEqDiff, ↓reduceIte, h3, h4] at hk
      exact hk
    · simp only [List.getElem?_cons_zero, List.getElem?_cons_succ, Option.some.injEq] at hop
      subst hop
      unfold frP
      go_simp
      have hk := HKK.out 6 (.pointer (some ⟨g, 2, none⟩)) _ (by omega) rfl (Below.refl _ _) rfl
      simp only [frP, updX, Nat.reduceAdd, Nat.reduceEqDiff, ↓reduceIte] at hk
      exact hk
    · simp only [List.getElem?_cons_zero, List.getElem?_cons_succ, Option.some.injEq] at hop
      subst hop
      have h0 : v 12 = .pointer (some ⟨g, 2, none⟩) := Hd.out.phi 6 (by omega) (Hdep.out 6 (by kernel_rfl))
      unfold frP
      go_simp
      have hk := HKK.out 7 (.string ⟨x.toArray⟩) _ (by omega) rfl (Below.refl _ _) rfl
      simp only [frP, updX, Nat.reduceAdd, Nat.reduceEqDiff, ↓reduceIte, h0] at hk
      exact hk
    · simp only [List.getElem?_cons_zero, List.getElem?_cons_succ, Option.some.injEq] at hop
      subst hop
      have h1 : v 13 = .string ⟨x.toArray⟩ := Hd.out.phi 7 (by omega) (Hdep.out 7 (by kernel_rfl))
      obtain ⟨cap, ob, hrun, hsl⟩ := conv_txt x w'
      have Hsl := hide hsl
      clear hsl
      unfold frP
      go_simp
      have hk := HKK.out 8 (.slice (some ⟨w'.heap.size, 0, none⟩) x.length cap) _ (by omega) rfl ((Below.refl _ _).drew.alloc (Nat.le_refl _) ob) ⟨_, _, rfl, Hsl.out⟩
      simp only [frP, updX, Nat.reduceAdd, Nat.reduceEqDiff, ↓reduceIte, h1] at hk
      exact hk
    · simp only [List.getElem?_cons_zero, List.getElem?_cons_succ, Option.some.injEq] at hop
      subst hop
      obtain ⟨A3, k3, h3, hs3⟩ : Is w' (fun _ => True) (v 11) (txt p ++ form n) := Hd.out.phi 5 (by omega) (Hdep.out 5 (by kernel_rfl))
      obtain ⟨A6, k6, h6, hs6⟩ : Is w' (fun _ => True) (v 14) x := Hd.out.phi 8 (by omega) (Hdep.out 8 (by kernel_rfl))
      have hT := HT3.out w' A3 k3 A6 k6 hs3 hs6
      clear hs3 hs6
      generalize (txt p ++ form n).length = n3 at h3 hT
      generalize x.length = n6 at h6 hT
      unfold frP
      go_simp
      refine hT.mono ?_
      rintro y w2 ⟨v2, rfl, hown2, hb2⟩
      have hk := HKK.out 9 (v2) _ (by omega) rfl hb2 (show Own w2 q 5 v2 (txt p ++ (form n ++ txt x)) from own_based hown2 (by have := Hd.out.low.size; have := HS.out; omega))
      simp only [frP, updX, Nat.reduceAdd, Nat.reduceEqDiff, ↓reduceIte, h3, h6] at hk
      exact hk
    · simp only [List.getElem?_cons_zero, List.getElem?_cons_succ, Option.some.injEq] at hop
      subst hop
      have h7 : Own w' q 5 (v 15) (txt p ++ (form n ++ txt x)) := Hd.out.phi 9 (by omega) (Hdep.out 9 (by kernel_rfl))
      have hk := HhK.out (frP r (.pointer (some ⟨g, 0, none⟩)) (v 15) (.int .u64 (n : Int)) y4 y5 v) w' ⟨_, _, rfl, Hd.out.last h7⟩
      unfold frP at hk ⊢
      go_simp
      exact hk
set_option maxRecDepth 100000 in
set_option maxHeartbeats 8000000 in
theorem change_any (c : Ch) (w : World) (hp : c.path.length ≤ 200) (hx : c.text.length ≤ 65536) :
    Calls Tryd.prog 59 #[.agg #[.string ⟨c.path.toArray⟩, .bool c.gone, .string ⟨c.text.toArray⟩]] w fun y w' => ∃ v, y = .returned v ∧ Own w' w.heap.size 5 v (fCh c) ∧ Below w.heap.size w w' := by
  obtain ⟨p, gn, x⟩ := c
  simp only at hp hx ⊢
  obtain ⟨g, hg⟩ : ∃ g, g = w.heap.size := ⟨_, rfl⟩
  obtain ⟨w1, hw1⟩ : ∃ w1, w1 = w.alloc (.cells #[.string ⟨p.toArray⟩, .bool gn, .string ⟨x.toArray⟩] tC) := ⟨_, rfl⟩
  have hb1 : Below w.heap.size w w1 := by rw [hw1]; exact (Below.refl _ w).alloc (Nat.le_refl _) _
  have hrow := Row.fresh w tC #[.string ⟨p.toArray⟩, .bool gn, .string ⟨x.toArray⟩]
  rw [← hw1, ← hg] at hrow
  have c1 : w1.cell? ⟨g, 1, none⟩ = some (.bool gn) := hrow.cell 1
  have HC := hide (show ∀ wz, Below w1.heap.size w1 wz → wz.cell? ⟨g, 0, none⟩ = some (.string ⟨p.toArray⟩) ∧ wz.cell? ⟨g, 2, none⟩ = some (.string ⟨x.toArray⟩) from fun wz hz => by
    have hr := hrow.below hz hrow.lt
    exact ⟨hr.cell 0, hr.cell 2⟩)
  have HF := hide (show ∀ wz, Below w1.heap.size w1 wz → Below w.heap.size w wz from fun wz h => hb1.trans (h.mono hb1.size))
  have HS := hide hb1.size
  have Hp := hide hp
  have Hx := hide hx
  have W1 := hide hw1
  have G1 := hide hg
  clear hb1 hrow hw1 hg hp hx
  generalize hB : (findR 4 (Tryd.f59.body.getD .skip)).getD .skip = B4
  have hcov : IntKind.u64.wrap (1 : Int) = 1 := by decide
  cases gn with
  | false =>
    have HCh := hide (fun (x0 r y4 y5 : Value) (Q : Exit → Act → World → Prop) hQ => change4_any (Q := Q) hB.symm p x 0 g w.heap.size r y4 y5 x0 w1 HS.out Hp.out Hx.out (by omega) HC.out hQ)
    go_enter Tryd.func59, Tryd.ntmps59
    generalize hR : Code.region 4 _ _ = B5
    have hBB : B4 = B5 := by rw [← hB, ← hR]; kernel_rfl
    subst hBB
    go_wp2_with (first | rw [← W1.out, ← G1.out] | fail)
    rename_i KK hKK
    refine HCh.out _ _ _ _ _ ?_
    intro v x2 wz hown hlow
    have Hown := hide hown
    have Hlow := hide hlow
    clear hown hlow
    refine hKK _ _ ?_
    clear hKK KK HCh
    unfold frP
    go_wp2
    go_ret
    exact ⟨_, rfl, Hown.out, HF.out _ Hlow.out⟩
  | true =>
    have HCh := hide (fun (x0 r y4 y5 : Value) (Q : Exit → Act → World → Prop) hQ => change4_any (Q := Q) hB.symm p x 1 g w.heap.size r y4 y5 x0 w1 HS.out Hp.out Hx.out (by omega) HC.out hQ)
    go_enter Tryd.func59, Tryd.ntmps59
    generalize hR : Code.region 4 _ _ = B5
    have hBB : B4 = B5 := by rw [← hB, ← hR]; kernel_rfl
    subst hBB
    go_wp2_with (first | rw [← W1.out, ← G1.out] | fail)
    rename_i KK hKK
    refine HCh.out _ _ _ _ _ ?_
    intro v x2 wz hown hlow
    have Hown := hide hown
    have Hlow := hide hlow
    clear hown hlow
    refine hKK _ _ ?_
    clear hKK KK HCh
    unfold frP
    go_wp2
    go_ret
    exact ⟨_, rfl, Hown.out, HF.out _ Hlow.out⟩
end Go.Proofs.YtabgkfkjnpcbkaaDoor.Tr
