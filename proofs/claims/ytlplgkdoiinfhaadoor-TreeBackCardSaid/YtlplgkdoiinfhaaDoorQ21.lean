/-
  Texts, and slices of texts, that came in, with the form's own reach.
-/
import Derived.Test.YtlplgkdoiinfhaaDoorQ3
import Derived.SizedLaws
import Derived.Test.YtlplgkdoiinfhaaDoorYA
import Derived.Test.YtlplgkdoiinfhaaDoorLaw
import Derived.Test.YtlplgkdoiinfhaaDoorRows
import Derived.LaidSub
import Derived.Shelf.Vars
import Derived.Lib.LaidTab
namespace Go.Proofs.YtlplgkdoiinfhaaDoor.Lw
open Go Go.RowKit Go.WideShapes Go.ChangeShapes Go.ChangeAt Go.ChangeMaps Kt

section
variable {H : Type} {enc : TypeId × Value → H} {P : Program}
theorem reach_eq : reachBytes = 140737488351232 := by decide
set_option maxRecDepth 100000 in
theorem open_textS {t : TypeId} {W : World} {base : Nat} {v : Value} {d : DataW H} {ps : List MemPlace} {ts : List TypeId} {ds : List (DataW H)} (hz : (DataW.weightsEach P ts ds).all (· ≤ reachBytes) = true) (j : Nat) (hj : ts[j]? = some t) (hd : ds[j]? = some d)
    (ht : P.underlying t = some .string) (hval : Value.okWide P W .any base t v) (h : DataW.Trod enc P W 0 (fun _ => true) true t v d ps) : ∃ l : List UInt8, v = .string ⟨l.toArray⟩ ∧ l.length ≤ 140737488351232 := by
  obtain ⟨s, rfl, rfl, _, _⟩ := open_string ht hval h
  refine ⟨s.data.toList, by simp, ?_⟩
  have := sized_string hz hj hd
  rwa [reach_eq] at this
theorem strs_weights (e : TypeId) : ∀ (l : List ByteArray) (s : ByteArray), s ∈ l → s.data.toList.length ∈ DataW.weightsAll P e (strs l : List (DataW H))
  | [], s, h => by cases h
  | a :: l, s, h => by
    rw [strs, List.map_cons, DataW.weightsAll, List.mem_append]
    rcases List.mem_cons.1 h with rfl | h
    · left
      rw [DataW.weights]
      exact List.mem_singleton.2 rfl
    · right
      exact strs_weights e l s h
set_option maxRecDepth 100000 in
theorem open_textsS {t e : TypeId} {W : World} {base : Nat} {v : Value} {d : DataW H} {ps : List MemPlace} {ts : List TypeId} {ds : List (DataW H)} (hz : (DataW.weightsEach P ts ds).all (· ≤ reachBytes) = true) (j : Nat) (hj : ts[j]? = some t) (hd : ds[j]? = some d)
    (ht : P.underlying t = some (.slice e)) (he : P.underlying e = some .string) (hc : P.cellsOf e = 1)
    (hval : Value.okWide P W .any base t v) (h : DataW.Trod enc P W 0 (fun _ => true) true t v d ps) :
    ∃ (l : List (List UInt8)) (A : Option Addr) (c : Nat), v = .slice A l.length c ∧ Vs W (fun _ => True) A c (texts l) ∧ (∀ s ∈ l, s.length ≤ 140737488351232) ∧ l.length ≤ maxLen := by
  obtain ⟨a1, len, cap, rfl⟩ := okWide_slice ht hval
  obtain ⟨fuel, hf⟩ := h
  rcases open_strings ht he hc hf with ⟨hcs, hx⟩ | ⟨a, len', cap', zs, hcs, _, hl, hm, hzs, hx, hcell, hwz⟩
  · simp [Value.cells] at hcs
    obtain ⟨rfl, rfl, rfl⟩ := hcs
    exact ⟨[], none, 0, rfl, ⟨Nat.zero_le _, fun h => by simp [texts] at h⟩, fun z hz => (by cases hz), Nat.zero_le _⟩
  · simp [Value.cells] at hcs
    obtain ⟨rfl, rfl, rfl⟩ := hcs
    simp only [if_true] at hzs
    have hlen : ((zs.take len).map fun s => s.data.toList).length = len := by rw [List.length_map, List.length_take]; omega
    refine ⟨(zs.take len).map fun s => s.data.toList, some a, cap, by rw [hlen], ⟨by rw [texts_len, hlen]; exact hl, fun hn => ?_⟩, fun z hzm => ?_, by rw [hlen]; omega⟩
    · rw [texts_len, hlen] at hn
      obtain ⟨ab, ao, spot⟩ := a
      have hspot : spot = none := by simpa [Addr.add] using World.cell?_spot (hcell 0 (by omega))
      subst hspot
      refine ⟨ab, ao, rfl, trivial, fun k v hk => ?_⟩
      have hkl : k < len := by have := (List.getElem?_eq_some_iff.1 hk).1; rw [texts_len, hlen] at this; exact this
      have hck := hcell k (by omega)
      rw [Addr.add_mid] at hck
      rw [hck, ← hk, texts_at _ _ (by rw [hlen]; exact hkl)]
      simp [List.getD_eq_getElem?_getD, hkl, List.getElem?_eq_getElem (show k < zs.length by omega)]
    · obtain ⟨s, hs, rfl⟩ := List.mem_map.1 hzm
      injection hx with hx1 hx2
      rw [hx1] at hd
      have hw : s.data.toList.length ∈ DataW.weightsEach P ts ds := DataW.weights_mem_each hj hd _ (by
        rw [DataW.weights, ht]
        exact List.mem_cons.2 (.inr (List.mem_append.2 (.inl (strs_weights e _ s hs)))))
      have := List.all_eq_true.1 hz _ hw
      rw [reach_eq] at this
      simpa using this
end
end Go.Proofs.YtlplgkdoiinfhaaDoor.Lw
namespace Go.Proofs.YtlplgkdoiinfhaaDoor.Tr
open Go Go.RowKit Go.WideShapes Go.ChangeShapes Go.ChangeAt Go.ChangeMaps Go.Deep Kt Lw Li Df
section
variable {H : Type} {enc : TypeId × Value → H}
open Go.Joins in
set_option maxRecDepth 100000 in
theorem open_fileS {W : World} {base : Nat} {v : Value} {d : DataW H} {ps : List MemPlace} {ts : List TypeId} {ds : List (DataW H)} (hz : (DataW.weightsEach Tryd.prog ts ds).all (· ≤ reachBytes) = true) (j : Nat) (hj : ts[j]? = some 39) (hd : ds[j]? = some d)
    (hval : Value.okWide Tryd.prog W .any base 39 v) (h : DataW.Trod enc Tryd.prog W 0 (fun _ => true) true 39 v d ps) :
    ∃ f : Fl, v = .agg #[.string ⟨f.path.toArray⟩, .string ⟨f.text.toArray⟩] ∧ f.path.length ≤ 140737488351232 ∧ f.text.length ≤ 140737488351232 := by
  obtain ⟨v0, v1, y0, y1, n, rfl, hdd, _, h0, h1⟩ := open_agg2 Tryd.underlying39 (by kernel_rfl) (by kernel_rfl) hval h
  obtain ⟨p, e0, k0, _⟩ := DataW.trod_string Tryd.underlying9 h0
  obtain ⟨x, e1, k1, _⟩ := DataW.trod_string Tryd.underlying9 h1
  simp only [List.cons.injEq, and_true] at e0 e1
  subst e0 e1
  have w0 : p.data.toList.length ∈ DataW.weightsEach Tryd.prog ts ds := DataW.weights_mem_each hj hd _ (by
    rw [hdd, DataW.weights, Tryd.underlying39]
    refine DataW.weights_mem_each (j := 0) (t := 9) (d := y0.1) rfl rfl _ ?_
    rw [k0, DataW.weights]
    exact List.mem_singleton.2 rfl)
  have w1 : x.data.toList.length ∈ DataW.weightsEach Tryd.prog ts ds := DataW.weights_mem_each hj hd _ (by
    rw [hdd, DataW.weights, Tryd.underlying39]
    refine DataW.weights_mem_each (j := 1) (t := 9) (d := y1.1) rfl rfl _ ?_
    rw [k1, DataW.weights]
    exact List.mem_singleton.2 rfl)
  have z0 := List.all_eq_true.1 hz _ w0
  have z1 := List.all_eq_true.1 hz _ w1
  rw [reach_eq] at z0 z1
  exact ⟨⟨p.data.toList, x.data.toList⟩, rfl, by simpa using z0, by simpa using z1⟩
end
theorem own : ownKnob Tryd.prog.godebug = none := by kernel_rfl
theorem laidOut : laidOutB Tryd.prog = true := by kernel_rfl
theorem cells8 : Tryd.prog.cellsOf 5 = 1 := by kernel_rfl
theorem gTab : Tryd.prog.globalNamed "grapevine/digest.steps" = some 1 := by kernel_rfl
theorem gTabType : (Tryd.prog.globals[1]?).map (·.type) = some 77 := by kernel_rfl
theorem gTabR : Tryd.prog.globalNamed "grapevine/grapevineref01.keys" = some 0 := by kernel_rfl
theorem gTabTypeR : (Tryd.prog.globals[0]?).map (·.type) = some 77 := by kernel_rfl
theorem cells64 : Tryd.prog.cellsOf 77 = 64 := by kernel_rfl
theorem cells32 : Tryd.prog.cellsOf 72 = 1 := by kernel_rfl
def keysI : List Int := [1116352408, 1899447441, 3049323471, 3921009573, 961987163, 1508970993, 2453635748, 2870763221, 3624381080, 310598401, 607225278, 1426881987, 1925078388, 2162078206, 2614888103, 3248222580, 3835390401, 4022224774, 264347078, 604807628, 770255983, 1249150122, 1555081692, 1996064986, 2554220882, 2821834349, 2952996808, 3210313671, 3336571891, 3584528711, 113926993, 338241895, 666307205, 773529912, 1294757372, 1396182291, 1695183700, 1986661051, 2177026350, 2456956037, 2730485921, 2820302411, 3259730800, 3345764771, 3516065817, 3600352804, 4094571909, 275423344, 430227734, 506948616, 659060556, 883997877, 958139571, 1322822218, 1537002063, 1747873779, 1955562222, 2024104815, 2227730452, 2361852424, 2428436474, 2756734187, 3204031479, 3329325298]
theorem keysI_get : ∀ i, i < 64 → keysI.getD i 0 = ((Sha.keys.getD i 0 : Nat) : Int) := by decide +kernel
theorem tab_of {W : World} (h : Lib.TabIs Tryd.prog W "grapevine/digest.steps" .u32 keysI) : Dg.Tab W := by
  intro i hi
  rw [h.cell gTab i (by simpa [keysI] using hi), keysI_get i hi]
theorem tabR_of {W : World} (h : Lib.TabIs Tryd.prog W "grapevine/grapevineref01.keys" .u32 keysI) : Dg.TabR W := by
  intro i hi
  rw [h.cell gTabR i (by simpa [keysI] using hi), keysI_get i hi]
theorem most_of {W : World} (h : W.ShapedOpen Tryd.prog) : Most W :=
  cell_of_shapedOpen_int (zero := #[.int .i64 0]) (t := 3) h (of_decide_eq_true (by kernel_rfl)) (by kernel_rfl) rfl (by kernel_rfl) (by kernel_rfl) Tryd.underlying3
abbrev laid4 : List (String × DataW Unit) := [("grapevine/grapevineref01.keys", Rows.laid_grapevine_grapevineref01_keys), ("unicode/utf8.acceptRanges", Rows.laid_unicode_utf8_acceptRanges), ("grapevine/digest.steps", Rows.laid_grapevine_digest_steps), ("unicode/utf8.first", Rows.laid_unicode_utf8_first)]
theorem env_of {W : World} (h : laidMetH Tryd.prog laid4 W) (hsh : W.ShapedOpen Tryd.prog) : Env W := by
  have h1 : laidMet Tryd.prog [("grapevine/digest.steps", Rows.laid_grapevine_digest_steps)] W := h.filter fun x => x.1 == "grapevine/digest.steps"
  have h2 : laidMet Tryd.prog [("grapevine/grapevineref01.keys", Rows.laid_grapevine_grapevineref01_keys)] W := h.filter fun x => x.1 == "grapevine/grapevineref01.keys"
  exact ⟨most_of hsh, tab_of (Lib.tabIs_of_head (rest := []) gTab gTabType Tryd.underlying77 Tryd.underlying72 cells32 cells64 h1), tabR_of (Lib.tabIs_of_head (rest := []) gTabR gTabTypeR Tryd.underlying77 Tryd.underlying72 cells32 cells64 h2)⟩
end Go.Proofs.YtlplgkdoiinfhaaDoor.Tr
