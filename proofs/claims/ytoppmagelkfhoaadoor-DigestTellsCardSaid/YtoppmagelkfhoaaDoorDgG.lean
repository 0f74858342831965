/-
  What digest.Hex comes to.
-/
import Derived.Test.YtoppmagelkfhoaaDoorDgF
namespace Go.Proofs.YtoppmagelkfhoaaDoor.Dg
open Go Go.RowKit Kt Sha

def hexd (n : Nat) : UInt8 := if n < 10 then UInt8.ofNat (48 + n) else UInt8.ofNat (87 + n)
def hexs (l : List UInt8) : List UInt8 := l.flatMap fun b => [hexd (b.toNat / 16), hexd (b.toNat % 16)]
def hexOf (l : List UInt8) : List UInt8 := if l.length = 32 then hexs l else []
theorem hexs_take (l : List UInt8) (i : Nat) (h : i < l.length) : hexs (l.take (i + 1)) = hexs (l.take i) ++ [hexd ((l.getD i 0).toNat / 16), hexd ((l.getD i 0).toNat % 16)] := by
  unfold hexs
  rw [List.take_succ_eq_append_getElem h, List.flatMap_append, List.flatMap_cons, List.flatMap_nil, List.append_nil]
  simp [List.getElem?_eq_getElem h]
theorem hexs_len (l : List UInt8) : (hexs l).length = 2 * l.length := by
  induction l with
  | nil => rfl
  | cons b r ih =>
    have e : hexs (b :: r) = [hexd (b.toNat / 16), hexd (b.toNat % 16)] ++ hexs r := rfl
    rw [e, List.length_append, ih]
    simp; omega

def digits : ByteArray := ⟨#[48, 49, 50, 51, 52, 53, 54, 55, 56, 57, 97, 98, 99, 100, 101, 102]⟩
theorem digit_at (n : Nat) (h : n < 16) (w : World) : (Instr.index 9 (.string ⟨#[48, 49, 50, 51, 52, 53, 54, 55, 56, 57, 97, 98, 99, 100, 101, 102]⟩) (.int .u8 (n : Int))).run Tryd.prog w = .ok (.int .u8 ((hexd n).toNat : Int)) w := by
  rcases n with _ | _ | _ | _ | _ | _ | _ | _ | _ | _ | _ | _ | _ | _ | _ | _ | n
  all_goals first
    | omega
    | kernel_rfl
theorem make64 (w : World) : (Instr.makeSlice 22 (.int .i64 0) (.int .i64 64)).run Tryd.prog w = .ok (.slice (some ⟨w.heap.size, 0, none⟩) 0 64) (w.alloc (.cells (u8s (List.replicate 64 0)).toArray 5)) := by kernel_rfl

theorem hex_no (l : List UInt8) (w : World) (h : l.length ≠ 32) :
    Calls Tryd.prog 7 #[.string ⟨l.toArray⟩] w fun e w' => e = .returned (.string ⟨(hexOf l).toArray⟩) ∧ w = w' := by
  have hv : hexOf l = [] := if_neg h
  have Hv := hide hv
  clear hv
  have hl : ((l.length : Int) != 32) = true := by rw [bne_iff_ne]; omega
  go_enter Tryd.func7, Tryd.ntmps7
  go_wp2
  go_ret
  rw [Hv.out]
  exact ⟨rfl, rfl⟩

set_option maxHeartbeats 1000000 in
set_option maxRecDepth 100000 in
theorem hex_yes (l : List UInt8) (w : World) (h : l.length = 32) :
    Calls Tryd.prog 7 #[.string ⟨l.toArray⟩] w fun e w' => e = .returned (.string ⟨(hexOf l).toArray⟩) ∧ Below w.heap.size w w' := by
  have hv : hexOf l = hexs l := if_pos h
  have Hv := hide hv
  clear hv
  have hl : ((l.length : Int) != 32) = false := by rw [bne_eq_false_iff_eq]; omega
  have H := hide h
  clear h
  have hmk := make64
  go_enter Tryd.func7, Tryd.ntmps7
  go_wp2
  clear hmk
  go_loopw [3, 9] (fun v i wr => ∃ k : Nat, k ≤ 32 ∧ i = .int .i64 k ∧ Own wr w.heap.size 5 v (hexs (l.take k)) ∧ Below w.heap.size w wr) (fun _ i _ => 32 - (intOf i).toNat)
  case atStart => exact ⟨0, by omega, rfl, Own.made _ _ _ _ 64 (Nat.le_refl _) (by simp [u8s]) (by simp [maxLen]), (Below.refl _ _).alloc (Nat.le_refl _) _⟩
  case round =>
    obtain ⟨k, hk, rfl, hown, hb⟩ := hrel
    have Hown := hide hown
    have Hb := hide hb
    clear hown hb
    by_cases hlt : k < 32
    · have hkl : k < l.length := by have := H.out; omega
      have Hnext := hide (hexs_take l k hkl)
      have Hlen := hide (hexs_len (l.take k))
      obtain ⟨b, hb⟩ : ∃ b, ({ data := l.toArray } : ByteArray)[k]'(by simpa [ByteArray.size] using hkl) = b := ⟨_, rfl⟩
      have hbl : l.getD k 0 = b := by
        rw [← hb]
        simp [List.getElem?_eq_getElem hkl]
        rfl
      rw [hbl] at Hnext
      have hb8 := toNat_lt b
      have hd1 := fun W => digit_at (b.toNat / 16) (by omega) W
      have hd2 := fun W => digit_at (b.toNat % 16) (by omega) W
      have hand : bits BinOp.and .u8 (b.toNat : Int) 15 = ((b.toNat % 16 : Nat) : Int) := by
        rw [show (15 : Int) = ((15 : Nat) : Int) from rfl, u8_and_nat _ _ hb8 (by omega), nat_mask4]
      have hshr : (b.toNat : Int) / 16 = ((b.toNat / 16 : Nat) : Int) := by omega
      generalize b.toNat / 16 = n1 at *
      generalize b.toNat % 16 = n2 at *
      clear hbl
      go_wp2
      refine Rg.wp_region_txt (fun _ => True) [true, true, true, true, true, true, true, true, true, true, true, false, false, true] (by kernel_rfl) (by kernel_rfl) ?_
      simp only [List.zip_cons_cons, List.zip_nil_right]
      iterate 11 (refine Rg.txt_quiet (v := ?_) rfl (fun w' _ => ?_) trivial ?_; rotate_left; (go_simp; with_reducible rfl))
      refine Rg.txt_loud rfl (fun K hK => ?_)
      go_simp
      refine hK _ _ (fun _ => trivial) ?_
      clear hK K
      refine Rg.txt_push wr.drew rfl rfl (.tmp 12) (.tmp 23) 22 rfl Tryd.underlying22 info8 w.heap.size w _ (hexs (l.take k)) [hexd n1, hexd n2] 2 2 (by simp [Act.eval]) (by simp [Act.eval]) Hown.out.drew rfl rfl (by rw [Hlen.out]; simp; omega) Hb.out.drew Hb.out.size ?_
      intro v1 w1 hown1 hb1 _
      refine ⟨fun _ => trivial, ?_⟩
      refine Rg.txt_quiet (v := ?_) rfl (fun w' _ => ?_) trivial ?_
      rotate_left
      · go_simp
        with_reducible rfl
      refine Rg.txt_nil ?_
      simp only [Act.put, List.setIfInBounds_toArray, List.set_cons_succ, List.set_cons_zero]
      go_wp2
      go_roundw
      case rel =>
        rw [← Hnext.out] at hown1
        exact ⟨k + 1, by omega, by go_num, hown1, hb1⟩
      case measure => simp [intOf]; omega
    · obtain rfl : k = 32 := by omega
      have hcv := Hown.out.text 22 9 5 Tryd.underlying22 Tryd.underlying5 Tryd.underlying9
      go_wp2
      go_ret
      refine ⟨?_, Hb.out⟩
      rw [Hv.out]
      have e : l.take 32 = l := List.take_of_length_le (by rw [H.out]; omega)
      show Ending.returned (.string ⟨(hexs (l.take 32)).toArray⟩) = _
      rw [e]
end Go.Proofs.YtoppmagelkfhoaaDoor.Dg
