/-
  What the method Sum, and digest.Of, come to: the document's digest.
-/
import Derived.Test.YtcmjdepjckhpdabDoorDgD
import Derived.Lib.Bytealg
namespace Go.Proofs.YtcmjdepjckhpdabDoor.Dg
open Go Go.RowKit Kt Sha

theorem sizeHash : (Tryd.prog.info? 93).map (·.size) = some 73 := by kernel_rfl
theorem make32 (w : World) : (Instr.makeSlice 38 (.int .i64 0) (.int .i64 32)).run Tryd.prog w = .ok (.slice (some ⟨w.heap.size, 0, none⟩) 0 32) (w.alloc (.cells (u8s (List.replicate 32 0)).toArray 5)) := by kernel_rfl
theorem index8 (s : St) (i : Nat) (h : i < 8) (w : World) : (Instr.index 90 (.agg (u32s s.list).toArray) (.int .i64 (i : Int))).run Tryd.prog w = .ok (.int .u32 (s.list.getD i 0 : Nat)) w := by
  rcases i with _ | _ | _ | _ | _ | _ | _ | _ | i
  all_goals first
    | omega
    | kernel_rfl
theorem bytes_take (s : St) (i : Nat) (h : i < 8) : (s.list.take (i + 1)).flatMap four = (s.list.take i).flatMap four ++ four (s.list.getD i 0) := by
  have hl : i < s.list.length := by simp [St.list]; exact h
  rw [List.take_succ_eq_append_getElem hl, List.flatMap_append, List.flatMap_cons, List.flatMap_nil, List.append_nil]
  simp [List.getElem?_eq_getElem hl]
theorem take_len (s : St) (i : Nat) (h : i ≤ 8) : ((s.list.take i).flatMap four).length = 4 * i := by
  induction i with
  | zero => rfl
  | succ i ih => rw [bytes_take s i (by omega), List.length_append, ih (by omega)]; simp [four]; omega
theorem hash_sums {w3 : World} {g : Nat} {T : List UInt8} {cs : Array Value} {E : TypeId} (h : HashAt w3 g T) : (w3.alloc (.cells cs E)).rangeAt g 0 (u32s (state T).list) := by
  obtain ⟨last, h⟩ := h
  exact range_sums (h.row.alloc _)
theorem four_cells (x : Nat) (h : x < 4294967296) : (#[Value.int .u8 ((x : Int) / 16777216), Value.int .u8 ((x : Int) / 65536 % 256), Value.int .u8 ((x : Int) / 256 % 256), Value.int .u8 ((x : Int) % 256)] : Array Value) = (u8s (four x)).toArray := by
  rw [show (x : Int) / 16777216 = (x : Int) / 16777216 % 256 from by omega]
  simp only [u8s, four, List.map_cons, List.map_nil, UInt8.toNat_ofNat']
  simp
theorem pad_len (n : Nat) : (pad n).length ≤ 72 := by simp [pad, bits8]; have := zeros_le n; omega

set_option maxHeartbeats 1000000 in
set_option maxRecDepth 100000 in
theorem sum_any (t : List UInt8) (g : Nat) (w : World) (hh : HashAt w g t) (ht : Tab w) (_ : g ≠ 1) (hn : t.length < 4294967000) :
    Calls Tryd.prog 35 #[.pointer (some ⟨g, 0, none⟩)] w fun e w' => e = .returned (.string ⟨(sha t).toArray⟩) ∧ Below w.heap.size w w' := by
  obtain ⟨last, hh⟩ := hh
  have Hh := hide hh
  have Ht := hide ht
  have hlt := hh.row.lt
  have c72 : w.cell? ⟨g, 72, none⟩ = some (.int .u64 (t.length : Nat)) := by rw [hh.row.cell, hash_many _ _ hh.len]
  clear hh ht
  have hmk := make32
  have hz := zero53
  have hc73 := hide (hash_len t last Hh.out.len)
  have hsz := hide (sizeHash.trans (congrArg some hc73.out.symm))
  have hlt2 := pad_len t.length
  go_enter Tryd.func35, Tryd.ntmps35
  go_wp2_with (first
    | (refine wpList_load_row rfl 93 (.tmp 8) rfl g rfl 93 (hashCells t last).toArray (0, 0) _ Hh.out.row Tryd.underlying93 rfl (hsz.out.trans (by simp)) ?_)
    | (refine wpList_store_whole rfl 93 (.tmp 3) (.tmp 9) rfl w.heap.size (hashCells t last) rfl rfl 93 _ (Row.new w _ rfl rfl) hsz.out (by rw [hc73.out]; rfl) (hash_one t last) w.heap.size w ((Below.refl _ _).alloc (Nat.le_refl _) _) (Nat.le_refl _) ?_
       intro w1 hr1 hb1 hs1
       have d72 : w1.cell? ⟨g, 72, none⟩ = some (.int .u64 (t.length : Nat)) := (hb1.cell (p := ⟨g, 72, none⟩) hlt).trans c72
       have Hr1 := hide hr1
       have Hb1 := hide hb1
       have Hs1 := hide hs1
       clear hr1 hb1 hs1)
    | (go_at_call 43; refine (filling_any _ _ (by omega)).mono ?_; rintro e w2 ⟨v2, rfl, hown2, hb2⟩
       obtain ⟨A2, c2, rfl, hsl2⟩ := hown2.sl
       have Hb2 := hide hb2
       have Hsl2 := hide hsl2
       clear hb2 hown2 hsl2))
  have hbw2 := Hb1.out.trans (Hb2.out.mono (by have := Hs1.out; simp at this; omega))
  have hne : ∀ b, w1.heap.size ≤ b → b ≠ w.heap.size := by have := Hs1.out; simp at this; intro b hb; omega
  refine (write_any t (pad t.length) w.heap.size A2 c2 _ ⟨last, (Hr1.out.below Hb2.out Hr1.out.lt), Hh.out.len, Hh.out.tail⟩ (Hsl2.out.imp fun b _ hp => hne b hp.1) (Ht.out.below hbw2) (by have := Ht.out.lt; omega) (by omega)).mono ?_
  rintro e w3 ⟨rfl, hh3, hg3⟩
  have Hh3 := hide hh3
  have Hb3 := hide (hbw2.grown hg3 hbw2.size (fun k hk => by injection hk with hk; omega))
  clear hh3 hg3 hbw2 hne
  go_wp2_with (refine wpList_load_mid rfl 90 (.tmp 17) rfl w.heap.size 0 rfl (u32s (state (t ++ pad t.length)).list) _ (hash_sums Hh3.out) Tryd.underlying90 rfl (size8.trans rfl) ?_)
  obtain ⟨st, hst⟩ : ∃ st, st = state (t ++ pad t.length) := ⟨_, rfl⟩
  rw [← hst]
  have hso : st.ok := by rw [hst]; exact blocks_ok _ _
  have Hst := hide hst
  clear hst hz hmk
  go_loopw [4, 19] (fun v i wr => ∃ k : Nat, k ≤ 8 ∧ i = .int .i64 k ∧ Own wr w.heap.size 5 v ((st.list.take k).flatMap four) ∧ Below w.heap.size w wr) (fun _ i _ => 8 - (intOf i).toNat)
  case atStart => exact ⟨0, by omega, rfl, Own.made _ _ _ _ 32 Hb3.out.size (by simp [u8s]) (by simp [maxLen]), Hb3.out.alloc Hb3.out.size _⟩
  case round =>
    obtain ⟨k, hk, rfl, hown, hb⟩ := hrel
    have Hown := hide hown
    have Hb := hide hb
    clear hown hb
    by_cases hlt : k < 8
    · have hix := fun W => index8 st k hlt W
      have hx : st.list.getD k 0 < 4294967296 := getD_lt (fun x hx => by
        simp only [St.list, List.mem_cons, List.not_mem_nil, or_false] at hx
        obtain ⟨h1, h2, h3, h4, h5, h6, h7, h8⟩ := hso
        rcases hx with rfl | rfl | rfl | rfl | rfl | rfl | rfl | rfl <;> assumption) k
      have Hlen := hide (take_len st k (by omega))
      have Hbt := hide (bytes_take st k hlt)
      generalize hxx : st.list.getD k 0 = x at *
      have Hxx := hide hxx
      clear hxx
      have Hcs := hide (four_cells x hx)
      go_wp2_with (refine wpList_push rfl (.tmp 22) (.tmp 34) 38 rfl Tryd.underlying38 info8 w.heap.size w _ ((st.list.take k).flatMap four) (four x) 4 4 rfl rfl Hown.out Hcs.out rfl (by rw [Hlen.out]; simp [four]; omega) Hb.out Hb.out.size ?_; intro v1 w1 hown1 hb1 _)
      go_roundw
      case rel =>
        rw [← Hbt.out] at hown1
        exact ⟨k + 1, by omega, by go_num, hown1, hb1⟩
      case measure => simp [intOf]; omega
    · obtain rfl : k = 8 := by omega
      have hcv := Hown.out.text 38 35 5 Tryd.underlying38 Tryd.underlying5 Tryd.underlying35
      go_wp2
      go_ret
      refine ⟨?_, Hb.out⟩
      unfold sha
      rw [← Hst.out]
      rfl
end Go.Proofs.YtcmjdepjckhpdabDoor.Dg
namespace Go.Proofs.YtcmjdepjckhpdabDoor.Dg
open Go Go.RowKit Kt Sha

theorem of_any (bs : List UInt8) (A : Option Addr) (c : Nat) (Pb : Nat → Prop) (w : World) (hs : Sl w Pb A c bs) (ht : Tab w) (hn : bs.length < 4294967000) :
    Calls Tryd.prog 21 #[.slice A bs.length c] w fun e w' => e = .returned (.string ⟨(sha bs).toArray⟩) ∧ Below w.heap.size w w' := by
  have Hs := hide hs
  have Ht := hide ht
  have htl := ht.lt
  clear hs ht
  go_enter Tryd.func21, Tryd.ntmps21
  go_wp2_with (go_at_call 33; refine (new_any _).mono ?_; rintro e w1 ⟨rfl, hh1, hb1⟩; have Hh1 := hide hh1; have Hb1 := hide hb1; clear hh1 hb1)
  have hsl : Sl w1 (fun b => b ≠ w.heap.size) A c bs := ((Hs.out.bound).move fun b hb _ => Hb1.out.block b hb.2).imp fun b _ hb => by omega
  refine (write_any [] bs w.heap.size A c _ Hh1.out hsl (Ht.out.below Hb1.out) (by omega) (by simp; omega)).mono ?_
  rintro e w2 ⟨rfl, hh2, hg2⟩
  have Hh2 := hide hh2
  have Hb2 := hide (Hb1.out.grown hg2 Hb1.out.size (fun k hk => by injection hk with hk; omega))
  clear hh2 hg2 hsl
  go_wp2_with fail
  refine (sum_any bs w.heap.size _ Hh2.out (Ht.out.below Hb2.out) (by omega) hn).mono ?_
  rintro e w3 ⟨rfl, hb3⟩
  have Hb3 := hide (Hb2.out.trans (hb3.mono Hb2.out.size))
  clear hb3
  go_wp2
  go_ret
  exact ⟨rfl, Hb3.out⟩
end Go.Proofs.YtcmjdepjckhpdabDoor.Dg
namespace Go.Proofs.YtcmjdepjckhpdabDoor.Dg
open Go Go.RowKit Kt Sha

def hexd (n : Nat) : UInt8 := if n < 10 then UInt8.ofNat (48 + n) else UInt8.ofNat (87 + n)
def hexs (l : List UInt8) : List UInt8 := l.flatMap fun b => [hexd (b.toNat / 16), hexd (b.toNat % 16)]
def hexOf (l : List UInt8) : List UInt8 := if l.length = 32 then hexs l else []
theorem hexs_take (l : List UInt8) (i : Nat) (h : i < l.length) : hexs (l.take (i + 1)) = hexs (l.take i) ++ [hexd ((l.getD i 0).toNat / 16), hexd ((l.getD i 0).toNat % 16)] := by
  unfold hexs
  rw [List.take_succ_eq_append_getElem h, List.flatMap_append, List.flatMap_cons, List.flatMap_nil, List.append_nil]
  simp [List.getElem?_eq_getElem h]
theorem hexs_len (l : List UInt8) : (hexs l).length = 2 * l.length := by
  induction l with
  | nil => rfl
  | cons b r ih =>
    have e : hexs (b :: r) = [hexd (b.toNat / 16), hexd (b.toNat % 16)] ++ hexs r := rfl
    rw [e, List.length_append, ih]
    simp; omega

def digits : ByteArray := ⟨#[48, 49, 50, 51, 52, 53, 54, 55, 56, 57, 97, 98, 99, 100, 101, 102]⟩
theorem digit_at (n : Nat) (h : n < 16) (w : World) : (Instr.index 9 (.string ⟨#[48, 49, 50, 51, 52, 53, 54, 55, 56, 57, 97, 98, 99, 100, 101, 102]⟩) (.int .u8 (n : Int))).run Tryd.prog w = .ok (.int .u8 ((hexd n).toNat : Int)) w := by
  rcases n with _ | _ | _ | _ | _ | _ | _ | _ | _ | _ | _ | _ | _ | _ | _ | _ | n
  all_goals first
    | omega
    | kernel_rfl
theorem make64 (w : World) : (Instr.makeSlice 38 (.int .i64 0) (.int .i64 64)).run Tryd.prog w = .ok (.slice (some ⟨w.heap.size, 0, none⟩) 0 64) (w.alloc (.cells (u8s (List.replicate 64 0)).toArray 5)) := by kernel_rfl

end Go.Proofs.YtcmjdepjckhpdabDoor.Dg
namespace Go.Proofs.YtcmjdepjckhpdabDoor.Dg
open Go Go.RowKit Kt Sha

def digitList : List UInt8 := [48, 49, 50, 51, 52, 53, 54, 55, 56, 57, 97, 98, 99, 100, 101, 102]
/-- what a digit is worth; -1: it is none -/
def hexv (c : UInt8) : Int := Lib.indexByte digitList c
def parseN (l : List UInt8) : Nat → Option (List UInt8)
  | 0 => some []
  | k + 1 => match parseN l k with
    | none => none
    | some r => if hexv (l.getD (2 * k) 0) < 0 ∨ hexv (l.getD (2 * k + 1) 0) < 0 then none else some (r ++ [UInt8.ofNat (hexv (l.getD (2 * k) 0) * 16 + hexv (l.getD (2 * k + 1) 0)).toNat])
def parseOf (l : List UInt8) : Option (List UInt8) := if l.length = 64 then parseN l 32 else none
def parsed (o : Option (List UInt8)) : Value := .tuple #[.string ⟨(o.getD []).toArray⟩, .bool o.isSome]
theorem parseN_len (l : List UInt8) : ∀ k r, parseN l k = some r → r.length = k
  | 0, r, h => by cases h; rfl
  | k + 1, r, h => by
    simp only [parseN] at h
    cases hk : parseN l k with
    | none => rw [hk] at h; cases h
    | some r' =>
      rw [hk] at h
      simp only at h
      split at h
      · cases h
      · cases h; simp [parseN_len l k r' hk]
theorem parseN_none (l : List UInt8) (k m : Nat) (h : parseN l k = none) (hkm : k ≤ m) : parseN l m = none := by
  induction m with
  | zero => obtain rfl : k = 0 := by omega
            exact h
  | succ m ih =>
    by_cases e : k = m + 1
    · subst e; exact h
    · simp only [parseN, ih (by omega)]
theorem hexv_le : ∀ c : UInt8, -1 ≤ hexv c ∧ hexv c ≤ 15 := by
  have h : ∀ n, n < 256 → -1 ≤ hexv (UInt8.ofNat n) ∧ hexv (UInt8.ofNat n) ≤ 15 := by decide +kernel
  intro c
  have := h c.toNat (toNat_lt c)
  rwa [UInt8.ofNat_toNat] at this
theorem or4 : ∀ a : Nat, a < 16 → ∀ b : Nat, b < 16 → bits BinOp.or .i64 ((a : Int) * 16) (b : Int) = (a : Int) * 16 + (b : Int) := by decide +kernel
theorem or4i (a b : Int) (ha : 0 ≤ a) (ha' : a ≤ 15) (hb : 0 ≤ b) (hb' : b ≤ 15) : bits BinOp.or .i64 (a * 16) b = a * 16 + b := by
  obtain ⟨m, rfl⟩ := Int.eq_ofNat_of_zero_le ha
  obtain ⟨n, rfl⟩ := Int.eq_ofNat_of_zero_le hb
  exact or4 m (by omega) n (by omega)

end Go.Proofs.YtcmjdepjckhpdabDoor.Dg
