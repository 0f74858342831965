/-
  What the reference's Turn and filled come to.
-/
import Derived.Test.YtlplgkdoiinfhaaDoorQ13
import Derived.Test.YtlplgkdoiinfhaaDoorQ3
import Derived.Test.YtlplgkdoiinfhaaDoorQ2
namespace Go.Proofs.YtlplgkdoiinfhaaDoor.Dg
open Go Go.RowKit Kt Sha

def rsum (x n : Nat) : Nat := x / 2 ^ n + x % 2 ^ n * 2 ^ (32 - n)
theorem rsum_rotr (x n : Nat) (h : x < 4294967296) (hn : n ≤ 32) : rotr x n = rsum x n := by
  unfold rotr rsum
  have hp : 2 ^ n * 2 ^ (32 - n) = 4294967296 := by rw [← Nat.pow_add, show n + (32 - n) = 32 from by omega]
  have e : x * 2 ^ (32 - n) % 4294967296 = x % 2 ^ n * 2 ^ (32 - n) := by
    rw [← hp, Nat.mul_mod_mul_right]
  have hlt : x / 2 ^ n < 2 ^ (32 - n) := by
    rw [Nat.div_lt_iff_lt_mul (Nat.pos_of_ne_zero (by simp)), Nat.mul_comm, hp]; exact h
  rw [e, Nat.or_comm, nat_join (32 - n) _ _ (Nat.mul_mod_left _ _) hlt]
  omega
theorem rsum_zero (x : Nat) : rsum x 0 = x := by simp [rsum, Nat.mod_one]
theorem rsum_succ (x n : Nat) (hn : n < 32) : rsum x n / 2 + rsum x n % 2 * 2147483648 = rsum x (n + 1) := by
  unfold rsum
  have hq : 2 ^ (32 - n) = 2 * 2 ^ (31 - n) := by rw [show 32 - n = (31 - n) + 1 from by omega, Nat.pow_succ, Nat.mul_comm]
  have hq' : 2 ^ (32 - (n + 1)) = 2 ^ (31 - n) := by rw [show 32 - (n + 1) = 31 - n from by omega]
  have hp : 2 ^ (n + 1) = 2 ^ n * 2 := Nat.pow_succ _ _
  have hpq : 2 ^ n * 2 ^ (31 - n) = 2147483648 := by rw [← Nat.pow_add, show n + (31 - n) = 31 from by omega]
  have hd : x / 2 ^ (n + 1) = x / 2 ^ n / 2 := by rw [hp, Nat.div_div_eq_div_mul]
  have hm : x % 2 ^ (n + 1) = x % 2 ^ n + 2 ^ n * (x / 2 ^ n % 2) := by rw [hp, Nat.mod_mul]
  rw [hq, hq', hd, hm]
  generalize x / 2 ^ n = a
  generalize x % 2 ^ n = b
  generalize 2 ^ (31 - n) = q at *
  generalize 2 ^ n = p at *
  have e1 : b * (2 * q) = 2 * (b * q) := by rw [Nat.mul_left_comm]
  have e2 : (b + p * (a % 2)) * q = b * q + a % 2 * 2147483648 := by
    rw [Nat.add_mul, ← hpq, Nat.mul_right_comm, Nat.mul_comm (p * q)]
  rw [e1, e2]
  omega
theorem rsum_lt {x n : Nat} (h : x < 4294967296) (hn : n ≤ 32) : rsum x n < 4294967296 := by rw [← rsum_rotr x n h hn]; exact rotr_lt h

theorem rturn_any (x : Nat) (n : Int) (w : World) (h : x < 4294967296) (n0 : 0 ≤ n) (n1 : n ≤ 32) :
    Calls Tryd.prog 49 #[.int .u32 x, .int .i64 n] w fun e w' => e = .returned (.int .u32 (rotr x n.toNat : Nat)) ∧ w = w' := by
  obtain ⟨m, rfl⟩ := Int.eq_ofNat_of_zero_le n0
  have hm : m ≤ 32 := by omega
  rw [Int.toNat_natCast, rsum_rotr x m h hm]
  go_enter Tryd.func49, Tryd.ntmps49
  go_wp2
  go_loop [0, 5] (fun y i => ∃ k : Nat, k ≤ m ∧ i = .int .i64 k ∧ Hid (y = .int .u32 (rsum x k : Nat))) (fun _ i => m - (intOf i).toNat)
  case atStart => exact ⟨0, Nat.zero_le _, rfl, by show _ = _; rw [rsum_zero]⟩
  case round =>
    obtain ⟨k, hk, rfl, hy⟩ := hrel
    have hy := hy.out
    subst hy
    by_cases hlt : k < m
    · have hs := hide (rsum_succ x k (by omega))
      have hb := rsum_lt (n := k) h (by omega)
      generalize rsum x k = y at *
      go_wp2
      go_round
      case rel => exact ⟨k + 1, by omega, by go_num, by show _ = _; rw [← hs.out]; exact u32_eq (by omega)⟩
      case measure => simp [intOf]; omega
    · obtain rfl : k = m := by omega
      go_wp2
      go_ret
      exact ⟨rfl, rfl⟩

theorem fhead_len (bs : List UInt8) (k : Nat) : (bs ++ head k).length = bs.length + 1 + k := by rw [List.length_append, head_len]; omega
theorem fill_test (n k : Nat) (h : k < zeros n) : (n + 1 + k) % 64 ≠ 56 := by unfold zeros at h; omega
theorem fill_end (n : Nat) : (n + 1 + zeros n) % 64 = 56 := by unfold zeros; omega

set_option maxHeartbeats 1000000 in
set_option maxRecDepth 100000 in
theorem rfilled_any (bs : List UInt8) (A : Option Addr) (c : Nat) (Pb : Nat → Prop) (w : World) (hs : Sl w Pb A c bs) (hn : bs.length ≤ 4000) :
    Calls Tryd.prog 47 #[.slice A bs.length c] w fun e w' => ∃ v, e = .returned v ∧ Own w' w.heap.size 5 v (bs ++ pad bs.length) ∧ Below w.heap.size w w' := by
  have Hs1 := hide ((hs.bound).move (w' := w.alloc (.cells #[] 5)) (fun b hp hb => Below.heap_alloc w _ b hb))
  clear hs
  have Hmade := hide (Own.made w w.heap.size 5 #[] 0 (Nat.le_refl _) rfl (Nat.zero_le _))
  have Hb0 := hide ((Below.refl w.heap.size w).alloc (Nat.le_refl _) (.cells #[] 5))
  go_enter Tryd.func47, Tryd.ntmps47
  go_wp2_with (first
    | (refine wpList_cat rfl (.tmp 7) (.tmp 8) 25 rfl Tryd.underlying25 info8 w.heap.size w _ [] bs _ A c rfl rfl Hmade.out Hs1.out (by simp; omega) Hb0.out (by simp) ?_
       intro v1 w1 hown1 hb1 _
       rw [List.nil_append] at hown1
       have Hown1 := hide hown1
       have Hb1 := hide hb1
       clear hown1 hb1)
    | (refine wpList_push rfl (.tmp 10) (.tmp 11) 25 rfl Tryd.underlying25 info8 w.heap.size w v1 bs [128] 1 1 rfl rfl Hown1.out rfl rfl (by simp; omega) Hb1.out Hb1.out.size ?_
       intro v2 w2 hown2 hb2 _
       have Hown2 := hide hown2
       have Hb2 := hide hb2
       clear hown2 hb2))
  go_loopw [3] (fun v wr => ∃ k g c : Nat, k ≤ zeros bs.length ∧ v = .slice (some ⟨g, 0, none⟩) (bs.length + 1 + k) c ∧ Own wr w.heap.size 5 v (bs ++ head k) ∧ Below w.heap.size w wr) (fun v _ => bs.length + 65 - lenOf v)
  case atStart =>
    obtain ⟨g, cap, rfl, _, _⟩ := Hown2.out.form (by simp)
    exact ⟨0, g, cap, by omega, by simp, Hown2.out, Hb2.out⟩
  case round =>
    obtain ⟨k, g, c, hk, rfl, hown, hb⟩ := hrel
    have hz := zeros_le bs.length
    have Hown := hide hown
    have Hb := hide hb
    clear hown hb
    by_cases hlt : k < zeros bs.length
    · have ht := fill_test bs.length k hlt
      have htb : (((bs.length : Int) + 1 + (k : Int)) % 64 != 56) = true := by rw [bne_iff_ne]; omega
      have Hl := hide (fhead_len bs k)
      go_wp2_with (refine wpList_push rfl (.tmp 17) (.tmp 18) 25 rfl Tryd.underlying25 info8 w.heap.size w (.slice (some ⟨g, 0, none⟩) (bs.length + 1 + k) c) (bs ++ head k) [0] 1 1 rfl rfl Hown.out rfl rfl (by rw [Hl.out]; simp; omega) Hb.out Hb.out.size ?_; intro v1 w1 hown1 hb1 _)
      go_roundw
      case rel =>
        rw [List.append_assoc, ← head_succ] at hown1
        obtain ⟨g1, c1, rfl, _, _⟩ := hown1.form (by rw [fhead_len]; omega)
        exact ⟨k + 1, g1, c1, by omega, by rw [fhead_len], hown1, hb1⟩
      case measure =>
        rw [List.append_assoc, ← head_succ] at hown1
        obtain ⟨g1, c1, rfl, _, _⟩ := hown1.form (by rw [fhead_len]; omega)
        simp [lenOf, head_len]; omega
    · obtain rfl : k = zeros bs.length := by omega
      have ht := fill_end bs.length
      have htb : (((bs.length : Int) + 1 + (zeros bs.length : Int)) % 64 != 56) = false := by rw [bne_eq_false_iff_eq]; omega
      clear ht
      go_wp2
      go_loopw [3, 5, 6] (fun v p i wr => ∃ j g c pj : Nat, j ≤ 8 ∧ i = .int .i64 j ∧ Hid (pj = 72057594037927936 / 256 ^ j) ∧ p = .int .u64 pj ∧ v = .slice (some ⟨g, 0, none⟩) (bs.length + 1 + zeros bs.length + j) c ∧ Own wr w.heap.size 5 v (bs ++ head (zeros bs.length) ++ bits8 bs.length j) ∧ Below w.heap.size w wr) (fun _ _ i _ => 8 - (intOf i).toNat)
      case atStart => exact ⟨0, g, c, 72057594037927936, by omega, rfl, rfl, rfl, rfl, by simpa [bits8] using Hown.out, Hb.out⟩
      case round =>
        obtain ⟨j, g, c, pj, hj, rfl, Hp, rfl, rfl, hown, hb⟩ := hrel
        have Hown := hide hown
        have Hb := hide hb
        clear hown hb
        by_cases hlt : j < 8
        · have hpj : pj = 256 ^ (7 - j) := by
            rw [Hp.out]
            rcases j with _ | _ | _ | _ | _ | _ | _ | _ | j
            all_goals first
              | rfl
              | omega
          have hp0 : 0 < pj := by rw [hpj]; exact Nat.pos_of_ne_zero (by simp)
          have hp1 : pj ≤ 72057594037927936 := by rw [Hp.out]; exact Nat.div_le_self _ _
          have Hpn : Hid (pj / 256 = 72057594037927936 / 256 ^ (j + 1)) := by
            show _ = _
            rw [Hp.out, Nat.div_div_eq_div_mul, Nat.pow_succ]
          have Hl := hide (fhead_len bs (zeros bs.length))
          have hcs : Hid ((#[Value.int .u8 ((8 * (bs.length : Int) / (pj : Int)).tmod 256 % 256)] : Array Value) = (u8s [UInt8.ofNat (bs.length * 8 / 256 ^ (7 - j))]).toArray) := by
            simp only [Hid, u8s, List.map_cons, List.map_nil, UInt8.toNat_ofNat']
            have e1 : (8 * (bs.length : Int) / (pj : Int)) = ((bs.length * 8 / pj : Nat) : Int) := by rw [Nat.mul_comm]; simp
            rw [← hpj, e1]
            generalize bs.length * 8 / pj = q
            rw [Int.tmod_eq_emod_of_nonneg (by omega)]
            congr 3
            omega
          have Hpj := hide hpj
          clear hpj
          go_wp2_with (refine wpList_push rfl (.tmp 28) (.tmp 34) 25 rfl Tryd.underlying25 info8 w.heap.size w (.slice (some ⟨g, 0, none⟩) (bs.length + 1 + zeros bs.length + j) c) (bs ++ head (zeros bs.length) ++ bits8 bs.length j) [UInt8.ofNat (bs.length * 8 / 256 ^ (7 - j))] 1 1 rfl rfl Hown.out hcs.out rfl (by rw [List.length_append, Hl.out, bits8_len]; simp; omega) Hb.out Hb.out.size ?_; intro v1 w1 hown1 hb1 _)
          go_roundw
          case rel =>
            rw [List.append_assoc, ← bits8_succ] at hown1
            obtain ⟨g1, c1, rfl, _, _⟩ := hown1.form (by simp [head_len]; omega)
            exact ⟨j + 1, g1, c1, pj / 256, by omega, by go_num, Hpn, by simp, by simp [head_len, bits8_len]; omega, hown1, hb1⟩
          case measure => simp [intOf]; omega
        · obtain rfl : j = 8 := by omega
          go_wp2
          go_ret
          refine ⟨_, rfl, ?_, Hb.out⟩
          have := Hown.out
          rw [List.append_assoc] at this
          exact this
end Go.Proofs.YtlplgkdoiinfhaaDoor.Dg
namespace Go.Proofs.YtlplgkdoiinfhaaDoor.Dg
open Go Go.RowKit Kt Sha

/-- a list of numbers of 32 bits in a row of the call's own -/
def OwnW (w : World) (B : Nat) (v : Value) (l : List Nat) : Prop := w.ownsRow B 72 1 v l.length (u32s l)
theorem OwnW.nil (w : World) (B : Nat) : OwnW w B (.slice none 0 0) [] := World.ownsRow_nil w B 72 1
theorem OwnW.form {w : World} {B : Nat} {v : Value} {l : List Nat} (h : OwnW w B v l) (hn : 0 < l.length) : ∃ g cap, v = .slice (some ⟨g, 0, none⟩) l.length cap ∧ B ≤ g ∧ g < w.heap.size := World.ownsRow.form h hn
theorem OwnW.cell {w : World} {B g c : Nat} {l : List Nat} (h : OwnW w B (.slice (some ⟨g, 0, none⟩) l.length c) l) (j : Nat) (hj : j < l.length) : w.cell? ⟨g, j, none⟩ = some (.int .u32 (l.getD j 0 : Nat)) := by
  rw [World.ownsRow.cellAt h j (by omega), u32s_get _ _ hj]
theorem OwnW.kept {w w' : World} {B : Nat} {v : Value} {l : List Nat} (h : OwnW w B v l) (hb : Below w.heap.size w w') : OwnW w' B v l := by
  refine ⟨h.1, ?_⟩
  rcases h.2 with ⟨h1, h2⟩ | ⟨g, cap, cur, hv', h1, h2, h3⟩
  · exact .inl ⟨h1, h2⟩
  · exact .inr ⟨g, cap, cur, hv', h1, (hb.block g (World.ownsRow.lt h g (by rw [hv']; rfl)).2).trans h2, h3⟩
theorem infoW : (Tryd.prog.info? 72).map (fun i => (i.zero, i.size, i.bytes)) = some (some (.int .u32 0), 1, 4) := by kernel_rfl
theorem ord_pushW {ops : Array Oper} {Q : Exit → Act → World → Prop} {S : World → Prop} {n : Nat} {o : Oper} {rest : List (Nat × Oper × Bool)} {a : Act} {w : World} {cs : Array Value} (W : World) (hW : w = W.alloc (.cells cs 72))
    (hgd : o.guard = none) (s x : Operand) (ho : o.op = .call { callee := .builtin .append, args := #[s, x], argTypes := #[73, 73] })
    (B : Nat) (w0 : World) (v : Value) (l : List Nat) (y : Nat) (c : Nat) (hs : a.eval s = v) (hx : a.eval x = .slice (some ⟨W.heap.size, 0, none⟩) 1 c)
    (hown : OwnW W B v l) (hc : cs = (u32s [y]).toArray) (hlen : l.length + 1 ≤ 7036874417766) (hb : Below B w0 W) (hbase : B ≤ W.heap.size)
    (h : ∀ v' w', OwnW w' B v' (l ++ [y]) → Below B w0 w' → (Rg.sink ops n = false → S w') ∧ Rg.wpOrd Tryd.prog ops Q S rest (a.put o.dst v') w') : Rg.wpOrd Tryd.prog ops Q S ((n, o, false) :: rest) a w := by
  subst hW hc
  obtain ⟨i0, hi0, hz0, hz1, hz2⟩ := info_parts infoW
  refine Rg.ord_loud (by simp [Region.wanted, hgd]) fun K hK => ?_
  refine wp_append_own _ s x 73 ho B 72 i0 (.int .u32 0) 1 4 Tryd.underlying73 hi0 hz0 hz1 hz2 rfl (by omega) v l.length (u32s l) hs (World.ownsRow.alloc hown _) ⟨W.heap.size, 0, none⟩ 1 c (u32s [y]) hx rfl
    (fun j u hu => ?_) (u32s_one _) (by unfold maxLen; omega) (by omega) (by simp; omega) (fun v' w' h1 h2 _ => ?_)
  · rw [Addr.add_mid, (Row.fresh W 72 (u32s [y]).toArray).cell]
    simpa using hu
  · have hg := grownBy_back _ h2
    have h3 : OwnW w' B v' (l ++ [y]) := by
      unfold OwnW
      rw [List.length_append, u32s_append]
      exact h1
    have := h v' w' h3 (hb.grown hg hbase fun k hk => (World.ownsRow.lt hown k hk).1)
    exact hK _ _ this.1 this.2

theorem ord_pushC {ops : Array Oper} {Q : Exit → Act → World → Prop} {S : World → Prop} {n : Nat} {o : Oper} {rest : List (Nat × Oper × Bool)} {a : Act} {w : World} {cs : Array Value} (W : World) (hW : w = W.alloc (.cells cs 72))
    (hgd : o.guard = none) (s x : Operand) (ho : o.op = .call { callee := .builtin .append, args := #[s, x], argTypes := #[73, 73] })
    (B : Nat) (w0 : World) (v : Value) (l : List Nat) (y : Nat) (c : Nat) (hs : a.eval s = v) (hx : a.eval x = .slice (some ⟨W.heap.size, 0, none⟩) 1 c)
    (hown : OwnW W B v l) (hc : cs = (u32s [y]).toArray) (hlen : l.length + 1 ≤ 7036874417766) (hb : Below B w0 W) (hbase : B ≤ W.heap.size)
    (h : ∀ v' w', OwnW w' B v' (l ++ [y]) → Below B w0 w' → (Rc.sink ops n = false → S w') ∧ Rc.wpOrd Tryd.prog ops Q S rest (a.put o.dst v') w') : Rc.wpOrd Tryd.prog ops Q S ((n, o, false) :: rest) a w := by
  subst hW hc
  obtain ⟨i0, hi0, hz0, hz1, hz2⟩ := info_parts infoW
  refine Rc.ord_loud (by simp [Region.wanted, hgd]) fun K hK => ?_
  refine wp_append_own _ s x 73 ho B 72 i0 (.int .u32 0) 1 4 Tryd.underlying73 hi0 hz0 hz1 hz2 rfl (by omega) v l.length (u32s l) hs (World.ownsRow.alloc hown _) ⟨W.heap.size, 0, none⟩ 1 c (u32s [y]) hx rfl
    (fun j u hu => ?_) (u32s_one _) (by unfold maxLen; omega) (by omega) (by simp; omega) (fun v' w' h1 h2 _ => ?_)
  · rw [Addr.add_mid, (Row.fresh W 72 (u32s [y]).toArray).cell]
    simpa using hu
  · have hg := grownBy_back _ h2
    have h3 : OwnW w' B v' (l ++ [y]) := by
      unfold OwnW
      rw [List.length_append, u32s_append]
      exact h1
    have := h v' w' h3 (hb.grown hg hbase fun k hk => (World.ownsRow.lt hown k hk).1)
    exact hK _ _ this.1 this.2

theorem word_sum (bs : List UInt8) (k : Nat) : word bs k = (bs.getD (4 * k) 0).toNat * 16777216 + (bs.getD (4 * k + 1) 0).toNat * 65536 + (bs.getD (4 * k + 2) 0).toNat * 256 + (bs.getD (4 * k + 3) 0).toNat := by
  unfold word
  have h0 := toNat_lt (bs.getD (4 * k) 0)
  have h1 := toNat_lt (bs.getD (4 * k + 1) 0)
  have h2 := toNat_lt (bs.getD (4 * k + 2) 0)
  have h3 := toNat_lt (bs.getD (4 * k + 3) 0)
  generalize (bs.getD (4 * k) 0).toNat = x0 at *
  generalize (bs.getD (4 * k + 1) 0).toNat = x1 at *
  generalize (bs.getD (4 * k + 2) 0).toNat = x2 at *
  generalize (bs.getD (4 * k + 3) 0).toNat = x3 at *
  have e1 : x0 * 16777216 ||| x1 * 65536 = x0 * 16777216 + x1 * 65536 := nat_join 24 _ _ (by omega) (by omega)
  have e2 : (x0 * 16777216 + x1 * 65536) ||| x2 * 256 = (x0 * 16777216 + x1 * 65536) + x2 * 256 := nat_join 16 _ _ (by omega) (by omega)
  have e3 : (x0 * 16777216 + x1 * 65536 + x2 * 256) ||| x3 = (x0 * 16777216 + x1 * 65536 + x2 * 256) + x3 := nat_join 8 _ _ (by omega) (by omega)
  rw [e1, e2, e3]

set_option maxHeartbeats 1000000 in
set_option maxRecDepth 100000 in
theorem rspread_any (bs : List UInt8) (b o c : Nat) (w : World) (hs : ∀ j, j < 64 → w.cell? ⟨b, o + j, none⟩ = some (.int .u8 ((bs.getD j 0).toNat : Int))) :
    Calls Tryd.prog 48 #[.slice (some ⟨b, o, none⟩) 64 c] w fun e w' => ∃ v, e = .returned v ∧ OwnW w' w.heap.size v (ext bs 64) ∧ Below w.heap.size w w' := by
  have Hs := hide hs
  have hbl := World.block_lt_of_cell? w ⟨b, o + 0, none⟩ (hs 0 (by omega))
  clear hs
  go_enter Tryd.func48, Tryd.ntmps48
  go_wp2
  go_loopw [3, 4] (fun v i wr => ∃ k : Nat, k ≤ 16 ∧ i = .int .i64 k ∧ OwnW wr w.heap.size v (ext bs k) ∧ Below w.heap.size w wr) (fun _ i _ => 16 - (intOf i).toNat)
  case atStart => exact ⟨0, by omega, rfl, OwnW.nil _ _, Below.refl _ _⟩
  case round =>
    obtain ⟨k, hk, rfl, hown, hb⟩ := hrel
    have Hown := hide hown
    have Hb := hide hb
    clear hown hb
    by_cases hlt : k < 16
    · have hc := fun j (hj : j < 64) => (Hb.out.cell (p := ⟨b, o + j, none⟩) hbl).trans (Hs.out j hj)
      have c0 := hc (4 * k) (by omega)
      have c1 := hc (4 * k + 1) (by omega)
      have c2 := hc (4 * k + 2) (by omega)
      have c3 := hc (4 * k + 3) (by omega)
      clear hc
      have b0 := toNat_lt (bs.getD (4 * k) 0)
      have b1 := toNat_lt (bs.getD (4 * k + 1) 0)
      have b2 := toNat_lt (bs.getD (4 * k + 2) 0)
      have b3 := toNat_lt (bs.getD (4 * k + 3) 0)
      have hw := hide (word_sum bs k)
      have Hext := hide (ext_succ bs k)
      have Hlen := hide (ext_len bs k)
      generalize (bs.getD (4 * k) 0).toNat = x0 at *
      generalize (bs.getD (4 * k + 1) 0).toNat = x1 at *
      generalize (bs.getD (4 * k + 2) 0).toNat = x2 at *
      generalize (bs.getD (4 * k + 3) 0).toNat = x3 at *
      obtain ⟨i0, hi0⟩ : ∃ i0, i0 = 4 * k := ⟨_, rfl⟩
      obtain ⟨i1, hi1⟩ : ∃ i1, i1 = 4 * k + 1 := ⟨_, rfl⟩
      obtain ⟨i2, hi2⟩ : ∃ i2, i2 = 4 * k + 2 := ⟨_, rfl⟩
      obtain ⟨i3, hi3⟩ : ∃ i3, i3 = 4 * k + 3 := ⟨_, rfl⟩
      rw [← hi0] at c0
      rw [← hi1] at c1
      rw [← hi2] at c2
      rw [← hi3] at c3
      have l0 : (i0 : Int) < 64 := by omega
      have l1 : (i1 : Int) < 64 := by omega
      have l2 : (i2 : Int) < 64 := by omega
      have l3 : (i3 : Int) < 64 := by omega
      have W0 : IntKind.i64.wrap (4 * (k : Int)) = (i0 : Int) := by rw [IntWalk.i64_in _ (by omega)]; omega
      have W1 : IntKind.i64.wrap ((i0 : Int) + 1) = (i1 : Int) := by rw [IntWalk.i64_in _ (by omega)]; omega
      have W2 : IntKind.i64.wrap ((i0 : Int) + 2) = (i2 : Int) := by rw [IntWalk.i64_in _ (by omega)]; omega
      have W3 : IntKind.i64.wrap ((i0 : Int) + 3) = (i3 : Int) := by rw [IntWalk.i64_in _ (by omega)]; omega
      clear hi0 hi1 hi2 hi3
      have U0 : IntKind.u32.wrap (x0 : Int) = (x0 : Int) := by rw [IntKind.wrap_u32']; omega
      have U1 : IntKind.u32.wrap (x1 : Int) = (x1 : Int) := by rw [IntKind.wrap_u32']; omega
      have U2 : IntKind.u32.wrap (x2 : Int) = (x2 : Int) := by rw [IntKind.wrap_u32']; omega
      have U3 : IntKind.u32.wrap (x3 : Int) = (x3 : Int) := by rw [IntKind.wrap_u32']; omega
      have V0 : IntKind.u32.wrap (16777216 * (x0 : Int)) = 16777216 * (x0 : Int) := by rw [IntKind.wrap_u32']; omega
      have V1 : IntKind.u32.wrap (65536 * (x1 : Int)) = 65536 * (x1 : Int) := by rw [IntKind.wrap_u32']; omega
      have V2 : IntKind.u32.wrap (256 * (x2 : Int)) = 256 * (x2 : Int) := by rw [IntKind.wrap_u32']; omega
      have T1 : IntKind.u32.wrap (16777216 * (x0 : Int) + 65536 * (x1 : Int)) = 16777216 * (x0 : Int) + 65536 * (x1 : Int) := by rw [IntKind.wrap_u32']; omega
      have T2 : IntKind.u32.wrap (16777216 * (x0 : Int) + 65536 * (x1 : Int) + 256 * (x2 : Int)) = 16777216 * (x0 : Int) + 65536 * (x1 : Int) + 256 * (x2 : Int) := by rw [IntKind.wrap_u32']; omega
      have T3 : IntKind.u32.wrap (16777216 * (x0 : Int) + 65536 * (x1 : Int) + 256 * (x2 : Int) + (x3 : Int)) = 16777216 * (x0 : Int) + 65536 * (x1 : Int) + 256 * (x2 : Int) + (x3 : Int) := by rw [IntKind.wrap_u32']; omega
      go_wp2
      have hSd := hide Hb.out.drew
      refine Rg.wp_region_ord (fun w' => w'.cell? ⟨b, o + i0, none⟩ = some (.int .u8 (x0 : Int)) ∧ w'.cell? ⟨b, o + i1, none⟩ = some (.int .u8 (x1 : Int)) ∧ w'.cell? ⟨b, o + i2, none⟩ = some (.int .u8 (x2 : Int)) ∧ w'.cell? ⟨b, o + i3, none⟩ = some (.int .u8 (x3 : Int)))
        [(0, true), (1, true), (2, true), (3, true), (4, true), (5, true), (6, true), (7, true), (8, true), (9, true), (10, true), (11, true), (12, true), (13, true), (14, true), (15, true), (16, true), (17, true), (18, true), (19, true), (20, true), (21, true), (22, true), (23, true), (24, true), (25, true), (26, true), (27, true), (28, true), (29, true), (30, true), (31, true), (32, true), (33, true), (34, false), (35, false), (36, true)] (by kernel_rfl) (by kernel_rfl) ?_
      simp only [Rg.pick, List.map_cons, List.map_nil, List.getD_cons_zero, List.getD_cons_succ]
      have hS0 := hide (show wr.drew.cell? ⟨b, o + i0, none⟩ = some (.int .u8 (x0 : Int)) ∧ wr.drew.cell? ⟨b, o + i1, none⟩ = some (.int .u8 (x1 : Int)) ∧ wr.drew.cell? ⟨b, o + i2, none⟩ = some (.int .u8 (x2 : Int)) ∧ wr.drew.cell? ⟨b, o + i3, none⟩ = some (.int .u8 (x3 : Int)) from ⟨c0, c1, c2, c3⟩)
      iterate 34 (refine Rg.ord_quiet (v := ?_) rfl (fun w' hS => ?_) hS0.out ?_; rotate_left; (obtain ⟨d0, d1, d2, d3⟩ := hS; go_simp; with_reducible rfl))
      refine Rg.ord_loud rfl (fun K hK => ?_)
      go_simp
      have hlk : (ext bs k).length = k := Hlen.out
      have hlw : word bs k < 4294967296 := by rw [hw.out]; omega
      have hblr : b < wr.drew.heap.size := Nat.lt_of_lt_of_le hbl Hb.out.size
      refine hK _ _ (fun _ => ⟨?_, ?_, ?_, ?_⟩) ?_
      iterate 4 (rotate_left)
      · clear hK K
        refine ord_pushW wr.drew rfl rfl (.tmp 14) (.tmp 48) rfl w.heap.size w _ (ext bs k) (word bs k) 1 rfl rfl Hown.out.drew ?_ ?_ hSd.out ?_ ?_
        · simp only [u32s, List.map_cons, List.map_nil, hw.out]
          refine congrArg (fun x : Int => #[Value.int .u32 x]) ?_
          omega
        · rw [hlk]; omega
        · exact Nat.le_trans Hb.out.size (Nat.le_refl _)
        · intro v' w1 hown1 hb1
          have hold : ∀ (i x : Nat), wr.cell? ⟨b, o + i, none⟩ = some (.int .u8 (x : Int)) → w1.cell? ⟨b, o + i, none⟩ = some (.int .u8 (x : Int)) := fun i x hx =>
            (hb1.cell (p := ⟨b, o + i, none⟩) hbl).trans ((Hb.out.cell (p := ⟨b, o + i, none⟩) hbl).symm.trans hx)
          have hS2 := hide (show w1.cell? ⟨b, o + i0, none⟩ = some (.int .u8 (x0 : Int)) ∧ w1.cell? ⟨b, o + i1, none⟩ = some (.int .u8 (x1 : Int)) ∧ w1.cell? ⟨b, o + i2, none⟩ = some (.int .u8 (x2 : Int)) ∧ w1.cell? ⟨b, o + i3, none⟩ = some (.int .u8 (x3 : Int)) from ⟨hold _ _ c0, hold _ _ c1, hold _ _ c2, hold _ _ c3⟩)
          refine ⟨fun _ => hS2.out, ?_⟩
          refine Rg.ord_quiet (v := ?_) rfl (fun w' hS => ?_) hS2.out ?_; rotate_left
          · go_simp; with_reducible rfl
          refine Rg.ord_nil ?_
          have Hown1 := hide hown1
          have Hb1 := hide hb1
          clear hown1 hb1 hold
          go_wp2
          go_roundw
          case rel =>
            refine ⟨k + 1, by omega, ?_, ?_, Hb1.out⟩
            · rw [Int.natCast_add]; rfl
            · rw [Hext.out, if_pos hlt]
              exact Hown1.out
          all_goals (simp only [intOf]; omega)
      · exact (World.cell?_alloc_lt wr _ _ hblr).trans c0
      · exact (World.cell?_alloc_lt wr _ _ hblr).trans c1
      · exact (World.cell?_alloc_lt wr _ _ hblr).trans c2
      · exact (World.cell?_alloc_lt wr _ _ hblr).trans c3
    · obtain rfl : k = 16 := by omega
      clear hk hlt
      rw [show ((16 : Nat) : Int) = 16 from rfl]
      go_wp2
      go_loopw [3, 5] (fun v i wr => ∃ k : Nat, 16 ≤ k ∧ k ≤ 64 ∧ i = .int .i64 k ∧ OwnW wr w.heap.size v (ext bs k) ∧ Below w.heap.size w wr) (fun _ i _ => 64 - (intOf i).toNat)
      case atStart => exact ⟨16, by omega, by omega, rfl, Hown.out, Hb.out⟩
      case round =>
        clear Hown Hb
        obtain ⟨k, hk0, hk, rfl, hown, hb⟩ := hrel
        have Hb := hide hb
        by_cases hlt : k < 64
        · obtain ⟨g, cap, rfl, hg1, hg2⟩ := hown.form (by rw [ext_len]; omega)
          have Hown := hide hown
          have Hownk : Hid (OwnW wr w.heap.size (.slice (some ⟨g, 0, none⟩) (k : Nat) cap) (ext bs k)) := by
            have h := hown
            rw [ext_len] at h
            exact h
          clear hown hb
          have Hlen := hide (ext_len bs k)
          have hc := fun (j : Nat) (hj : j < k) => Hown.out.cell j (by rw [Hlen.out]; exact hj)
          have Hext := hide (ext_succ bs k)
          have hnx : Hid (nextw (ext bs k) k = ((ext bs k).getD (k - 16) 0 + sg0 ((ext bs k).getD (k - 15) 0) + (ext bs k).getD (k - 7) 0 + sg1 ((ext bs k).getD (k - 2) 0)) % 4294967296) := rfl
          have c16 := hc (k - 16) (by omega)
          have c15 := hc (k - 15) (by omega)
          have c7 := hc (k - 7) (by omega)
          have c2 := hc (k - 2) (by omega)
          have b16 := ext_getD_lt bs k (k - 16)
          have b15 := ext_getD_lt bs k (k - 15)
          have b7 := ext_getD_lt bs k (k - 7)
          have b2 := ext_getD_lt bs k (k - 2)
          clear hc
          generalize (ext bs k).getD (k - 16) 0 = y16 at *
          generalize (ext bs k).getD (k - 15) 0 = y15 at *
          generalize (ext bs k).getD (k - 7) 0 = y7 at *
          generalize (ext bs k).getD (k - 2) 0 = y2 at *
          obtain ⟨i16, hi16⟩ : ∃ i, i = k - 16 := ⟨_, rfl⟩
          obtain ⟨i15, hi15⟩ : ∃ i, i = k - 15 := ⟨_, rfl⟩
          obtain ⟨i7, hi7⟩ : ∃ i, i = k - 7 := ⟨_, rfl⟩
          obtain ⟨i2, hi2⟩ : ∃ i, i = k - 2 := ⟨_, rfl⟩
          rw [← hi16] at c16
          rw [← hi15] at c15
          rw [← hi7] at c7
          rw [← hi2] at c2
          have W16 : IntKind.i64.wrap ((k : Int) - 16) = (i16 : Int) := by rw [IntWalk.i64_in _ (by omega)]; omega
          have W15 : IntKind.i64.wrap ((k : Int) - 15) = (i15 : Int) := by rw [IntWalk.i64_in _ (by omega)]; omega
          have W7 : IntKind.i64.wrap ((k : Int) - 7) = (i7 : Int) := by rw [IntWalk.i64_in _ (by omega)]; omega
          have W2 : IntKind.i64.wrap ((k : Int) - 2) = (i2 : Int) := by rw [IntWalk.i64_in _ (by omega)]; omega
          have l16 : (i16 : Int) < (k : Int) := by omega
          have l15 : (i15 : Int) < (k : Int) := by omega
          have l7 : (i7 : Int) < (k : Int) := by omega
          have l2 : (i2 : Int) < (k : Int) := by omega
          clear hi16 hi15 hi7 hi2
          rw [Hlen.out]
          go_wp2_with (go_at_call 49; refine (rturn_any _ _ _ (by assumption) (by omega) (by omega)).mono ?_; rintro e w' ⟨rfl, rfl⟩)
          rw [sg0_val b15, sg1_val b2]
          have g0 := hide (sg0_lt b15)
          have g1 := hide (sg1_lt b2)
          generalize sg0 y15 = z0 at *
          generalize sg1 y2 = z1 at *
          have hSd := hide Hb.out.drew
          refine Rc.wp_region_ord (fun w' => w'.cell? ⟨g, i16, none⟩ = some (.int .u32 (y16 : Int)) ∧ w'.cell? ⟨g, i7, none⟩ = some (.int .u32 (y7 : Int)))
            [(0, true), (1, true), (2, true), (3, true), (4, true), (5, true), (6, true), (7, true), (8, true), (9, true), (10, true), (11, true), (12, true), (13, true), (14, true), (15, true), (16, false), (17, false), (18, false)] (by kernel_rfl) (by kernel_rfl) ?_
          simp only [Rg.pick, List.map_cons, List.map_nil, List.getD_cons_zero, List.getD_cons_succ]
          have hS0 := hide (show wr.drew.cell? ⟨g, i16, none⟩ = some (.int .u32 (y16 : Int)) ∧ wr.drew.cell? ⟨g, i7, none⟩ = some (.int .u32 (y7 : Int)) from ⟨c16, c7⟩)
          iterate 16 (refine Rc.ord_quiet (v := ?_) rfl (fun w' hS => ?_) hS0.out ?_; rotate_left; (obtain ⟨d16, d7⟩ := hS; go_simp; with_reducible rfl))
          refine Rc.ord_loud rfl (fun K hK => ?_)
          go_simp
          refine hK _ _ (fun _ => ⟨(World.cell?_alloc_lt wr _ _ hg2).trans c16, (World.cell?_alloc_lt wr _ _ hg2).trans c7⟩) ?_
          clear hK K
          refine ord_pushC wr.drew rfl rfl (.tmp 80) (.tmp 96) rfl w.heap.size w _ (ext bs k) (nextw (ext bs k) k) 1 rfl rfl ?_ ?_ ?_ hSd.out ?_ ?_
          · exact Hownk.out.drew
          · simp only [u32s, List.map_cons, List.map_nil, hnx.out]
            refine congrArg (fun x : Int => #[Value.int .u32 x]) ?_
            simp only [IntKind.wrap_u32']
            omega
          · rw [Hlen.out]; omega
          · exact Nat.le_trans Hb.out.size (Nat.le_refl _)
          · intro v' w1 hown1 hb1
            refine ⟨fun hf => absurd (show Rc.sink _ 17 = true from by kernel_rfl) (by rw [hf]; decide), ?_⟩
            refine Rc.ord_loud rfl (fun K hK => ?_)
            go_simp
            refine hK _ _ (fun hf => absurd (show Rc.sink _ 18 = true from by kernel_rfl) (by rw [hf]; decide)) ?_
            clear hK K
            refine Rc.ord_nil ?_
            have Hown1 := hide hown1
            have Hb1 := hide hb1
            clear hown1 hb1
            go_wp2
            go_roundw
            case rel =>
              refine ⟨k + 1, by omega, by omega, ?_, ?_, Hb1.out⟩
              · rw [Int.natCast_add]; rfl
              · rw [Hext.out, if_neg (by omega)]
                exact Hown1.out
            all_goals (simp only [intOf]; omega)
        · obtain rfl : k = 64 := by omega
          go_wp2
          go_ret
          exact ⟨_, rfl, hown, Hb.out⟩
end Go.Proofs.YtlplgkdoiinfhaaDoor.Dg
namespace Go.Proofs.YtlplgkdoiinfhaaDoor.Dg
open Go Go.RowKit Kt Sha

/-- the reference's table of the numbers k lies in its block -/
def TabR (w : World) : Prop := ∀ i, i < 64 → w.cell? ⟨0, i, none⟩ = some (.int .u32 (keys.getD i 0 : Nat))
theorem TabR.lt {w : World} (h : TabR w) : 0 < w.heap.size := World.block_lt_of_cell? w _ (h 0 (by omega))
theorem TabR.below {w w' : World} (h : TabR w) (hb : Below w.heap.size w w') : TabR w' := fun i hi => (hb.cell (p := ⟨0, i, none⟩) h.lt).trans (h i hi)

theorem OwnW.made (w : World) (B : Nat) (hB : B ≤ w.heap.size) : OwnW (w.alloc (.cells #[] 72)) B (.slice (some ⟨w.heap.size, 0, none⟩) 0 0) [] :=
  World.ownsRow_made w #[] 0 hB (Nat.zero_le _) rfl
theorem OwnW.fresh (w : World) (B : Nat) (l : List Nat) (hB : B ≤ w.heap.size) (hl : l.length ≤ maxLen) : OwnW (w.alloc (.cells (u32s l).toArray 72)) B (.slice (some ⟨w.heap.size, 0, none⟩) l.length l.length) l :=
  ⟨by simp [u32s], .inr ⟨w.heap.size, l.length, (u32s l).toArray, rfl, hB, heap_alloc_new w _, Nat.le_refl _, hl, by simp [u32s], (by simp [u32s]; exact List.take_of_length_le (by simp))⟩⟩
theorem first_cells : (u32s first.list).toArray = #[Value.int .u32 1779033703, .int .u32 3144134277, .int .u32 1013904242, .int .u32 2773480762, .int .u32 1359893119, .int .u32 2600822924, .int .u32 528734635, .int .u32 1541459225] := rfl

/-- append of a row of numbers that lies in a block -/
theorem wpList_catW {ops : Array Oper} {Q : Exit → Act → World → Prop} {o : Oper} {rest : List Oper} {a : Act} {w : World}
    (hgd : o.guard = none) (s x : Operand) (ho : o.op = .call { callee := .builtin .append, args := #[s, x], argTypes := #[73, 73] })
    (B : Nat) (w0 : World) (v : Value) (l ys : List Nat) (g c : Nat) (hs : a.eval s = v) (hx : a.eval x = .slice (some ⟨g, 0, none⟩) ys.length c)
    (hown : OwnW w B v l) (hr : Row w g 72 (u32s ys)) (hlen : l.length + ys.length ≤ 7036874417766) (hb : Below B w0 w) (hbase : B ≤ w.heap.size)
    (h : ∀ v' w', OwnW w' B v' (l ++ ys) → Below B w0 w' → wpList Tryd.prog ops Q rest (a.put o.dst v') w') : wpList Tryd.prog ops Q (o :: rest) a w := by
  obtain ⟨i0, hi0, hz0, hz1, hz2⟩ := info_parts infoW
  refine wpList_append_own _ hgd s x 73 ho B 72 i0 (.int .u32 0) 1 4 Tryd.underlying73 hi0 hz0 hz1 hz2 rfl (by omega) v l.length (u32s l) hs hown ⟨g, 0, none⟩ ys.length c (u32s ys) hx (by simp [u32s])
    (fun j u hu => ?_) (u32s_one _) (by unfold maxLen; omega) (by omega) hbase (fun v' w' h1 h2 _ => ?_)
  · rw [Addr.add_mid, hr.cell]
    simpa using hu
  · refine h v' w' ?_ (hb.grown h2 hbase fun k hk => (World.ownsRow.lt hown k hk).1)
    unfold OwnW
    rw [List.length_append, u32s_append]
    exact h1

/-- the reference's own spelling of ch -/
theorem rch_val {e f g : Nat} (he : e < 4294967296) (hf : f < 4294967296) (hg : g < 4294967296) :
    bits BinOp.xor .u32 (bits BinOp.and .u32 (e : Int) (f : Int)) (bits BinOp.and .u32 (4294967295 - (e : Int)) (g : Int)) = (ch e f g : Nat) := by
  rw [show (4294967295 - (e : Int)) = ((4294967295 - e : Nat) : Int) from by omega, u32_and_nat _ _ he hf, u32_and_nat _ _ (by omega) hg, u32_xor_nat _ _ (and_lt hf) (and_lt hg)]; rfl
end Go.Proofs.YtlplgkdoiinfhaaDoor.Dg
namespace Go.Proofs.YtlplgkdoiinfhaaDoor.Dg
open Go Go.RowKit Kt Sha

/-- what the reference's Of comes to -/
def RefOf : Prop := ∀ (bs : List UInt8) (A : Option Addr) (c : Nat) (Pb : Nat → Prop) (w : World), Sl w Pb A c bs → bs.length ≤ 300 → TabR w →
  Calls Tryd.prog 30 #[.slice A bs.length c] w fun e w' => e = .returned (.string ⟨(sha bs).toArray⟩) ∧ Below w.heap.size w w'

end Go.Proofs.YtlplgkdoiinfhaaDoor.Dg
