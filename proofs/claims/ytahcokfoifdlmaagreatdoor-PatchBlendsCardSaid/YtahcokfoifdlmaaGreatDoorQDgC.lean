/-
  What digest.filling comes to.
-/
import Derived.Test.YtahcokfoifdlmaaGreatDoorQSha
import Derived.Laws.CopyOwn
import Derived.Test.YtahcokfoifdlmaaGreatDoorQWA
namespace Go.Proofs.YtahcokfoifdlmaaGreatDoor.Dg
open Go Go.RowKit Kt Sha

theorem info8 : (Tryz.prog.info? 5).map (fun i => (i.zero, i.size, i.bytes)) = some (some (.int .u8 0), 1, 1) := by kernel_rfl

theorem zeros_le (n : Nat) : zeros n ≤ 63 := by unfold zeros; omega
theorem zeros_test (n k : Nat) (h : k < zeros n) : (n + (1 + k) + 8) % 64 ≠ 0 := by unfold zeros at h; omega
theorem zeros_end (n : Nat) : (n + (1 + zeros n) + 8) % 64 = 0 := by unfold zeros; omega
theorem bits8_succ (n k : Nat) : bits8 n (k + 1) = bits8 n k ++ [UInt8.ofNat (n * 8 / 256 ^ (7 - k))] := by
  simp [bits8, List.range_succ]
theorem bits8_len (n k : Nat) : (bits8 n k).length = k := by simp [bits8]
def head (k : Nat) : List UInt8 := [128] ++ List.replicate k 0
theorem head_succ (k : Nat) : head (k + 1) = head k ++ [0] := by simp [head, List.replicate_succ']
theorem head_len (k : Nat) : (head k).length = 1 + k := by simp [head]; omega

set_option maxHeartbeats 1000000 in
set_option maxRecDepth 100000 in
theorem filling_any (n : Nat) (w : World) (hn : n < 4294967296) :
    Calls Tryz.prog 79 #[.int .u64 n] w fun e w' => ∃ v, e = .returned v ∧ Own w' w.heap.size 5 v (pad n) ∧ Below w.heap.size w w' := by
  go_enter Tryz.func79, Tryz.ntmps79
  go_wp2
  go_loopw [3] (fun v wr => ∃ k g c : Nat, k ≤ zeros n ∧ v = .slice (some ⟨g, 0, none⟩) (1 + k) c ∧ Own wr w.heap.size 5 v (head k) ∧ Below w.heap.size w wr) (fun v _ => match v with | .slice _ m _ => 65 - m | _ => 0)
  case atStart =>
    exact ⟨0, w.heap.size, 1, by omega, rfl, Own.lit w _ _ [128] _ rfl (Nat.le_refl _) (by simp [maxLen]), (Below.refl _ _).alloc (Nat.le_refl _) _⟩
  case round =>
    obtain ⟨k, g, c, hk, rfl, hown, hb⟩ := hrel
    have hz := zeros_le n
    by_cases hlt : k < zeros n
    · have ht := zeros_test n k hlt
      have Hlt := hide hlt
      have Hown := hide hown
      have Hb := hide hb
      clear hown hb
      go_wp2_with (refine wpList_push rfl (.tmp 15) (.tmp 16) 39 rfl Tryz.underlying39 info8 w.heap.size w (.slice (some ⟨g, 0, none⟩) (1 + k) c) (head k) [0] 1 1 rfl rfl Hown.out rfl rfl (by rw [head_len]; simp; omega) Hb.out Hb.out.size ?_; intro v1 w1 hown1 hb1 _)
      go_roundw
      case rel =>
        rw [← head_succ] at hown1
        obtain ⟨g1, c1, rfl, _, _⟩ := hown1.form (by rw [head_len]; omega)
        exact ⟨k + 1, g1, c1, by omega, by rw [head_len], hown1, hb1⟩
      case measure =>
        obtain ⟨g1, c1, rfl, _, _⟩ := hown1.form (by simp)
        simp [head_len]; omega
    · obtain rfl : k = zeros n := by omega
      have ht := zeros_end n
      have htb : (((n : Int) + (1 + (zeros n : Int)) + 8) % 64 != 0) = false := by
        rw [bne_eq_false_iff_eq]; omega
      go_wp2
      go_loopw [3, 5] (fun v i wr => ∃ j g c : Nat, j ≤ 8 ∧ i = .int .i64 (56 - 8 * (j : Int)) ∧ v = .slice (some ⟨g, 0, none⟩) (1 + zeros n + j) c ∧ Own wr w.heap.size 5 v (head (zeros n) ++ bits8 n j) ∧ Below w.heap.size w wr) (fun _ i _ => (intOf i + 8).toNat)
      case atStart => exact ⟨0, g, c, by omega, rfl, rfl, by simpa [bits8] using hown, hb⟩
      case round =>
        obtain ⟨j, g, c, hj, rfl, rfl, hown, hb⟩ := hrel
        have Hown := hide hown
        have Hb := hide hb
        clear hown hb
        by_cases hlt : j < 8
        · have h0 : 0 ≤ 56 - 8 * (j : Int) := by omega
          have h1 : 56 - 8 * (j : Int) ≤ 56 := by omega
          have hc : Hid ((#[Value.int .u8 ((n : Int) * 8 / 2 ^ (56 - 8 * j) % 256)] : Array Value) = (u8s [UInt8.ofNat (n * 8 / 256 ^ (7 - j))]).toArray) := by
            have e : (2 : Int) ^ (56 - 8 * j) = ((256 ^ (7 - j) : Nat) : Int) := by
              rw [show 56 - 8 * j = 8 * (7 - j) from by omega, Int.pow_mul]
              simp
            simp only [Hid, u8s, List.map_cons, List.map_nil, UInt8.toNat_ofNat']
            rw [e]
            simp
          go_wp2_with (refine wpList_push rfl (.tmp 24) (.tmp 29) 39 rfl Tryz.underlying39 info8 w.heap.size w (.slice (some ⟨g, 0, none⟩) (1 + zeros n + j) c) (head (zeros n) ++ bits8 n j) [UInt8.ofNat (n * 8 / 256 ^ (7 - j))] 1 1 rfl rfl Hown.out hc.out rfl (by simp [head_len, bits8_len]; omega) Hb.out Hb.out.size ?_; intro v1 w1 hown1 hb1 _)
          go_roundw
          case rel =>
            rw [List.append_assoc, ← bits8_succ] at hown1
            obtain ⟨g1, c1, rfl, _, _⟩ := hown1.form (by simp [head_len]; omega)
            exact ⟨j + 1, g1, c1, by omega, by go_num, by simp [head_len, bits8_len], hown1, hb1⟩
          case measure => simp [intOf]; omega
        · obtain rfl : j = 8 := by omega
          go_wp2
          go_ret
          exact ⟨_, rfl, Hown.out, Hb.out⟩
end Go.Proofs.YtahcokfoifdlmaaGreatDoor.Dg
namespace Go.Proofs.YtahcokfoifdlmaaGreatDoor.Sha
open Go Kt

theorem blocks_append (a b : List UInt8) : ∀ q, 64 * q ≤ a.length → blocks (a ++ b) q = blocks a q
  | 0, _ => rfl
  | q + 1, h => by
    simp only [blocks]
    rw [blocks_append a b q (by omega), List.drop_append_of_le_length (by omega), List.take_append_of_le_length (by rw [List.length_drop]; omega)]

theorem splice_len {α : Type} (L : List α) (k : Nat) (x : List α) (h : k + x.length ≤ L.length) : (splice L k x).length = L.length := length_splice L k x h

theorem tail_part {t x last : List UInt8} (hl : last.length = 64) (ht : last.take (t.length % 64) = t.drop (t.length / 64 * 64)) (hx : t.length % 64 + x.length < 64) :
    (splice last (t.length % 64) x).take ((t ++ x).length % 64) = (t ++ x).drop ((t ++ x).length / 64 * 64) ∧ state (t ++ x) = state t := by
  have e1 : (t ++ x).length / 64 = t.length / 64 := by rw [List.length_append]; omega
  have e2 : (t ++ x).length % 64 = t.length % 64 + x.length := by rw [List.length_append]; omega
  refine ⟨?_, ?_⟩
  · rw [e1, e2, List.drop_append_of_le_length (by omega), ← ht, splice, ← List.append_assoc, List.take_append_of_le_length (by simp; omega),
      List.take_of_length_le (by simp; omega)]
  · unfold state
    rw [e1, blocks_append t x _ (by omega)]

theorem tail_full {t x last : List UInt8} (hl : last.length = 64) (ht : last.take (t.length % 64) = t.drop (t.length / 64 * 64)) (hx : t.length % 64 + x.length = 64) :
    (t ++ x).length % 64 = 0 ∧ state (t ++ x) = mix (state t) (ext (splice last (t.length % 64) x) 64) := by
  have e1 : (t ++ x).length / 64 = t.length / 64 + 1 := by rw [List.length_append]; omega
  have e2 : (t ++ x).length % 64 = 0 := by rw [List.length_append]; omega
  refine ⟨e2, ?_⟩
  have e3 : splice last (t.length % 64) x = ((t ++ x).drop (64 * (t.length / 64))).take 64 := by
    have e4 : last.drop (t.length % 64 + x.length) = [] := List.drop_of_length_le (by omega)
    have e5 : (last.take (t.length % 64) ++ x).length ≤ 64 := by rw [List.length_append, List.length_take]; omega
    rw [show 64 * (t.length / 64) = t.length / 64 * 64 from by omega, List.drop_append_of_le_length (by omega), ← ht, splice, e4, List.append_nil, List.take_of_length_le e5]
  unfold state
  rw [e1, e3]
  simp only [blocks]
  rw [blocks_append t x _ (by omega)]

theorem splice_mid (A L M : List Value) (k o : Nat) (x : List Value) (hA : A.length = o) (h : k + x.length ≤ L.length) :
    splice (A ++ (L ++ M)) (o + k) x = A ++ (splice L k x ++ M) := by
  subst hA
  simp only [splice]
  rw [List.take_append, List.drop_append, List.take_of_length_le (by omega), List.drop_of_length_le (by omega), List.nil_append,
    show A.length + k - A.length = k from by omega, show A.length + k + x.length - A.length = k + x.length from by omega,
    List.take_append_of_le_length (by omega), List.drop_append_of_le_length (by omega)]
  simp
theorem splice_u8s (L x : List UInt8) (k : Nat) : splice (u8s L) k (u8s x) = u8s (splice L k x) := by
  simp [splice, u8s, List.map_take, List.map_drop]
theorem pad_sum (n : Nat) : (n + (pad n).length) % 64 = 0 := by
  simp [pad, bits8, zeros]; omega
end Go.Proofs.YtahcokfoifdlmaaGreatDoor.Sha
namespace Go.Proofs.YtahcokfoifdlmaaGreatDoor.Dg
open Go Go.RowKit Kt Sha

/-- the cells of a hash of the text t, whose last block's place holds these -/
def hashCells (t last : List UInt8) : List Value := u32s (state t).list ++ (u8s last ++ [.int .u64 (t.length : Nat)])
structure HashIs (w : World) (g : Nat) (t last : List UInt8) : Prop where
  row : Row w g 130 (hashCells t last)
  len : last.length = 64
  tail : last.take (t.length % 64) = t.drop (t.length / 64 * 64)
def HashAt (w : World) (g : Nat) (t : List UInt8) : Prop := ∃ last, HashIs w g t last

theorem hash_len (t last : List UInt8) (h : last.length = 64) : (hashCells t last).length = 73 := by simp [hashCells, u32s_len, u8s_len, h, St.list]
theorem hash_one (t last : List UInt8) : ∀ v ∈ hashCells t last, v.oneCell' = true := by
  intro v hv
  simp only [hashCells, List.mem_append, List.mem_singleton] at hv
  rcases hv with h | h | rfl
  · exact u32s_one _ v h
  · exact u8s_one _ v h
  · rfl
theorem hash_many (t last : List UInt8) (h : last.length = 64) : (hashCells t last)[72]? = some (.int .u64 (t.length : Nat)) := by
  unfold hashCells
  rw [List.getElem?_append_right (by simp [u32s_len, St.list]), List.getElem?_append_right (by simp [u32s_len, u8s_len, St.list, h])]
  simp [u32s_len, u8s_len, St.list, h]

theorem size64b : (Tryz.prog.info? 128).map (·.size) = some 64 := by kernel_rfl
theorem size1 : (Tryz.prog.info? 5).map (·.size) = some 1 := by kernel_rfl

theorem zero53 (w : World) : (zeroValue 130).run Tryz.prog w = .ok (.agg #[.int .u32 0, .int .u32 0, .int .u32 0, .int .u32 0, .int .u32 0, .int .u32 0, .int .u32 0, .int .u32 0, .int .u8 0, .int .u8 0, .int .u8 0, .int .u8 0, .int .u8 0, .int .u8 0, .int .u8 0, .int .u8 0, .int .u8 0, .int .u8 0, .int .u8 0, .int .u8 0, .int .u8 0, .int .u8 0, .int .u8 0, .int .u8 0, .int .u8 0, .int .u8 0, .int .u8 0, .int .u8 0, .int .u8 0, .int .u8 0, .int .u8 0, .int .u8 0, .int .u8 0, .int .u8 0, .int .u8 0, .int .u8 0, .int .u8 0, .int .u8 0, .int .u8 0, .int .u8 0, .int .u8 0, .int .u8 0, .int .u8 0, .int .u8 0, .int .u8 0, .int .u8 0, .int .u8 0, .int .u8 0, .int .u8 0, .int .u8 0, .int .u8 0, .int .u8 0, .int .u8 0, .int .u8 0, .int .u8 0, .int .u8 0, .int .u8 0, .int .u8 0, .int .u8 0, .int .u8 0, .int .u8 0, .int .u8 0, .int .u8 0, .int .u8 0, .int .u8 0, .int .u8 0, .int .u8 0, .int .u8 0, .int .u8 0, .int .u8 0, .int .u8 0, .int .u8 0, .int .u64 0]) w := by kernel_rfl

theorem Tab.grown {w w' : World} (h : Tab w) {g : Nat} (hb : w.grownBy w' (some g)) (hg : g ≠ 1) : Tab w' :=
  fun i hi => hb.cell (h i hi) (fun e => hg (by injection e with e; exact e.symm))
theorem Tab.drew {w : World} (h : Tab w) : Tab w.drew := h
theorem range_sums {W : World} {g : Nat} {s : St} {R : List Value} (h : Row W g 130 (u32s s.list ++ R)) : W.rangeAt g 0 (u32s s.list) := fun j u hu => by
  have hj := (List.getElem?_eq_some_iff.1 hu).1
  rw [h.cell, List.getElem?_append_left (by omega), ← hu, Nat.zero_add]
theorem range_last {W : World} {g : Nat} {s : St} {L : List UInt8} {R : List Value} (h : Row W g 130 (u32s s.list ++ (u8s L ++ R))) : W.rangeAt g 8 (u8s L) := fun j u hu => by
  have hj := (List.getElem?_eq_some_iff.1 hu).1
  rw [h.cell, List.getElem?_append_right (by simp [u32s_len, St.list]), List.getElem?_append_left (by simp [u32s_len, St.list]; omega), ← hu]
  congr 1; simp [u32s_len, St.list]
theorem there_sums {W : World} {g : Nat} {s : St} {R : List Value} (h : Row W g 130 (u32s s.list ++ R)) : W.there g 0 8 := fun j hj => ⟨by
  rw [h.cell, List.getElem?_append_left (by simp [u32s_len, St.list]; omega), List.getElem?_eq_getElem (by simp [u32s_len, St.list]; omega)]; rfl, h.free _⟩
theorem row_cells {w : World} {g : Nat} {t : TypeId} {A R : List Value} (h : Row w g t (A ++ R)) (vs : List Value) (hv : vs.length = A.length) : Row (w.setCells g 0 vs) g t (vs ++ R) := by
  have key : ∀ (vs A : List Value) (P : List Value) (w : World), Row w g t (P ++ (A ++ R)) → vs.length = A.length → Row (w.setCells g P.length vs) g t (P ++ (vs ++ R)) := by
    intro vs
    induction vs with
    | nil => intro A P w h hv; obtain rfl := List.eq_nil_of_length_eq_zero hv.symm; exact h
    | cons v r ih =>
      intro A P w h hv
      cases A with
      | nil => simp at hv
      | cons a A' =>
        have h1 := h.put P.length v
        have e : (P ++ (a :: A' ++ R)).set P.length v = (P ++ [v]) ++ (A' ++ R) := by simp
        rw [e] at h1
        have := ih A' (P ++ [v]) _ h1 (by simpa using hv)
        rw [World.setCells]
        simpa using this
  exact key vs A [] w h hv

theorem new_any (w : World) : Calls Tryz.prog 56 #[] w fun e w' => e = .returned (.pointer (some ⟨w.heap.size, 0, none⟩)) ∧ HashAt w' w.heap.size [] ∧ Below w.heap.size w w' := by
  have hz := zero53
  go_enter Tryz.func56, Tryz.ntmps56
  go_wp2
  go_ret
  refine ⟨rfl, ⟨List.replicate 64 0, ?_, rfl, rfl⟩, (Below.refl _ _).alloc (Nat.le_refl _) _⟩
  exact Row.new w _ rfl rfl

theorem hash_splice (t last x : List UInt8) (k : Nat) (hl : last.length = 64) (h : k + x.length ≤ 64) :
    splice (hashCells t last) (8 + k) (u8s x) = u32s (state t).list ++ (u8s (splice last k x) ++ [.int .u64 (t.length : Nat)]) := by
  unfold hashCells
  rw [splice_mid _ _ _ k 8 _ (by simp [u32s_len, St.list]) (by simp [u8s_len]; omega), splice_u8s]
theorem hash_set (A : List Value) (L : List UInt8) (m : Value) (v : Value) (hA : A.length = 8) (hL : L.length = 64) : (A ++ (u8s L ++ [m])).set 72 v = A ++ (u8s L ++ [v]) := by
  rw [List.set_append, if_neg (by omega), List.set_append, if_neg (by rw [u8s_len]; omega), u8s_len, hA, hL]
  rfl

theorem take_min (l : List UInt8) (a : Nat) : l.take a = l.take (min a l.length) := by
  rcases Nat.le_total a l.length with h | h
  · rw [Nat.min_eq_left h]
  · rw [Nat.min_eq_right h, List.take_of_length_le h, List.take_of_length_le (Nat.le_refl _)]
theorem next_rest {rest x : List UInt8} {k m : Nat} (hx : rest.take k = x) (hm : min k rest.length = m) : x ++ rest.drop m = rest := by
  rw [← hx, take_min, hm, List.take_append_drop]

set_option maxHeartbeats 1000000 in
set_option maxRecDepth 100000 in
theorem write_any (t bs : List UInt8) (g : Nat) (A : Option Addr) (c : Nat) (w : World) (hh : HashAt w g t) (hs : Sl w (· ≠ g) A c bs) (ht : Tab w) (hg : g ≠ 1) (hn : t.length + bs.length < 4294967296) :
    Calls Tryz.prog 57 #[.pointer (some ⟨g, 0, none⟩), .slice A bs.length c] w fun e w' => e = .returned (.tuple #[]) ∧ HashAt w' g (t ++ bs) ∧ w.grownBy w' (some g) := by
  have Hs := hide hs
  have Hh := hide hh
  have Ht := hide ht
  clear hs hh ht
  go_enter Tryz.func57, Tryz.ntmps57
  go_wp2
  go_loopw [1] (fun v wr => ∃ (done rest : List UInt8) (A : Option Addr) (c : Nat), bs = done ++ rest ∧ v = .slice A rest.length c ∧ Sl wr (fun b => b ≠ g ∧ b < w.heap.size) A c rest ∧ HashAt wr g (t ++ done) ∧ w.grownBy wr (some g)) (fun v _ => lenOf v)
  case atStart => exact ⟨[], bs, A, c, rfl, rfl, Hs.out.bound, by simpa using Hh.out, World.grownBy.refl _ _⟩
  case round =>
    obtain ⟨done, rest, A, c, hbs, rfl, hsl, hh, hgr⟩ := hrel
    by_cases hr : 0 < rest.length
    · obtain ⟨last, hh⟩ := hh
      have c72 : wr.cell? ⟨g, 72, none⟩ = some (.int .u64 ((t ++ done).length : Nat)) := by rw [hh.row.cell, hash_many _ _ hh.len]
      obtain ⟨n, hn'⟩ : ∃ n, n = (t ++ done).length := ⟨_, rfl⟩
      rw [← hn'] at c72
      have hlt : n + rest.length < 4294967296 := by rw [hn', List.length_append]; rw [hbs, List.length_append] at hn; omega
      have Hn := hide hn'
      have Hbs := hide hbs
      clear hn' hbs
      have hmod : (n : Int) % 64 < 64 := by omega
      have hmod2 : (n : Int) % 64 ≤ 64 := by omega
      have hmod0 : 0 ≤ (n : Int) % 64 := by omega
      go_wp2
      have hmodt : (n : Int).tmod 64 = ((n % 64 : Nat) : Int) := by rw [Int.tmod_eq_emod_of_nonneg (by omega)]; omega
      have hmod3 : n % 64 ≤ 64 := by omega
      have He : Hid (((n : Int) % 64).toNat = n % 64) := by show _ = _; omega
      have Hne : Hid (¬ 64 = n % 64) := by show ¬ _; omega
      go_region_law (refine step_copy_bytes rfl (.tmp 16) (.tmp 17) 39 39 rfl 5 Tryz.underlying39 size1 g (8 + n % 64) (64 - n % 64) (64 - n % 64) c A rest _ (by simp [Act.eval, Act.put, He.out, Hne.out]) (by simp [Act.eval, Act.put]) hsl.drew (hashCells (t ++ done) last) _ hh.row.drew (by rw [hash_len _ _ hh.len]; omega) ?_)
      have hx : Hid (rest.take (64 - n % 64) = rest.take (64 - n % 64)) := rfl
      have hW : Row (wr.drew.setRow g (splice (hashCells (t ++ done) last) (8 + n % 64) (u8s (List.take (64 - n % 64) rest))).toArray) g _ _ := hh.row.drew.all _
      have hgr1 : w.grownBy (wr.drew.setRow g (splice (hashCells (t ++ done) last) (8 + n % 64) (u8s (List.take (64 - n % 64) rest))).toArray) (some g) := grown_all (grown_drew hgr) _
      have hsl1 : Sl (wr.drew.setRow g (splice (hashCells (t ++ done) last) (8 + n % 64) (u8s (List.take (64 - n % 64) rest))).toArray) (fun b => b ≠ g ∧ b < w.heap.size) A c rest :=
        hsl.drew.move fun b hb _ => setRow_other _ _ _ _ hb.1
      generalize (wr.drew.setRow g (splice (hashCells (t ++ done) last) (8 + n % 64) (u8s (List.take (64 - n % 64) rest))).toArray) = W at *
      generalize hxe : List.take (64 - n % 64) rest = x at *
      have hxm : x.length = min (64 - n % 64) rest.length := by rw [← hxe, List.length_take]
      generalize hme : min (64 - n % 64) rest.length = m at *
      have hm0 : 0 < m := by omega
      have hm1 : m ≤ rest.length := by omega
      have hm2 : n % 64 + m ≤ 64 := by omega
      have Hme := hide hme
      have Hxe := hide hxe
      have Hxm := hide hxm
      clear hme hxe hxm
      have hrow : Row W g 130 (u32s (state (t ++ done)).list ++ (u8s (splice last (n % 64) x) ++ [.int .u64 (n : Nat)])) := by
        have e := hash_splice (t ++ done) last x (n % 64) hh.len (by rw [Hxm.out]; omega)
        rw [← Hn.out] at e
        rwa [e] at hW
      have hl' : (splice last (n % 64) x).length = 64 := by rw [splice_len _ _ _ (by rw [hh.len, Hxm.out]; omega), hh.len]
      have Hl' := hide hl'
      clear hl'
      have d72 : W.cell? ⟨g, 72, none⟩ = some (.int .u64 (n : Nat)) := by
        rw [hrow.cell, List.getElem?_append_right (by simp [u32s_len, St.list]), List.getElem?_append_right (by simp [u32s_len, u8s_len, St.list, Hl'.out])]
        simp [u32s_len, u8s_len, St.list, Hl'.out]
      have e72 : W.frozen? ⟨g, 72, none⟩ = false := hrow.free _
      have hrow2 : Row (W.setCell ⟨g, 72, none⟩ (.int .u64 ((n : Int) + (m : Int)))) g 130 (u32s (state (t ++ done)).list ++ (u8s (splice last (n % 64) x) ++ [.int .u64 ((n : Int) + (m : Int))])) := by
        have := hrow.put 72 (.int .u64 ((n : Int) + (m : Int)))
        rwa [hash_set _ _ _ _ (by simp [u32s_len, St.list]) Hl'.out] at this
      have Hh := hide hh
      have Hr := hide hrow2
      have Hs1 := hide hsl1
      have Hg1 := hide hgr1
      clear hh hrow hrow2 hsl1 hgr1 hW c72 hsl
      by_cases hfull : (n + m) % 64 = 0
      · have hb1 : (((n : Int) + (m : Int)) % 64 == 0) = true := by rw [beq_iff_eq]; omega
        have Hf := hide hfull
        clear hfull
        by_cases hcm : c = m
        all_goals
          go_wp2
          have Hg2 := hide (grown_put (i := 72) Hg1.out (.int .u64 ((n : Int) + (m : Int))))
          have Hs2 := hide (Hs1.out.move (w' := W.setCell ⟨g, 72, none⟩ (.int .u64 ((n : Int) + (m : Int)))) fun b hb _ => Below.heap_setCell W ⟨g, 72, none⟩ _ b hb.1)
          generalize W.setCell ⟨g, 72, none⟩ (.int .u64 ((n : Int) + (m : Int))) = W2 at *
          generalize hst : state (t ++ done) = st at *
          have hso : st.ok := by rw [← hst]; exact blocks_ok _ _
          generalize hL : splice last (n % 64) x = L at *
          have Hst := hide hst
          have Hso := hide hso
          have HL := hide hL
          clear hst hso hL
          have Ht2 := hide ((Ht.out.grown Hg2.out hg).drew)
          refine Rg.wp_region_txt (fun w' => Row w' g 130 (u32s st.list ++ (u8s L ++ [.int .u64 ((n : Int) + (m : Int))]))) [true, true, true, true, true, true, true, true, true, false, false, true, true, false] (by kernel_rfl) (by kernel_rfl) ?_
          simp only [List.zip_cons_cons, List.zip_nil_right]
          have hS := hide Hr.out.drew
          iterate 4 (refine Rg.txt_quiet (v := ?_) rfl (fun w' _ => ?_) hS.out ?_; rotate_left; (go_simp; with_reducible rfl))
          refine Rg.txt_load rfl 127 (.tmp 40) rfl g 0 (by simp [Act.eval, Act.put]) (u32s st.list) _ (fun w' h => range_sums h) Tryz.underlying127 rfl (size8.trans rfl) hS.out ?_
          iterate 3 (refine Rg.txt_quiet (v := ?_) rfl (fun w' _ => ?_) hS.out ?_; rotate_left; (go_simp; with_reducible rfl))
          refine Rg.txt_load rfl 128 (.tmp 44) rfl g 8 (by simp [Act.eval, Act.put]) (u8s L) _ (fun w' h => range_last h) Tryz.underlying128 rfl (size64b.trans (by rw [u8s_len, Hl'.out])) hS.out ?_
          refine Rg.txt_loud rfl (fun K hK => ?_)
          go_simp
          refine (spread_any _ _ Hl'.out).mono ?_
          rintro e w1 ⟨rfl, hb1⟩
          have hr1 := hide (Hr.out.drew.below hb1 Hr.out.drew.lt)
          have ht1 := hide (Ht2.out.below hb1)
          have hg1 := hide (grown_below (grown_drew Hg2.out) hb1)
          have hbb1 := hide hb1
          clear hb1
          refine hK _ _ (fun _ => hr1.out) ?_
          clear hK K
          refine Rg.txt_loud rfl (fun K hK => ?_)
          go_simp
          refine (mix_any _ _ _ Hso.out (ext_len _ _) (ext_lt _ _) ht1.out).mono ?_
          rintro e w2 ⟨rfl, hb2⟩
          have hr2 := hide (hr1.out.below hb2 hr1.out.lt)
          have hg2 := hide (grown_below hg1.out hb2)
          have hbb2 := hide hb2
          clear hb2
          refine hK _ _ (fun _ => hr2.out) ?_
          clear hK K
          iterate 2 (refine Rg.txt_quiet (v := ?_) rfl (fun w' _ => ?_) hr2.out ?_; rotate_left; (go_simp; with_reducible rfl))
          refine Rg.txt_store rfl 127 (.tmp 49) (.tmp 47) rfl g 0 (u32s (mix st (ext L 64)).list).toArray (by simp [Act.eval, Act.put]) (by simp [Act.eval, Act.put]) (there_sums hr2.out) (size8.trans rfl) (u32s_all _) ⟨Rg.not_sink (by kernel_rfl), Rg.txt_nil ?_⟩
          simp only [Act.put, List.setIfInBounds_toArray, List.set_cons_succ, List.set_cons_zero]
          go_wp2
          go_roundw
          case rel =>
            have hw2 : ∀ b, (b ≠ g ∧ b < w.heap.size) → b < W2.heap.size → (w2.setCells g 0 (u32s (mix st (ext L 64)).list)).heap[b]? = W2.heap[b]? := fun b hb hb2 => by
              rw [cells_other (by have := hbb1.out.size; have := hbb2.out.size; have : W2.drew.heap.size = W2.heap.size := rfl; omega) hb.1, hbb2.out.block b (by have := hbb1.out.size; have : W2.drew.heap.size = W2.heap.size := rfl; omega), hbb1.out.block b hb2]; rfl
            have hcut := (Hs2.out.move hw2).cut hm1
            have hrest := next_rest Hxe.out Hme.out
            have htf := tail_full (t := t ++ done) (x := x) (last := last) Hh.out.len Hh.out.tail (by rw [← Hn.out, Hxm.out]; have := Hf.out; omega)
            have hnm : (t ++ (done ++ x)).length = n + m := by rw [← List.append_assoc, List.length_append, ← Hn.out, Hxm.out]
            rw [← Hn.out, HL.out, Hst.out] at htf
            refine ⟨done ++ x, rest.drop m, _, _, by rw [Hbs.out, List.append_assoc, hrest], ?_, hcut, ⟨L, ?_, Hl'.out, ?_⟩, grown_cells hg2.out _ _⟩
            · simp [hcm, List.length_drop]
            · have hq := row_cells hr2.out (u32s (mix st (ext L 64)).list) (by simp [u32s_len, St.list])
              unfold hashCells
              rw [hnm, show t ++ (done ++ x) = t ++ done ++ x from by rw [List.append_assoc], htf.2]
              simpa using hq
            · rw [hnm, Hf.out, List.take_zero, List.drop_of_length_le (by rw [hnm]; have := Hf.out; omega)]
          case measure => simp [lenOf]; omega
      · have hb1 : (((n : Int) + (m : Int)) % 64 == 0) = false := by rw [beq_eq_false_iff_ne]; omega
        have Hf := hide hfull
        clear hfull
        by_cases hcm : c = m
        all_goals
          go_wp2
          have Hg2 := hide (grown_put (i := 72) Hg1.out (.int .u64 ((n : Int) + (m : Int))))
          have Hs2 := hide (Hs1.out.move (w' := W.setCell ⟨g, 72, none⟩ (.int .u64 ((n : Int) + (m : Int)))) fun b hb _ => Below.heap_setCell W ⟨g, 72, none⟩ _ b hb.1)
          generalize W.setCell ⟨g, 72, none⟩ (.int .u64 ((n : Int) + (m : Int))) = W2 at *
          go_roundw
          case rel =>
            have hcut := Hs2.out.cut hm1
            have hrest := next_rest Hxe.out Hme.out
            have htf := tail_part (t := t ++ done) (x := x) (last := last) Hh.out.len Hh.out.tail (by rw [← Hn.out, Hxm.out]; have := Hf.out; omega)
            have hnm : (t ++ (done ++ x)).length = n + m := by rw [← List.append_assoc, List.length_append, ← Hn.out, Hxm.out]
            refine ⟨done ++ x, rest.drop m, _, _, by rw [Hbs.out, List.append_assoc, hrest], ?_, hcut, ⟨splice last (n % 64) x, ?_, Hl'.out, ?_⟩, Hg2.out⟩
            · simp [hcm, List.length_drop]
            · unfold hashCells
              rw [hnm, show t ++ (done ++ x) = t ++ done ++ x from by rw [List.append_assoc], htf.2]
              simpa using Hr.out
            · rw [← Hn.out] at htf
              rw [← List.append_assoc]
              exact htf.1
          case measure => simp [lenOf]; omega
    · obtain rfl : rest = [] := List.eq_nil_of_length_eq_zero (by omega)
      have Hbs := hide hbs
      have Hh2 := hide hh
      have Hg2 := hide hgr
      clear hbs hh hgr hsl hr
      go_wp2
      go_end0
      exact ⟨rfl, by rw [Hbs.out, List.append_nil]; exact Hh2.out, Hg2.out⟩
end Go.Proofs.YtahcokfoifdlmaaGreatDoor.Dg
