/-
  unified: hunks of a size that the statements look at; how long what is printed is.
-/
import Derived.Test.YtfmmececocilhaaDoorIFs
import Derived.Test.YtfmmececocilhaaDoorUB
import Derived.Test.YtfmmececocilhaaDoorUC
import Derived.Test.YtfmmececocilhaaDoorUG
namespace Go.Proofs.YtfmmececocilhaaDoor.Un
open Go Go.RowKit Kt Lw Li Df Hu

def lnB (x : List UInt8) : Nat := min x.length 500 + 1
def totL (l : Ls) : Nat := (l.map lnB).sum
def tot (L : List Hk) : Nat := (L.map fun h => totL h.lines).sum
def fewU (L : List Hk) : Bool := fewH L && decide (tot L ≤ 500)
theorem totL_snoc (l : Ls) (j : Nat) (hj : j < l.length) : totL (l.take (j + 1)) = totL (l.take j) + lnB (l.getD j []) := by
  rw [List.take_add_one, List.getElem?_eq_getElem hj, List.getD_eq_getElem?_getD, List.getElem?_eq_getElem hj]
  simp only [totL, Option.toList_some, List.map_append, List.sum_append, List.map_cons, List.map_nil, List.sum_cons, List.sum_nil, Option.getD_some]
  omega
theorem tot_snoc (L : List Hk) (k : Nat) (h : Hk) (hk : L[k]? = some h) : tot (L.take (k + 1)) = tot (L.take k) + totL h.lines := by
  rw [List.take_add_one, hk]; simp [tot]
theorem lnB_le (x : List UInt8) : lnB x ≤ 501 := by unfold lnB; omega
theorem totL_le : ∀ l : Ls, totL l ≤ 501 * l.length
  | [] => Nat.le_refl _
  | x :: l => by
    have h1 := totL_le l
    have h2 := lnB_le x
    have h3 : totL (x :: l) = lnB x + totL l := by simp [totL]
    rw [h3, List.length_cons]; omega
theorem tot_le : ∀ L : List Hk, (∀ h ∈ L, ¬ tooBig h) → tot L ≤ 15030 * L.length
  | [], _ => Nat.le_refl _
  | h :: L, hb => by
    have h1 := tot_le L fun h hh => hb h (List.mem_cons_of_mem _ hh)
    have h2 := totL_le h.lines
    have h3 : tot (h :: L) = totL h.lines + tot L := by simp [tot]
    have h4 : h.lines.length ≤ 30 := by
      have := hb h (List.mem_cons_self ..)
      unfold tooBig at this; omega
    rw [h3, List.length_cons]; omega
theorem few_parts {L : List Hk} (h : fewH L = true) : (∀ h ∈ L, ¬ tooBig h) ∧ L.length ≤ 12 := by
  unfold fewH at h
  rw [Bool.and_eq_true] at h
  exact ⟨of_decide_eq_true h.1, of_decide_eq_true h.2⟩
set_option maxHeartbeats 2000000 in
set_option maxRecDepth 100000 in
theorem fewU_any (L : List Hk) (A : Option Addr) (c : Nat) (w : World) (hs : Hks w A c L) (hl : L.length ≤ 9223372036854775807) :
    Calls Tryd.prog 7 #[.slice A L.length c] w fun y w' => y = .returned (.bool (fewU L)) ∧ Below w.heap.size w w' := by
  have HF := hide (Hu.few_any L A c w hs hl)
  have Hs := hide hs
  obtain ⟨N, hN⟩ : ∃ N, N = L.length := ⟨_, rfl⟩
  rw [← hN] at HF hl ⊢
  have HN := hide hN
  have HU := hide (show fewU L = (fewH L && decide (tot L ≤ 500)) from rfl)
  cases hf : fewH L with
  | false =>
    have HF2 := hide (show Calls Tryd.prog 14 #[.slice A N c] w fun y w' => y = .returned (.bool false) ∧ Below w.heap.size w w' from by rw [← hf]; exact HF.out)
    have HU2 := hide (show fewU L = false by rw [HU.out, hf]; rfl)
    clear HF HU hf hs hN Hs HN
    go_enter Tryd.func7, Tryd.ntmps7
    go_wp2_with fail
    refine HF2.out.mono ?_
    rintro y w1 ⟨rfl, hb1⟩
    have Hb1 := hide hb1
    clear hb1 HF2
    go_wp2
    go_loopw [4, 5] (fun n i wr => n = .int .i64 0 ∧ i = .int .i64 0 ∧ Below w.heap.size w wr) (fun _ _ _ => 0)
    case atStart => exact ⟨rfl, rfl, Hb1.out⟩
    case round =>
      obtain ⟨rfl, rfl, hb⟩ := hrel
      have Hb := hide hb
      clear hb
      by_cases h0 : 0 < N
      · have d0 : decide ((0 : Int) < (N : Int)) = true := decide_eq_true (by omega)
        go_wp2
        go_ret
        exact ⟨by rw [HU2.out]; rfl, Hb.out⟩
      · obtain rfl : N = 0 := by omega
        go_wp2
        go_ret
        exact ⟨by rw [HU2.out]; rfl, Hb.out⟩
  | true =>
    have HF2 := hide (show Calls Tryd.prog 14 #[.slice A N c] w fun y w' => y = .returned (.bool true) ∧ Below w.heap.size w w' from by rw [← hf]; exact HF.out)
    obtain ⟨hall, h12⟩ := few_parts hf
    have HU2 := hide (show fewU L = decide (tot L ≤ 500) by rw [HU.out, hf]; rfl)
    have Hall := hide hall
    have hN12 : N ≤ 12 := by omega
    clear HF HU hf hs hN hall h12
    go_enter Tryd.func7, Tryd.ntmps7
    go_wp2_with fail
    refine HF2.out.mono ?_
    rintro y w1 ⟨rfl, hb1⟩
    have Hb1 := hide hb1
    clear hb1 HF2
    go_wp2
    go_loopw [4, 5] (fun n i wr => ∃ k t : Nat, k ≤ N ∧ i = .int .i64 k ∧ n = .int .i64 t ∧ t = tot (L.take k) ∧ Below w.heap.size w wr) (fun _ i _ => N - (intOf i).toNat)
    case atStart => exact ⟨0, 0, Nat.zero_le _, rfl, rfl, rfl, Hb1.out⟩
    case round =>
      obtain ⟨k, t, hk, rfl, rfl, ht, hb⟩ := hrel
      have htb : t ≤ 180360 := by
        rw [ht]
        have h1 := tot_le (L.take k) (fun h hh => Hall.out h (List.mem_of_mem_take hh))
        rw [List.length_take] at h1
        omega
      have Hb := hide hb
      have Ht := hide ht
      clear hb ht
      by_cases hlt : k < N
      · have d0 : decide ((k : Int) < (N : Int)) = true := decide_eq_true (by omega)
        obtain ⟨h, hke⟩ : ∃ h, L[k]? = some h := ⟨_, List.getElem?_eq_getElem (by have := HN.out; omega)⟩
        have hln : h.lines.length ≤ 30 := by
          have := Hall.out h (List.mem_of_getElem? hke)
          unfold tooBig at this; omega
        obtain ⟨n, hn⟩ : ∃ n, n = h.lines.length := ⟨_, rfl⟩
        have hn30 : n ≤ 30 := by omega
        have Hn := hide hn
        have Hke := hide hke
        clear hn hke hln
        go_wp2
        go_loopw [4, 6] (fun z i wr' => ∃ j s : Nat, j ≤ n ∧ i = .int .i64 j ∧ z = .int .i64 s ∧ s = t + totL (h.lines.take j) ∧ Below w.heap.size w wr') (fun _ i _ => n - (intOf i).toNat)
        case atStart => exact ⟨0, t, Nat.zero_le _, rfl, rfl, rfl, Hb.out⟩
        case round =>
          obtain ⟨j, s, hj, rfl, rfl, hs, hb⟩ := hrel
          have hsb : s ≤ 200000 := by
            rw [hs]
            have h1 := totL_le (h.lines.take j)
            rw [List.length_take] at h1
            omega
          have Hsj := hide hs
          have Hb5 := hide hb
          clear hs hb
          obtain ⟨b, o, h', A', c', rfl, hke', ⟨_, _, _, _, c4⟩, hv⟩ := Hs.out.at Hb5.out (k := k) (by have := HN.out; omega)
          obtain rfl : h' = h := by
            rw [Hke.out] at hke'
            exact (Option.some.inj hke').symm
          rw [← Hn.out] at c4
          clear hke'
          by_cases hlj : j < n
          · obtain ⟨bl, ol, rfl, ck⟩ := hv.text Hb5.out (k := j) (by have := Hn.out; omega)
            have Hsn := hide (totL_snoc h'.lines j (by have := Hn.out; omega))
            obtain ⟨x, hx⟩ : ∃ x, x = h'.lines.getD j [] := ⟨_, rfl⟩
            rw [← hx] at ck Hsn
            obtain ⟨nx, hnx⟩ : ∃ nx, nx = x.length := ⟨_, rfl⟩
            obtain ⟨m, hm⟩ : ∃ m, m = min nx 500 := ⟨_, rfl⟩
            have hme : (if (500 : Int) < (nx : Int) then (500 : Int) else (nx : Int)) = (m : Int) := by split <;> omega
            have hm5 : m ≤ 500 := by omega
            have HlB := hide (show lnB x = m + 1 by rw [lnB, ← hnx, ← hm])
            have hsz : (ByteArray.mk x.toArray).size = nx := by rw [hnx]; rfl
            clear hx hnx hm hv
            go_wp2
            refine ⟨⟨j + 1, s + m + 1, by omega, by go_num, by go_num, ?_, Hb5.out⟩, by simp [intOf]; omega⟩
            rw [Hsn.out, Hsj.out, HlB.out]; omega
          · have Hts := hide (show s = tot (L.take (k + 1)) by
              rw [tot_snoc L k h' Hke.out, ← Ht.out, Hsj.out, List.take_of_length_le (by have := Hn.out; omega)])
            go_wp2
            exact ⟨⟨k + 1, s, by omega, by go_num, rfl, Hts.out, Hb5.out⟩, by simp [intOf]; omega⟩
      · obtain rfl : k = N := by omega
        have d0 : decide ((k : Int) < (k : Int)) = false := decide_eq_false (by omega)
        have HT := hide (show fewU L = decide ((t : Int) ≤ 500) by
          have h1 := Ht.out
          rw [HN.out, List.take_length] at h1
          rw [HU2.out, ← h1, decide_eq_decide]; omega)
        go_wp2
        go_ret
        exact ⟨by rw [HT.out]; rfl, Hb.out⟩
end Go.Proofs.YtfmmececocilhaaDoor.Un
namespace Go.Proofs.YtfmmececocilhaaDoor.Un
open Go Go.RowKit Kt Lw Li Df Hu

theorem dec_len : ∀ (k u : Nat), 0 < k → u < 10 ^ k → (Lib.decDigits u).length ≤ k
  | 0, _, h, _ => absurd h (by omega)
  | k + 1, u, _, h => by
    rw [Lib.decDigits]
    split
    · simp
    · rename_i h10
      have hk : 0 < k := by
        rcases Nat.eq_zero_or_pos k with rfl | h0
        · simp at h; omega
        · exact h0
      have h1 := dec_len k (u / 10) hk (by rw [Nat.pow_succ] at h; omega)
      rw [List.length_append, List.length_singleton]
      omega
theorem itoa_len (n : Int) (h : -10000000000 < n ∧ n < 10000000000) : (Lib.itoa n).length ≤ 11 := by
  rw [Lib.itoa]
  split
  · rw [List.length_cons]
    have := dec_len 10 n.natAbs (by omega) (by show _ < 10000000000; omega)
    omega
  · have := dec_len 10 n.toNat (by omega) (by show _ < 10000000000; omega)
    omega
theorem sideT_len (p m : Int) (hp : -4294967296 ≤ p ∧ p ≤ 4294967296) (hm : -4294967296 ≤ m ∧ m ≤ 4294967296) : (sideT p m).length ≤ 23 := by
  have h1 := itoa_len (plc p m) (by unfold plc; omega)
  have h2 := itoa_len m (by omega)
  rw [sideT, List.length_append, List.length_cons]; omega
theorem headT_len (a an b bn : Int) (ha : -4294967296 ≤ a ∧ a ≤ 4294967296) (han : -4294967296 ≤ an ∧ an ≤ 4294967296) (hb : -4294967296 ≤ b ∧ b ≤ 4294967296) (hbn : -4294967296 ≤ bn ∧ bn ≤ 4294967296) : (headT a an b bn).length ≤ 56 := by
  have h1 := sideT_len a an ha han
  have h2 := sideT_len b bn hb hbn
  rw [headT, List.length_append, List.length_append, List.length_append, List.length_append]
  have h3 : opensB.length = 4 := rfl
  have h4 : plusB.length = 2 := rfl
  have h5 : closesB.length = 4 := rfl
  omega
theorem mem_sum {α : Type} (f : α → Nat) {x : α} : ∀ {l : List α}, x ∈ l → f x ≤ (l.map f).sum
  | y :: l, h => by
    rw [List.map_cons, List.sum_cons]
    rcases List.mem_cons.1 h with h | h
    · rw [h]; omega
    · have := mem_sum f h; omega
theorem lineT_len (x : List UInt8) : x.length ≤ (lineT x).length ∧ (lineT x).length ≤ x.length + 29 := by
  unfold lineT
  split
  · omega
  · rw [List.length_append]
    have : (10 :: markB).length = 29 := rfl
    omega
theorem lines_long : ∀ (l : Ls), (∀ x ∈ l, x.length ≤ 499) → ((l.map lineT).flatten).length ≤ totL l + 28 * l.length
  | [], _ => by simp
  | x :: l, h => by
    have h1 := lines_long l fun y hy => h y (List.mem_cons_of_mem _ hy)
    have h2 := lineT_len x
    have h3 : totL (x :: l) = lnB x + totL l := by simp [totL]
    have h4 : lnB x = x.length + 1 := by
      have := h x List.mem_cons_self
      unfold lnB; omega
    rw [List.map_cons, List.flatten_cons, List.length_append, List.length_cons, h3]; omega
theorem hks_long : ∀ (L : List Hk), (∀ h ∈ L, ¬ tooBig h ∧ ∀ x ∈ h.lines, x.length ≤ 499) → ((L.map hkT).flatten).length ≤ tot L + 900 * L.length
  | [], _ => by simp
  | h :: L, hb => by
    have h1 := hks_long L fun y hy => hb y (List.mem_cons_of_mem _ hy)
    obtain ⟨h2, h2'⟩ := hb h List.mem_cons_self
    have h3 : tot (h :: L) = totL h.lines + tot L := by simp [tot]
    have h4 := lines_long h.lines h2'
    unfold tooBig at h2
    have h5 := headT_len h.a h.an h.b h.bn (by omega) (by omega) (by omega) (by omega)
    rw [List.map_cons, List.flatten_cons, List.length_append, List.length_cons, h3, hkT, List.length_append]
    omega
theorem few_short {L : List Hk} (h : fewU L = true) : (∀ h ∈ L, ¬ tooBig h ∧ ∀ x ∈ h.lines, x.length ≤ 499) ∧ L.length ≤ 12 ∧ tot L ≤ 500 := by
  unfold fewU at h
  rw [Bool.and_eq_true] at h
  obtain ⟨h1, h2⟩ := few_parts h.1
  have h3 : tot L ≤ 500 := of_decide_eq_true h.2
  refine ⟨fun e he => ⟨h1 e he, fun x hx => ?_⟩, h2, h3⟩
  have h4 : totL e.lines ≤ tot L := mem_sum (fun h => totL h.lines) he
  have h5 : lnB x ≤ totL e.lines := mem_sum lnB hx
  unfold lnB at h5
  omega
theorem few_fit {L : List Hk} (h : fewU L = true) : (∀ h ∈ L, Fit h) ∧ ((L.map hkT).flatten).length ≤ 12000 ∧ (prt L).length ≤ 12000 := by
  obtain ⟨h1, h2, h3⟩ := few_short h
  have h4 := hks_long L h1
  refine ⟨fun e he => ?_, by omega, ?_⟩
  · obtain ⟨h5, h6⟩ := h1 e he
    unfold tooBig at h5
    exact ⟨by omega, by omega, by omega, fun x hx => Nat.le_trans (h6 x hx) (by omega)⟩
  · unfold prt
    split
    · omega
    · simp
theorem flat_mem {α β : Type} (f : α → List β) {x : α} : ∀ {l : List α}, x ∈ l → (f x).length ≤ ((l.map f).flatten).length
  | y :: l, h => by
    rw [List.map_cons, List.flatten_cons, List.length_append]
    rcases List.mem_cons.1 h with h | h
    · rw [h]; omega
    · have := flat_mem f h; omega
theorem flat_count {α β : Type} (f : α → List β) : ∀ {l : List α}, (∀ x ∈ l, 1 ≤ (f x).length) → l.length ≤ ((l.map f).flatten).length
  | [], _ => Nat.le_refl _
  | y :: l, h => by
    have h1 := flat_count f (l := l) fun x hx => h x (List.mem_cons_of_mem _ hx)
    have h2 := h y List.mem_cons_self
    rw [List.map_cons, List.flatten_cons, List.length_append, List.length_cons]; omega
theorem hkT_ne (h : Hk) : 1 ≤ (hkT h).length := by
  rw [hkT, headT]; simp [opensB]
theorem tell_fit {l : List Hk} (h : l.all tell = true) (m : Nat) (hm : m ≤ 100000) (hl : ((l.map hkT).flatten).length ≤ m) : (∀ h ∈ l, Fit h) ∧ l.length ≤ m ∧ ∀ h ∈ l, h.lines.length ≤ m := by
  have key : ∀ e ∈ l, e.lines.length ≤ m ∧ ∀ x ∈ e.lines, x.length ≤ m := fun e he => by
    have h1 := tell_iff.1 (List.all_eq_true.1 h e he)
    have h2 := flat_mem hkT he
    have h3 : (hkT e).length = (headT e.a e.an e.b e.bn).length + ((e.lines.map lineT).flatten).length := by rw [hkT, List.length_append]
    have h4 := flat_count lineT (l := e.lines) fun x hx => by
      have h5 := one_ne (h1.2.2.2.2.2 x hx)
      have h6 := (lineT_len x).1
      have h7 : 0 < x.length := List.length_pos_iff.2 h5
      omega
    refine ⟨by omega, fun x hx => ?_⟩
    have h5 := flat_mem lineT hx
    have h6 := (lineT_len x).1
    omega
  refine ⟨fun e he => ?_, ?_, fun e he => (key e he).1⟩
  · obtain ⟨h1, h2, h3, _⟩ := tell_iff.1 (List.all_eq_true.1 h e he)
    obtain ⟨k1, k2⟩ := key e he
    have p2 := h2.1
    have p3 := h2.2.1
    have p4 := h2.2.2.2
    have q2 := h3.1
    have q3 := h3.2.1
    have q4 := h3.2.2.2
    unfold plc at p4 q4
    exact ⟨by omega, by omega, by omega, fun x hx => Nat.le_trans (k2 x hx) (by omega)⟩
  · exact Nat.le_trans (flat_count hkT fun x _ => hkT_ne x) hl
theorem prt_tell {l : List Hk} (h : prt l ≠ []) : l.all tell = true := by
  unfold prt at h
  split at h
  · assumption
  · exact absurd rfl h
theorem prt_flat {l : List Hk} (h : l.all tell = true) : prt l = (l.map hkT).flatten := if_pos h
theorem run_none : ∀ (l : Ls) (s : St) (n m : Nat), run s l n = (m, none) → n < m
  | [], s, n, m, h => by
    rw [run] at h
    simp at h
  | x :: l, s, n, m, h => by
    rw [run] at h
    cases hq : step s x with
    | none =>
      rw [hq] at h
      simp at h
      omega
    | some s2 =>
      rw [hq] at h
      have := run_none l s2 (n + 1) m h
      omega
theorem parse_no {t : List UInt8} (h : (parse t).2.2 ≠ 0) : (parse t).1 = [] ∧ 1 ≤ (parse t).2.1 := by
  revert h
  unfold parse fin
  split
  · rename_i hs
    intro _
    have := run_none (lns t) ⟨[], 0, 0⟩ 0 _ (Prod.ext rfl hs)
    exact ⟨rfl, this⟩
  · split
    · intro h; exact absurd rfl h
    · intro _; exact ⟨rfl, by simp⟩
end Go.Proofs.YtfmmececocilhaaDoor.Un
