/-
  The reference's Turn of hunks.
-/
import Derived.Test.YtfmmececocilhaaBT
import Derived.Test.YtfmmececocilhaaHZ
namespace Go.Proofs.Ytfmmececocilhaa.Ap
open Go Go.RowKit Kt Lw Li Df Hu

set_option maxRecDepth 100000 in
set_option maxHeartbeats 2000000 in
theorem refTurn7_any (L : List Hk) (A : Option Addr) (c : Nat) (w : World) (hs : Hks w A c L) (hn : L.length ≤ 1000) (hb : ∀ h ∈ L, Sm h) (hx : ∀ h ∈ L, ∀ x ∈ h.lines, x.length ≤ 9223372036854775807) :
    Calls Try.prog 19 #[.slice A L.length c] w fun y w' => ∃ v, y = .returned v ∧ OwH w' w.heap.size v (turnL L) ∧ Below w.heap.size w w' := by
  have HR := hide (refRight7_any L A c w hs hn hb)
  have Hs := hide hs
  have Hsm := hide hb
  have Hx := hide hx
  have HT := hide (show turnL L = if okL 0 0 L then L.map hturn else [] from rfl)
  obtain ⟨N, hN⟩ : ∃ N, N = L.length := ⟨_, rfl⟩
  rw [← hN] at hn HR ⊢
  have HN := hide hN
  clear hs hb hx hN
  cases hok : okL 0 0 L with
  | false =>
    rw [hok] at HR HT
    clear hok
    go_enter Try.func19, Try.ntmps19
    go_wp2_with fail
    refine HR.out.mono ?_
    rintro y w1 ⟨rfl, hb1⟩
    have Hb1 := hide hb1
    clear hb1
    go_wp2
    go_loopw [4, 5] (fun v i wr => v = .slice none 0 0 ∧ i = .int .i64 0 ∧ Below w.heap.size w wr) (fun _ _ _ => 0)
    case atStart => exact ⟨rfl, rfl, Hb1.out⟩
    case round =>
      obtain ⟨rfl, rfl, hb⟩ := hrel
      by_cases h0 : 0 < N
      · have d0 : decide ((0 : Int) < (N : Int)) = true := decide_eq_true (by omega)
        go_wp2
        go_ret
        exact ⟨_, rfl, by rw [HT.out]; exact OwH.nil _ _, hb⟩
      · obtain rfl : N = 0 := by omega
        go_wp2
        go_ret
        exact ⟨_, rfl, by rw [HT.out]; exact OwH.nil _ _, hb⟩
  | true =>
    have Hal := hide (okL_mem L 0 0 hok)
    rw [hok] at HR HT
    clear hok
    go_enter Try.func19, Try.ntmps19
    go_wp2_with fail
    refine HR.out.mono ?_
    rintro y w1 ⟨rfl, hb1⟩
    have Hb1 := hide hb1
    clear hb1 HR
    go_wp2
    go_loopw [4, 5] (fun o i wr => ∃ (k : Nat) (v : Value), v = o ∧ k ≤ N ∧ i = .int .i64 k ∧ Hid (OwH wr w.heap.size v ((L.take k).map hturn)) ∧ Hid (Below w.heap.size w wr)) (fun _ i _ => N - (intOf i).toNat)
    case atStart => exact ⟨0, _, rfl, Nat.zero_le _, rfl, hide (OwH.nil _ _), hide Hb1.out⟩
    case round =>
      obtain ⟨k, v, rfl, hk, rfl, Hown, Hb⟩ := hrel
      by_cases hlt : k < N
      · obtain ⟨b, o, h, A', c', rfl, hke, ⟨c0, c1, c2, c3, c4⟩, hv⟩ := Hs.out.at Hb.out (k := k) (by have := HN.out; omega)
        have hm := List.mem_of_getElem? hke
        have HTn := hide (fun w' (hb : Below w.heap.size w w') => refTurn_any h.a h.an h.b h.bn h.lines A' c' _ w' (Lw.Vs.below hv hb) (by have := (Hsm.out h hm).2.2.2.2; omega) ((hright_iff h).1 (Hal.out h hm)).1 (Hx.out h hm))
        have Htk := hide (show (L.take (k + 1)).map hturn = (L.take k).map hturn ++ [hturn h] by rw [List.take_add_one, hke]; simp)
        have hlk : ((L.take k).map hturn).length = k := by rw [List.length_map, List.length_take]; have := HN.out; omega
        generalize (L.take k).map hturn = done at *
        obtain ⟨za, hza⟩ : ∃ z, z = h.a := ⟨_, rfl⟩
        obtain ⟨zan, hzan⟩ : ∃ z, z = h.an := ⟨_, rfl⟩
        obtain ⟨zb, hzb⟩ : ∃ z, z = h.b := ⟨_, rfl⟩
        obtain ⟨zbn, hzbn⟩ : ∃ z, z = h.bn := ⟨_, rfl⟩
        obtain ⟨nh, hnh⟩ : ∃ z, z = h.lines.length := ⟨_, rfl⟩
        rw [← hza] at c0 HTn
        rw [← hzan] at c1 HTn
        rw [← hzb] at c2 HTn
        rw [← hzbn] at c3 HTn
        rw [← hnh] at c4 HTn
        have Hth := hide (show hturn h = ⟨h.b, h.bn, h.a, h.an, turnA [] [] h.lines⟩ from rfl)
        rw [← hza, ← hzan, ← hzb, ← hzbn] at Hth
        generalize turnA [] [] h.lines = TLn at *
        clear hke hv hm hza hzan hzb hzbn hnh
        go_wp2_with fail
        refine (HTn.out wr Hb.out).mono ?_
        rintro y w5 ⟨vi, rfl, hvi, hb5⟩
        obtain ⟨Ai, ni, ci, rfl⟩ := owt_form hvi
        have Hvi := hide (owt_base hvi Hb.out.size)
        have Hown5 := hide (Hown.out.keep hb5)
        have Hb5 := hide (Hb.out.trans (hb5.mono Hb.out.size))
        clear hvi hb5 HTn Hown Hb c0 c1 c2 c3 c4
        go_wp2_with (refine wpList_pushH rfl (.tmp 17) (.tmp 23) rfl w.heap.size w v (.slice Ai ni ci) done ⟨zb, zbn, za, zan, TLn⟩ _ rfl rfl rfl Hown5.out Hvi.out (by omega) Hb5.out Hb5.out.size ?_; intro v6 w6 hown6 hb6 _)
        exact ⟨⟨k + 1, v6, rfl, by omega, by go_num, hide (by rw [Htk.out, Hth.out]; exact hown6), hide hb6⟩, by simp [intOf]; omega⟩
      · obtain rfl : k = N := by omega
        go_wp2
        go_ret
        exact ⟨_, rfl, by
          have h1 := Hown.out
          rw [HN.out, List.take_length] at h1
          rw [HT.out]; exact h1, Hb.out⟩
end Go.Proofs.Ytfmmececocilhaa.Ap
