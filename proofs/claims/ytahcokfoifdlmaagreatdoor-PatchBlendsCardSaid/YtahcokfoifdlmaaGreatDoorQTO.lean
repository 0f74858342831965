/-
  A path by its parts, and where a file stands among files by rising paths, on lists alone. No program is named here.
-/
import Derived.Lib.SplitLaws
import Derived.Test.YtahcokfoifdlmaaGreatDoorQWI
import Derived.BigQuiet
import Derived.Test.YtahcokfoifdlmaaGreatDoorQWS
import Derived.Test.YtahcokfoifdlmaaGreatDoorShelf
namespace Go.Proofs.YtahcokfoifdlmaaGreatDoor.Tr
open Go

/-- the parts of a path, behind the bytes of the first one -/
def sp : Bs → Bs → List Bs
  | q, [] => [q]
  | q, c :: r => if c = 47 then q :: sp [] r else sp (q ++ [c]) r
/-- bytes that a path may have -/
def good (c : UInt8) : Bool := !(decide (c < 32) || c == 127)
theorem rest_sp : ∀ (p q : Bs), rest q p = (p.all good && (sp q p).all part)
  | [], q => by simp [rest, sp]
  | c :: r, q => by
    rw [rest, sp, List.all_cons]
    by_cases h : c = 47
    · subst h
      rw [if_pos rfl, if_pos rfl, List.all_cons, rest_sp r []]
      have : good 47 = true := by decide
      rw [this]
      cases part q <;> simp
    · rw [if_neg h, if_neg h, rest_sp r (q ++ [c])]
      show (good c && _) = _
      rw [Bool.and_assoc]
theorem sp_front : ∀ (p q : Bs), sp q p = (q ++ (sp [] p).headD []) :: (sp [] p).tail
  | [], q => by simp [sp]
  | c :: r, q => by
    rw [sp, sp]
    by_cases h : c = 47
    · rw [if_pos h, if_pos h]; simp
    · rw [if_neg h, if_neg h, sp_front r (q ++ [c]), sp_front r ([] ++ [c])]; simp
theorem split_nil : Lib.split [] [47] = [[]] := by decide
theorem split_here (l : Bs) : Lib.split (47 :: l) [47] = [] :: Lib.split l [47] := by
  unfold Lib.split
  rw [Lib.count_cons_eq, Nat.add_comm, Lib.splitK]
  have h : Lib.index (47 :: l) [47] = 0 := by rw [Lib.index]; simp [List.isPrefixOf]
  rw [h, if_neg (by decide)]
  rfl
theorem split_past (c : UInt8) (l : Bs) (hc : c ≠ 47) : Lib.split (c :: l) [47] = (c :: (Lib.split l [47]).headD []) :: (Lib.split l [47]).tail := by
  have hp : ([47] : Bs).isPrefixOf (c :: l) = false := by simp [List.isPrefixOf, Ne.symm hc]
  have hix : Lib.index (c :: l) [47] = if Lib.index l [47] == -1 then -1 else Lib.index l [47] + 1 := by rw [Lib.index, hp]; simp
  unfold Lib.split
  rw [Lib.count_cons_ne c 47 l hc]
  by_cases hm : Lib.index l [47] = -1
  · rw [Lib.count_miss hm]; rfl
  · have hge := Lib.index_ge l [47]
    obtain ⟨j, hj⟩ : ∃ j : Nat, Lib.index l [47] = j := ⟨(Lib.index l [47]).toNat, by omega⟩
    have hix' : Lib.index (c :: l) [47] = ((j + 1 : Nat) : Int) := by rw [hix, if_neg (fun e => hm (beq_iff_eq.1 e)), hj]; omega
    rw [Lib.count_hit (by simp) hj, Nat.add_comm, Lib.splitK, Lib.splitK, hix', hj, if_neg (by rw [beq_iff_eq]; omega), if_neg (by rw [beq_iff_eq]; omega)]
    simp
theorem split_sp : ∀ p : Bs, Lib.split p [47] = sp [] p
  | [] => split_nil
  | c :: l => by
    rw [sp]
    by_cases h : c = 47
    · subst h; rw [if_pos rfl, split_here, split_sp l]
    · rw [if_neg h, split_past c l h, split_sp l, sp_front l ([] ++ [c])]; rfl
theorem can_sp (p : Bs) : can p = (decide (p.length ≤ 200) && (p.all good && (sp [] p).all part)) := by
  unfold can; rw [rest_sp]
theorem sp_len (p q : Bs) : (sp q p).length ≤ p.length + 1 := by
  induction p generalizing q with
  | nil => simp [sp]
  | cons c r ih =>
    rw [sp, List.length_cons]
    split
    · have := ih []; simp only [List.length_cons]; omega
    · have := ih (q ++ [c]); omega

/-- where a file with a path stands, or would stand -/
def pos : List Fl → Bs → Nat
  | [], _ => 0
  | f :: t, p => if lt f.path p then pos t p + 1 else 0
/-- is there one? -/
def hit : List Fl → Bs → Bool
  | [], _ => false
  | f :: t, p => if lt f.path p then hit t p else decide (f.path = p)
theorem pos_le : ∀ (t : List Fl) (p : Bs), pos t p ≤ t.length
  | [], _ => Nat.le_refl _
  | f :: t, p => by
    have := pos_le t p
    rw [pos, List.length_cons]
    split <;> omega
/-- what has less paths ahead of it, and behind it none, is that place -/
theorem pos_of : ∀ (t : List Fl) (p : Bs) (i : Nat), i ≤ t.length → (∀ k g, t[k]? = some g → k < i → lt g.path p = true) → (∀ g, t[i]? = some g → lt g.path p = false) → pos t p = i
  | [], _, i, hi, _, _ => by
    have : i = 0 := by simpa using hi
    subst this; rfl
  | f :: t, p, 0, _, _, h2 => by
    rw [pos, if_neg (by rw [h2 f rfl]; decide)]
  | f :: t, p, i + 1, hi, h1, h2 => by
    rw [pos, if_pos (h1 0 f rfl (by omega)), pos_of t p i (by simpa using hi) (fun k g hk hki => h1 (k + 1) g hk (by omega)) (fun g hg => h2 g hg)]
theorem hit_pos : ∀ (t : List Fl) (p : Bs), hit t p = true → pos t p < t.length
  | f :: t, p, h => by
    rw [hit] at h
    rw [pos, List.length_cons]
    split at h
    · next hl => rw [if_pos hl]; have := hit_pos t p h; omega
    · next hl => rw [if_neg hl]; omega
theorem hit_of : ∀ (t : List Fl) (p : Bs), (∀ g, t[pos t p]? = some g → hit t p = decide (g.path = p)) ∧ (t.length ≤ pos t p → hit t p = false)
  | [], _ => ⟨fun g h => by simp at h, fun _ => rfl⟩
  | f :: t, p => by
    have ih := hit_of t p
    rw [hit]
    by_cases hl : lt f.path p = true
    · have e : pos (f :: t) p = pos t p + 1 := by rw [pos, if_pos hl]
      rw [if_pos hl, e]
      exact ⟨fun g h => ih.1 g h, fun h => ih.2 (by rw [List.length_cons] at h; omega)⟩
    · have e : pos (f :: t) p = 0 := by rw [pos, if_neg hl]
      rw [if_neg hl, e]
      refine ⟨fun g h => ?_, fun h => by rw [List.length_cons] at h; omega⟩
      obtain rfl : f = g := Option.some.inj h
      rfl
/-- files by rising paths: ahead of the place all are less, behind it none -/
theorem go_lt : ∀ {q : Option Bs} {t : List Fl} {i j : Nat} {f g : Fl} (_ : go q t = true), t[i]? = some f → t[j]? = some g → i < j → lt f.path g.path = true
  | _, [], _, _, _, _, _, hf, _, _ => by simp at hf
  | q, x :: t, 0, j + 1, f, g, h, hf, hg, _ => by
    obtain rfl : x = f := Option.some.inj hf
    simp only [go, Bool.and_eq_true] at h
    exact (go_above h.2 g (List.mem_of_getElem? (l := t) hg)).1
  | q, x :: t, i + 1, j + 1, f, g, h, hf, hg, hij => by
    simp only [go, Bool.and_eq_true] at h
    exact go_lt (t := t) h.2 hf hg (by omega)
theorem go_mono {q : Option Bs} {t : List Fl} (h : go q t = true) {p : Bs} {i j : Nat} {f g : Fl} (hf : t[i]? = some f) (hg : t[j]? = some g) (hij : i ≤ j) (hl : lt g.path p = true) : lt f.path p = true := by
  rcases Nat.lt_or_eq_of_le hij with h' | h'
  · exact lt_trans (go_lt h hf hg h') hl
  · subst h'
    rw [hf] at hg
    obtain rfl := Option.some.inj hg
    exact hl
/-- a place's end -/
def upto (t : List Fl) (p : Bs) : Nat := if hit t p then pos t p + 1 else pos t p
theorem pos_upto (t : List Fl) (p : Bs) : pos t p ≤ upto t p := by unfold upto; split <;> omega
theorem upto_le (t : List Fl) (p : Bs) : upto t p ≤ t.length := by
  unfold upto
  split
  · next h => have := hit_pos t p h; omega
  · exact pos_le t p
theorem drop_at : ∀ {q : Option Bs} {t : List Fl} {p : Bs}, go q t = true → drop t p = t.take (pos t p) ++ t.drop (upto t p)
  | _, [], _, _ => rfl
  | q, f :: t, p, h => by
    have h0 := h
    simp only [go, Bool.and_eq_true] at h
    have ih := drop_at (p := p) h.2
    by_cases hl : lt f.path p = true
    · have e1 : pos (f :: t) p = pos t p + 1 := by rw [pos, if_pos hl]
      have e2 : upto (f :: t) p = upto t p + 1 := by
        unfold upto; rw [e1, show hit (f :: t) p = hit t p by rw [hit, if_pos hl]]; split <;> rfl
      rw [e1, e2, List.take_succ_cons, List.drop_succ_cons, List.cons_append, ← ih]
      unfold drop
      rw [List.filter_cons, if_pos (by simpa using lt_ne hl)]
    · have e1 : pos (f :: t) p = 0 := by rw [pos, if_neg hl]
      rw [e1, List.take_zero, List.nil_append]
      by_cases he : f.path = p
      · have e2 : upto (f :: t) p = 1 := by unfold upto; rw [e1, show hit (f :: t) p = true by rw [hit, if_neg hl]; exact decide_eq_true he]; rfl
        rw [e2]
        show drop (f :: t) p = t
        have hn : ∀ g ∈ t, g.path ≠ p := fun g hg => by
          have := (go_above h.2 g hg).1
          rw [← he]; exact (lt_ne this).symm
        conv => rhs; rw [← drop_none hn]
        unfold drop
        rw [List.filter_cons, if_neg (by simpa using he)]
      · have e2 : upto (f :: t) p = 0 := by unfold upto; rw [e1, show hit (f :: t) p = false by rw [hit, if_neg hl]; exact decide_eq_false he]; rfl
        rw [e2, List.drop_zero]
        refine drop_none fun g hg => ?_
        rcases List.mem_cons.1 hg with rfl | hg
        · exact he
        · have h1 : lt f.path g.path = true := (go_above h.2 g hg).1
          intro e
          rcases lt_tri f.path p with h2 | h2 | h2
          · exact hl h2
          · exact he h2
          · rw [e] at h1
            have := lt_trans h1 h2
            rw [lt_irr] at this; cases this
theorem hit_mem {q : Option Bs} {t : List Fl} {p : Bs} (h : go q t = true) : (drop t p).length + (if hit t p then 1 else 0) = t.length := by
  rw [drop_at h, List.length_append, List.length_take, List.length_drop]
  have h1 := pos_le t p
  have h2 := upto_le t p
  unfold upto at *
  split
  · next hh => rw [if_pos hh] at h2; omega
  · omega
theorem ins_front {f : Fl} : ∀ {a b : List Fl}, (∀ g ∈ a, lt f.path g.path = false) → (∀ g ∈ b.head?, lt f.path g.path = true) → ins f (a ++ b) = a ++ f :: b
  | [], [], _, _ => rfl
  | [], g :: b, _, h => by
    show ins f (g :: b) = _
    rw [ins, if_pos (h g rfl)]; rfl
  | g :: a, b, h1, h2 => by
    rw [List.cons_append, ins, if_neg (by rw [h1 g (by simp)]; decide), ins_front (fun x hx => h1 x (by simp [hx])) h2]; rfl
theorem pos_ahead : ∀ (t : List Fl) (p : Bs), ∀ g ∈ t.take (pos t p), lt g.path p = true
  | [], _, g, h => by simp [pos] at h
  | f :: t, p, g, h => by
    rw [pos] at h
    split at h
    · next hl =>
      rw [List.take_succ_cons] at h
      rcases List.mem_cons.1 h with rfl | h
      · exact hl
      · exact pos_ahead t p g h
    · simp at h
theorem pos_behind : ∀ {q : Option Bs} {t : List Fl} {p : Bs}, go q t = true → ∀ g ∈ t.drop (upto t p), lt p g.path = true
  | _, [], _, _, g, h => by simp at h
  | q, f :: t, p, h, g, hg => by
    have h0 := h
    simp only [go, Bool.and_eq_true] at h
    by_cases hl : lt f.path p = true
    · have e2 : upto (f :: t) p = upto t p + 1 := by
        unfold upto; rw [show pos (f :: t) p = pos t p + 1 by rw [pos, if_pos hl], show hit (f :: t) p = hit t p by rw [hit, if_pos hl]]; split <;> rfl
      rw [e2, List.drop_succ_cons] at hg
      exact pos_behind h.2 g hg
    · have e1 : pos (f :: t) p = 0 := by rw [pos, if_neg hl]
      by_cases he : f.path = p
      · have e2 : upto (f :: t) p = 1 := by unfold upto; rw [e1, show hit (f :: t) p = true by rw [hit, if_neg hl]; exact decide_eq_true he]; rfl
        rw [e2] at hg
        rw [← he]
        exact (go_above h.2 g hg).1
      · have e2 : upto (f :: t) p = 0 := by unfold upto; rw [e1, show hit (f :: t) p = false by rw [hit, if_neg hl]; exact decide_eq_false he]; rfl
        rw [e2, List.drop_zero] at hg
        have hpf : lt p f.path = true := by
          rcases lt_tri f.path p with h2 | h2 | h2
          · exact absurd h2 hl
          · exact absurd h2 he
          · exact h2
        rcases List.mem_cons.1 hg with rfl | hg
        · exact hpf
        · exact lt_trans hpf (go_above h.2 g hg).1
theorem put_at {q : Option Bs} {t : List Fl} (p x : Bs) (h : go q t = true) : ins ⟨p, x⟩ (drop t p) = t.take (pos t p) ++ ⟨p, x⟩ :: t.drop (upto t p) := by
  rw [drop_at h]
  refine ins_front (fun g hg => lt_asymm (pos_ahead t p g hg)) (fun g hg => pos_behind h g ?_)
  exact List.mem_of_mem_head? hg
theorem got_at : ∀ {q : Option Bs} {t : List Fl} {p : Bs}, go q t = true → (hit t p = false → get t p = ([], false)) ∧ (∀ g, t[pos t p]? = some g → hit t p = true → get t p = (g.text, true))
  | _, [], _, _ => ⟨fun _ => rfl, fun g h => by simp at h⟩
  | q, f :: t, p, h => by
    simp only [go, Bool.and_eq_true] at h
    have ih := got_at (p := p) h.2
    by_cases hl : lt f.path p = true
    · have e1 : pos (f :: t) p = pos t p + 1 := by rw [pos, if_pos hl]
      have e2 : hit (f :: t) p = hit t p := by rw [hit, if_pos hl]
      have e3 : get (f :: t) p = get t p := by rw [get, if_neg (lt_ne hl)]
      rw [e2, e3, e1]
      exact ⟨ih.1, fun g h' hh => ih.2 g h' hh⟩
    · have e1 : pos (f :: t) p = 0 := by rw [pos, if_neg hl]
      have e2 : hit (f :: t) p = decide (f.path = p) := by rw [hit, if_neg hl]
      rw [e2, e1, get]
      refine ⟨fun hh => ?_, fun g h' hh => ?_⟩
      · have hne : f.path ≠ p := of_decide_eq_false hh
        rw [if_neg hne]
        have hn : ∀ g ∈ t, g.path ≠ p := fun g hg => by
          have h1 : lt f.path g.path = true := (go_above h.2 g hg).1
          intro e
          rcases lt_tri f.path p with h2 | h2 | h2
          · exact hl h2
          · exact hne h2
          · rw [e] at h1
            have := lt_trans h1 h2
            rw [lt_irr] at this; cases this
        clear ih h e1 e2
        induction t with
        | nil => rfl
        | cons g t ih => rw [get, if_neg (hn g (by simp)), ih fun x hx => hn x (List.mem_cons_of_mem _ hx)]
      · obtain rfl : f = g := Option.some.inj h'
        rw [if_pos (of_decide_eq_true hh)]
end Go.Proofs.YtahcokfoifdlmaaGreatDoor.Tr
namespace Go.Proofs.YtahcokfoifdlmaaGreatDoor.Tr
open Go Go.RowKit Kt Lw Li Lx

/-- a library's variable is there -/
def Most (w : World) : Prop := ∃ m, w.cell? ⟨2, 0, none⟩ = some (.int .i64 m)
theorem Most.keep {w w' : World} (h : Most w) (hb : Below w.heap.size w w') : Most w' := by
  obtain ⟨m, hm⟩ := h
  exact ⟨m, agr hm hb⟩
theorem all_take {α : Type} (f : α → Bool) (l : List α) (k : Nat) (x : α) (h : l[k]? = some x) : (l.take (k + 1)).all f = ((l.take k).all f && f x) := by
  rw [List.take_add_one, h, List.all_append]
  simp
theorem all_part {α : Type} (f : α → Bool) (l : List α) (k : Nat) (h : (l.take k).all f = false) : l.all f = false := by
  cases hl : l.all f with
  | false => rfl
  | true =>
    rw [List.all_eq_true] at hl
    rw [List.all_eq_false] at h
    obtain ⟨x, hx, hf⟩ := h
    exact absurd (hl x (List.mem_of_mem_take hx)) hf
set_option maxRecDepth 100000 in
theorem parts_any (p : Bs) (w : World) (hE : Most w) (hl : p.length ≤ 200) :
    Calls Tryz.prog 63 #[.string ⟨p.toArray⟩, .string ⟨#[47]⟩] w fun y w' => ∃ A c, y = .returned (.slice A (sp [] p).length c) ∧ Vs w' (fun b => b < w'.heap.size) A c (texts (sp [] p)) ∧ Below w.heap.size w w' := by
  obtain ⟨m, hm⟩ := hE
  refine (Tryz.strings_Split ⟨p.toArray⟩ ⟨#[47]⟩ m w (by show p.length < _; omega) hm (by decide)).mono ?_
  rintro y w' ⟨rfl, rfl⟩
  have hsp : (Lib.splitB ⟨#[47]⟩ 0 (Lib.countB ⟨p.toArray⟩ ⟨#[47]⟩) ⟨p.toArray⟩).map (·.data.toList) = sp [] p := by
    rw [Lib.splitB_data, ← split_sp p]; rfl
  have hcells : (Lib.splitB ⟨#[47]⟩ 0 (Lib.countB ⟨p.toArray⟩ ⟨#[47]⟩) ⟨p.toArray⟩).map Value.string = texts (sp [] p) := by
    rw [← hsp]; unfold texts; rw [List.map_map]; rfl
  have hlen : Lib.countB ⟨p.toArray⟩ ⟨#[47]⟩ + 1 = (sp [] p).length := by
    rw [← hsp, List.length_map]
    exact (Lib.splitB_all ⟨#[47]⟩ (by decide) 0 _ ⟨p.toArray⟩ rfl).symm
  rw [hcells, hlen]
  have hrow := Row.fresh w 9 (texts (sp [] p)).toArray
  refine ⟨_, _, rfl, ⟨by rw [texts_len]; exact Nat.le_refl _, fun _ => ⟨w.heap.size, 0, rfl, by simp, fun j u hj => ?_⟩⟩, (Below.refl _ w).alloc (Nat.le_refl _) _⟩
  rw [Nat.zero_add, hrow.cell]
  simpa using hj
set_option maxRecDepth 100000 in
set_option maxHeartbeats 4000000 in
theorem path_any (p : Bs) (w : World) (hE : Most w) (hl : p.length ≤ 9223372036854775807) :
    Calls Tryz.prog 39 #[.string ⟨p.toArray⟩] w fun y w' => y = .returned (.bool (can p)) ∧ Below w.heap.size w w' := by
  by_cases hlong : 200 < p.length
  · have Hc := hide (show can p = false by unfold can; rw [decide_eq_false (by omega)]; rfl)
    have d0 : decide (200 < (p.length : Int)) = true := decide_eq_true (by omega)
    have d1 : decide (200 < p.length) = true := decide_eq_true hlong
    clear hlong
    go_enter Tryz.func39, Tryz.ntmps39
    go_wp2
    go_ret
    exact ⟨by rw [Hc.out]; rfl, Below.refl _ _⟩
  · have Hc := hide (show can p = (p.all good && (sp [] p).all part) by rw [can_sp, decide_eq_true (show p.length ≤ 200 by omega), Bool.true_and])
    have d0 : decide (200 < (p.length : Int)) = false := decide_eq_false (by omega)
    have d1 : decide (200 < p.length) = false := decide_eq_false hlong
    have HS := hide (parts_any p w hE (by omega))
    obtain ⟨n, hn⟩ : ∃ n, n = p.length := ⟨_, rfl⟩
    have hn2 : n ≤ 200 := by omega
    have Hn := hide hn
    clear hl
    go_enter Tryz.func39, Tryz.ntmps39
    go_wp2
    go_loopw [11] (fun i wr => ∃ k : Nat, k ≤ n ∧ i = .int .i64 k ∧ Hid ((p.take k).all good = true) ∧ w = wr) (fun i _ => n - (intOf i).toNat)
    case atStart => exact ⟨0, Nat.zero_le _, rfl, by show Hid _; exact hide (by simp), rfl⟩
    case round =>
      obtain ⟨k, hk, rfl, HR, rfl⟩ := hrel
      rw [← hn] at d0 d1
      by_cases hlt : k < n
      · have hkl : k < p.length := by omega
        have eg := get_at9 p k hkl
        have hr := all_take good p k (p.getD k 0) (by rw [List.getD_eq_getElem?_getD, List.getElem?_eq_getElem hkl]; rfl)
        rw [HR.out, Bool.true_and] at hr
        have Hall := hide (all_part good p (k + 1))
        generalize p.getD k 0 = c at *
        by_cases h32 : c.toNat < 32
        · have c32 : decide ((c.toNat : Int) < 32) = true := decide_eq_true (by omega)
          have c32n : decide (c.toNat < 32) = true := decide_eq_true h32
          have Hr := hide (Hall.out (by rw [hr]; unfold good; rw [decide_eq_true (by rw [UInt8.lt_iff_toNat_lt]; exact h32)]; simp))
          clear hr h32
          go_wp2
          go_ret
          exact ⟨by rw [Hc.out, Hr.out]; rfl, Below.refl _ _⟩
        · have c32 : decide ((c.toNat : Int) < 32) = false := decide_eq_false (by omega)
          have c32n : decide (c.toNat < 32) = false := decide_eq_false h32
          have l32 : decide (c < 32) = false := decide_eq_false (by rw [UInt8.lt_iff_toNat_lt]; exact h32)
          by_cases h127 : c.toNat = 127
          · have hce : c = 127 := UInt8.toNat_inj.1 h127
            have c7 : ((c.toNat : Int) == 127) = true := by rw [beq_iff_eq]; omega
            have c7n : (c.toNat == 127) = true := by rw [beq_iff_eq]; exact h127
            have Hr := hide (Hall.out (by rw [hr, hce]; decide))
            clear hr h32 h127 hce l32
            go_wp2
            go_ret
            exact ⟨by rw [Hc.out, Hr.out]; rfl, Below.refl _ _⟩
          · have c7 : ((c.toNat : Int) == 127) = false := by rw [beq_eq_false_iff_ne]; omega
            have c7n : (c.toNat == 127) = false := by rw [beq_eq_false_iff_ne]; exact h127
            have Hr := hide (show (p.take (k + 1)).all good = true by
              rw [hr]; unfold good; rw [l32, show (c == 127) = false by rw [beq_eq_false_iff_ne]; exact fun h => h127 (by rw [h]; rfl)]; rfl)
            clear hr h32 h127 l32 HR
            go_wp2
            exact ⟨⟨k + 1, by omega, by go_num, by show Hid _; exact hide Hr.out, trivial⟩, by simp [intOf]; omega⟩
      · obtain rfl : k = n := by omega
        have Hg := hide (show p.all good = true by have := HR.out; rwa [hn, List.take_length] at this)
        rw [Hg.out, Bool.true_and] at Hc
        have hkp : ¬ k < p.length := by omega
        clear HR hn d0 d1
        go_wp2_with fail
        refine HS.out.mono ?_
        rintro y w1 ⟨A, c, rfl, hv, hb1⟩
        have Hv := hide hv
        have Hb1 := hide hb1
        clear hv hb1 HS
        have hsl := sp_len p []
        generalize sp [] p = L at *
        obtain ⟨M, hM⟩ : ∃ M, M = L.length := ⟨_, rfl⟩
        have hM2 : M ≤ 201 := by omega
        rw [← hM]
        clear hsl
        have HM := hide hM
        clear hM
        go_wp2
        go_loopw [28] (fun i wr => ∃ j : Nat, j ≤ M ∧ i = .int .i64 j ∧ Hid ((L.take j).all part = true) ∧ w1 = wr) (fun i _ => M - (intOf i).toNat)
        case atStart => exact ⟨0, Nat.zero_le _, rfl, by show Hid _; exact hide (by simp), rfl⟩
        case round =>
          obtain ⟨j, hj, rfl, HR, rfl⟩ := hrel
          by_cases hlt : j < M
          · have hjl : j < L.length := by rw [← HM.out]; exact hlt
            obtain ⟨b, o, rfl, _, hc⟩ := Hv.out.2 (by rw [texts_len]; omega)
            have hcell := hc j _ (texts_at L j hjl)
            have hr := all_take part L j (L.getD j []) (by rw [List.getD_eq_getElem?_getD, List.getElem?_eq_getElem hjl]; rfl)
            rw [HR.out, Bool.true_and] at hr
            have Hall := hide (all_part part L (j + 1))
            generalize L.getD j [] = x at *
            clear hc
            by_cases g0 : x = []
            · subst g0
              have Hr := hide (Hall.out (by rw [hr]; exact part_no1))
              clear hr
              go_wp2
              go_ret
              exact ⟨by rw [Hc.out, Hr.out]; rfl, Hb1.out⟩
            have b0 : (x == []) = false := by simpa using g0
            have b0e : x.isEmpty = false := by simpa using g0
            by_cases g1 : x = [46]
            · subst g1
              have Hr := hide (Hall.out (by rw [hr]; exact part_no2))
              clear hr
              go_wp2
              go_ret
              exact ⟨by rw [Hc.out, Hr.out]; rfl, Hb1.out⟩
            have b1 : (x == [46]) = false := by simpa using g1
            by_cases g2 : x = [46, 46]
            · subst g2
              have Hr := hide (Hall.out (by rw [hr]; exact part_no3))
              clear hr
              go_wp2
              go_ret
              exact ⟨by rw [Hc.out, Hr.out]; rfl, Hb1.out⟩
            have b2 : (x == [46, 46]) = false := by simpa using g2
            have Hr := hide (show (L.take (j + 1)).all part = true by rw [hr]; exact part_yes g0 g1 g2)
            clear hr HR
            go_wp2
            exact ⟨⟨j + 1, by omega, by go_num, by show Hid _; exact hide Hr.out, trivial⟩, by simp [intOf]; omega⟩
          · obtain rfl : j = M := by omega
            have Hr := hide (show L.all part = true by have := HR.out; rwa [HM.out, List.take_length] at this)
            clear HR
            go_wp2
            go_ret
            exact ⟨by rw [Hc.out, Hr.out]; rfl, Hb1.out⟩
end Go.Proofs.YtahcokfoifdlmaaGreatDoor.Tr
