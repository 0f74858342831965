/-
  A path by its parts, and where a file stands among files by rising paths, on lists alone. No program is named here.
-/
import Derived.Lib.SplitLaws
import Derived.Test.YtghnieddokhagaaDoorQTA
import Derived.BigQuiet
import Derived.Test.YtghnieddokhagaaDoorQTD
import Derived.Test.YtghnieddokhagaaDoorShelf
import Derived.Lib.MinMaxS
import Derived.Lib.AppendZerosOnto
import Derived.Lib.Bytealg
import Derived.Lib.Join
namespace Go.Proofs.YtghnieddokhagaaDoor.Tr
open Go

/-- the parts of a path, behind the bytes of the first one -/
def sp : Bs → Bs → List Bs
  | q, [] => [q]
  | q, c :: r => if c = 47 then q :: sp [] r else sp (q ++ [c]) r
/-- bytes that a path may have -/
def good (c : UInt8) : Bool := !(decide (c < 32) || c == 127)
theorem rest_sp : ∀ (p q : Bs), rest q p = (p.all good && (sp q p).all part)
  | [], q => by simp [rest, sp]
  | c :: r, q => by
    rw [rest, sp, List.all_cons]
    by_cases h : c = 47
    · subst h
      rw [if_pos rfl, if_pos rfl, List.all_cons, rest_sp r []]
      have : good 47 = true := by decide
      rw [this]
      cases part q <;> simp
    · rw [if_neg h, if_neg h, rest_sp r (q ++ [c])]
      show (good c && _) = _
      rw [Bool.and_assoc]
theorem sp_ne (q p : Bs) : sp q p ≠ [] := by
  induction p generalizing q with
  | nil => simp [sp]
  | cons c r ih => rw [sp]; split; simp; exact ih _
theorem sp_front : ∀ (p q : Bs), sp q p = (q ++ (sp [] p).headD []) :: (sp [] p).tail
  | [], q => by simp [sp]
  | c :: r, q => by
    rw [sp, sp]
    by_cases h : c = 47
    · rw [if_pos h, if_pos h]; simp
    · rw [if_neg h, if_neg h, sp_front r (q ++ [c]), sp_front r ([] ++ [c])]; simp
theorem split_nil : Lib.split [] [47] = [[]] := by decide
theorem split_here (l : Bs) : Lib.split (47 :: l) [47] = [] :: Lib.split l [47] := by
  unfold Lib.split
  rw [Lib.count_cons_eq, Nat.add_comm, Lib.splitK]
  have h : Lib.index (47 :: l) [47] = 0 := by rw [Lib.index]; simp [List.isPrefixOf]
  rw [h, if_neg (by decide)]
  rfl
theorem split_past (c : UInt8) (l : Bs) (hc : c ≠ 47) : Lib.split (c :: l) [47] = (c :: (Lib.split l [47]).headD []) :: (Lib.split l [47]).tail := by
  have hp : ([47] : Bs).isPrefixOf (c :: l) = false := by simp [List.isPrefixOf, Ne.symm hc]
  have hix : Lib.index (c :: l) [47] = if Lib.index l [47] == -1 then -1 else Lib.index l [47] + 1 := by rw [Lib.index, hp]; simp
  unfold Lib.split
  rw [Lib.count_cons_ne c 47 l hc]
  by_cases hm : Lib.index l [47] = -1
  · rw [Lib.count_miss hm]; rfl
  · have hge := Lib.index_ge l [47]
    obtain ⟨j, hj⟩ : ∃ j : Nat, Lib.index l [47] = j := ⟨(Lib.index l [47]).toNat, by omega⟩
    have hix' : Lib.index (c :: l) [47] = ((j + 1 : Nat) : Int) := by rw [hix, if_neg (fun e => hm (beq_iff_eq.1 e)), hj]; omega
    rw [Lib.count_hit (by simp) hj, Nat.add_comm, Lib.splitK, Lib.splitK, hix', hj, if_neg (by rw [beq_iff_eq]; omega), if_neg (by rw [beq_iff_eq]; omega)]
    simp
theorem split_sp : ∀ p : Bs, Lib.split p [47] = sp [] p
  | [] => split_nil
  | c :: l => by
    rw [sp]
    by_cases h : c = 47
    · subst h; rw [if_pos rfl, split_here, split_sp l]
    · rw [if_neg h, split_past c l h, split_sp l, sp_front l ([] ++ [c])]; rfl
theorem can_sp (p : Bs) : can p = (decide (p.length ≤ 200) && (p.all good && (sp [] p).all part)) := by
  unfold can; rw [rest_sp]
theorem sp_len (p q : Bs) : (sp q p).length ≤ p.length + 1 := by
  induction p generalizing q with
  | nil => simp [sp]
  | cons c r ih =>
    rw [sp, List.length_cons]
    split
    · have := ih []; simp only [List.length_cons]; omega
    · have := ih (q ++ [c]); omega

/-- where a file with a path stands, or would stand -/
def pos : List Fl → Bs → Nat
  | [], _ => 0
  | f :: t, p => if lt f.path p then pos t p + 1 else 0
/-- is there one? -/
def hit : List Fl → Bs → Bool
  | [], _ => false
  | f :: t, p => if lt f.path p then hit t p else decide (f.path = p)
theorem pos_le : ∀ (t : List Fl) (p : Bs), pos t p ≤ t.length
  | [], _ => Nat.le_refl _
  | f :: t, p => by
    have := pos_le t p
    rw [pos, List.length_cons]
    split <;> omega
/-- what has less paths ahead of it, and behind it none, is that place -/
theorem pos_of : ∀ (t : List Fl) (p : Bs) (i : Nat), i ≤ t.length → (∀ k g, t[k]? = some g → k < i → lt g.path p = true) → (∀ g, t[i]? = some g → lt g.path p = false) → pos t p = i
  | [], _, i, hi, _, _ => by
    have : i = 0 := by simpa using hi
    subst this; rfl
  | f :: t, p, 0, _, _, h2 => by
    rw [pos, if_neg (by rw [h2 f rfl]; decide)]
  | f :: t, p, i + 1, hi, h1, h2 => by
    rw [pos, if_pos (h1 0 f rfl (by omega)), pos_of t p i (by simpa using hi) (fun k g hk hki => h1 (k + 1) g hk (by omega)) (fun g hg => h2 g hg)]
theorem hit_pos : ∀ (t : List Fl) (p : Bs), hit t p = true → pos t p < t.length
  | f :: t, p, h => by
    rw [hit] at h
    rw [pos, List.length_cons]
    split at h
    · next hl => rw [if_pos hl]; have := hit_pos t p h; omega
    · next hl => rw [if_neg hl]; omega
theorem hit_of : ∀ (t : List Fl) (p : Bs), (∀ g, t[pos t p]? = some g → hit t p = decide (g.path = p)) ∧ (t.length ≤ pos t p → hit t p = false)
  | [], _ => ⟨fun g h => by simp at h, fun _ => rfl⟩
  | f :: t, p => by
    have ih := hit_of t p
    rw [hit]
    by_cases hl : lt f.path p = true
    · have e : pos (f :: t) p = pos t p + 1 := by rw [pos, if_pos hl]
      rw [if_pos hl, e]
      exact ⟨fun g h => ih.1 g h, fun h => ih.2 (by rw [List.length_cons] at h; omega)⟩
    · have e : pos (f :: t) p = 0 := by rw [pos, if_neg hl]
      rw [if_neg hl, e]
      refine ⟨fun g h => ?_, fun h => by rw [List.length_cons] at h; omega⟩
      obtain rfl : f = g := Option.some.inj h
      rfl
/-- files by rising paths: ahead of the place all are less, behind it none -/
theorem go_lt : ∀ {q : Option Bs} {t : List Fl} {i j : Nat} {f g : Fl} (_ : go q t = true), t[i]? = some f → t[j]? = some g → i < j → lt f.path g.path = true
  | _, [], _, _, _, _, _, hf, _, _ => by simp at hf
  | q, x :: t, 0, j + 1, f, g, h, hf, hg, _ => by
    obtain rfl : x = f := Option.some.inj hf
    simp only [go, Bool.and_eq_true] at h
    exact (go_above h.2 g (List.mem_of_getElem? (l := t) hg)).1
  | q, x :: t, i + 1, j + 1, f, g, h, hf, hg, hij => by
    simp only [go, Bool.and_eq_true] at h
    exact go_lt (t := t) h.2 hf hg (by omega)
theorem go_mono {q : Option Bs} {t : List Fl} (h : go q t = true) {p : Bs} {i j : Nat} {f g : Fl} (hf : t[i]? = some f) (hg : t[j]? = some g) (hij : i ≤ j) (hl : lt g.path p = true) : lt f.path p = true := by
  rcases Nat.lt_or_eq_of_le hij with h' | h'
  · exact lt_trans (go_lt h hf hg h') hl
  · subst h'
    rw [hf] at hg
    obtain rfl := Option.some.inj hg
    exact hl
/-- a place's end -/
def upto (t : List Fl) (p : Bs) : Nat := if hit t p then pos t p + 1 else pos t p
theorem pos_upto (t : List Fl) (p : Bs) : pos t p ≤ upto t p := by unfold upto; split <;> omega
theorem upto_le (t : List Fl) (p : Bs) : upto t p ≤ t.length := by
  unfold upto
  split
  · next h => have := hit_pos t p h; omega
  · exact pos_le t p
theorem drop_at : ∀ {q : Option Bs} {t : List Fl} {p : Bs}, go q t = true → drop t p = t.take (pos t p) ++ t.drop (upto t p)
  | _, [], _, _ => rfl
  | q, f :: t, p, h => by
    have h0 := h
    simp only [go, Bool.and_eq_true] at h
    have ih := drop_at (p := p) h.2
    by_cases hl : lt f.path p = true
    · have e1 : pos (f :: t) p = pos t p + 1 := by rw [pos, if_pos hl]
      have e2 : upto (f :: t) p = upto t p + 1 := by
        unfold upto; rw [e1, show hit (f :: t) p = hit t p by rw [hit, if_pos hl]]; split <;> rfl
      rw [e1, e2, List.take_succ_cons, List.drop_succ_cons, List.cons_append, ← ih]
      unfold drop
      rw [List.filter_cons, if_pos (by simpa using lt_ne hl)]
    · have e1 : pos (f :: t) p = 0 := by rw [pos, if_neg hl]
      rw [e1, List.take_zero, List.nil_append]
      by_cases he : f.path = p
      · have e2 : upto (f :: t) p = 1 := by unfold upto; rw [e1, show hit (f :: t) p = true by rw [hit, if_neg hl]; exact decide_eq_true he]; rfl
        rw [e2]
        show drop (f :: t) p = t
        have hn : ∀ g ∈ t, g.path ≠ p := fun g hg => by
          have := (go_above h.2 g hg).1
          rw [← he]; exact (lt_ne this).symm
        conv => rhs; rw [← drop_none hn]
        unfold drop
        rw [List.filter_cons, if_neg (by simpa using he)]
      · have e2 : upto (f :: t) p = 0 := by unfold upto; rw [e1, show hit (f :: t) p = false by rw [hit, if_neg hl]; exact decide_eq_false he]; rfl
        rw [e2, List.drop_zero]
        refine drop_none fun g hg => ?_
        rcases List.mem_cons.1 hg with rfl | hg
        · exact he
        · have h1 : lt f.path g.path = true := (go_above h.2 g hg).1
          intro e
          rcases lt_tri f.path p with h2 | h2 | h2
          · exact hl h2
          · exact he h2
          · rw [e] at h1
            have := lt_trans h1 h2
            rw [lt_irr] at this; cases this
theorem hit_mem {q : Option Bs} {t : List Fl} {p : Bs} (h : go q t = true) : (drop t p).length + (if hit t p then 1 else 0) = t.length := by
  rw [drop_at h, List.length_append, List.length_take, List.length_drop]
  have h1 := pos_le t p
  have h2 := upto_le t p
  unfold upto at *
  split
  · next hh => rw [if_pos hh] at h2; omega
  · omega
theorem ins_front {f : Fl} : ∀ {a b : List Fl}, (∀ g ∈ a, lt f.path g.path = false) → (∀ g ∈ b.head?, lt f.path g.path = true) → ins f (a ++ b) = a ++ f :: b
  | [], [], _, _ => rfl
  | [], g :: b, _, h => by
    show ins f (g :: b) = _
    rw [ins, if_pos (h g rfl)]; rfl
  | g :: a, b, h1, h2 => by
    rw [List.cons_append, ins, if_neg (by rw [h1 g (by simp)]; decide), ins_front (fun x hx => h1 x (by simp [hx])) h2]; rfl
theorem pos_ahead : ∀ (t : List Fl) (p : Bs), ∀ g ∈ t.take (pos t p), lt g.path p = true
  | [], _, g, h => by simp [pos] at h
  | f :: t, p, g, h => by
    rw [pos] at h
    split at h
    · next hl =>
      rw [List.take_succ_cons] at h
      rcases List.mem_cons.1 h with rfl | h
      · exact hl
      · exact pos_ahead t p g h
    · simp at h
theorem pos_behind : ∀ {q : Option Bs} {t : List Fl} {p : Bs}, go q t = true → ∀ g ∈ t.drop (upto t p), lt p g.path = true
  | _, [], _, _, g, h => by simp at h
  | q, f :: t, p, h, g, hg => by
    have h0 := h
    simp only [go, Bool.and_eq_true] at h
    by_cases hl : lt f.path p = true
    · have e2 : upto (f :: t) p = upto t p + 1 := by
        unfold upto; rw [show pos (f :: t) p = pos t p + 1 by rw [pos, if_pos hl], show hit (f :: t) p = hit t p by rw [hit, if_pos hl]]; split <;> rfl
      rw [e2, List.drop_succ_cons] at hg
      exact pos_behind h.2 g hg
    · have e1 : pos (f :: t) p = 0 := by rw [pos, if_neg hl]
      by_cases he : f.path = p
      · have e2 : upto (f :: t) p = 1 := by unfold upto; rw [e1, show hit (f :: t) p = true by rw [hit, if_neg hl]; exact decide_eq_true he]; rfl
        rw [e2] at hg
        rw [← he]
        exact (go_above h.2 g hg).1
      · have e2 : upto (f :: t) p = 0 := by unfold upto; rw [e1, show hit (f :: t) p = false by rw [hit, if_neg hl]; exact decide_eq_false he]; rfl
        rw [e2, List.drop_zero] at hg
        have hpf : lt p f.path = true := by
          rcases lt_tri f.path p with h2 | h2 | h2
          · exact absurd h2 hl
          · exact absurd h2 he
          · exact h2
        rcases List.mem_cons.1 hg with rfl | hg
        · exact hpf
        · exact lt_trans hpf (go_above h.2 g hg).1
theorem put_at {q : Option Bs} {t : List Fl} (p x : Bs) (h : go q t = true) : ins ⟨p, x⟩ (drop t p) = t.take (pos t p) ++ ⟨p, x⟩ :: t.drop (upto t p) := by
  rw [drop_at h]
  refine ins_front (fun g hg => lt_asymm (pos_ahead t p g hg)) (fun g hg => pos_behind h g ?_)
  exact List.mem_of_mem_head? hg
theorem got_at : ∀ {q : Option Bs} {t : List Fl} {p : Bs}, go q t = true → (hit t p = false → get t p = ([], false)) ∧ (∀ g, t[pos t p]? = some g → hit t p = true → get t p = (g.text, true))
  | _, [], _, _ => ⟨fun _ => rfl, fun g h => by simp at h⟩
  | q, f :: t, p, h => by
    simp only [go, Bool.and_eq_true] at h
    have ih := got_at (p := p) h.2
    by_cases hl : lt f.path p = true
    · have e1 : pos (f :: t) p = pos t p + 1 := by rw [pos, if_pos hl]
      have e2 : hit (f :: t) p = hit t p := by rw [hit, if_pos hl]
      have e3 : get (f :: t) p = get t p := by rw [get, if_neg (lt_ne hl)]
      rw [e2, e3, e1]
      exact ⟨ih.1, fun g h' hh => ih.2 g h' hh⟩
    · have e1 : pos (f :: t) p = 0 := by rw [pos, if_neg hl]
      have e2 : hit (f :: t) p = decide (f.path = p) := by rw [hit, if_neg hl]
      rw [e2, e1, get]
      refine ⟨fun hh => ?_, fun g h' hh => ?_⟩
      · have hne : f.path ≠ p := of_decide_eq_false hh
        rw [if_neg hne]
        have hn : ∀ g ∈ t, g.path ≠ p := fun g hg => by
          have h1 : lt f.path g.path = true := (go_above h.2 g hg).1
          intro e
          rcases lt_tri f.path p with h2 | h2 | h2
          · exact hl h2
          · exact hne h2
          · rw [e] at h1
            have := lt_trans h1 h2
            rw [lt_irr] at this; cases this
        clear ih h e1 e2
        induction t with
        | nil => rfl
        | cons g t ih => rw [get, if_neg (hn g (by simp)), ih fun x hx => hn x (List.mem_cons_of_mem _ hx)]
      · obtain rfl : f = g := Option.some.inj h'
        rw [if_pos (of_decide_eq_true hh)]
end Go.Proofs.YtghnieddokhagaaDoor.Tr
namespace Go.Proofs.YtghnieddokhagaaDoor.Tr
open Go Go.RowKit Kt Lw Li Lx

/-- a library's variable is there -/
def Most (w : World) : Prop := ∃ m, w.cell? ⟨0, 0, none⟩ = some (.int .i64 m)
theorem Most.keep {w w' : World} (h : Most w) (hb : Below w.heap.size w w') : Most w' := by
  obtain ⟨m, hm⟩ := h
  exact ⟨m, agr hm hb⟩
theorem all_take {α : Type} (f : α → Bool) (l : List α) (k : Nat) (x : α) (h : l[k]? = some x) : (l.take (k + 1)).all f = ((l.take k).all f && f x) := by
  rw [List.take_add_one, h, List.all_append]
  simp
theorem all_part {α : Type} (f : α → Bool) (l : List α) (k : Nat) (h : (l.take k).all f = false) : l.all f = false := by
  cases hl : l.all f with
  | false => rfl
  | true =>
    rw [List.all_eq_true] at hl
    rw [List.all_eq_false] at h
    obtain ⟨x, hx, hf⟩ := h
    exact absurd (hl x (List.mem_of_mem_take hx)) hf
set_option maxRecDepth 100000 in
theorem parts_any (p : Bs) (w : World) (hE : Most w) (hl : p.length ≤ 200) :
    Calls Tryd.prog 24 #[.string ⟨p.toArray⟩, .string ⟨#[47]⟩] w fun y w' => ∃ A c, y = .returned (.slice A (sp [] p).length c) ∧ Vs w' (fun b => b < w'.heap.size) A c (texts (sp [] p)) ∧ Below w.heap.size w w' := by
  obtain ⟨m, hm⟩ := hE
  refine (Tryd.strings_Split ⟨p.toArray⟩ ⟨#[47]⟩ m w (by show p.length < _; omega) hm (by decide)).mono ?_
  rintro y w' ⟨rfl, rfl⟩
  have hsp : (Lib.splitB ⟨#[47]⟩ 0 (Lib.countB ⟨p.toArray⟩ ⟨#[47]⟩) ⟨p.toArray⟩).map (·.data.toList) = sp [] p := by
    rw [Lib.splitB_data, ← split_sp p]; rfl
  have hcells : (Lib.splitB ⟨#[47]⟩ 0 (Lib.countB ⟨p.toArray⟩ ⟨#[47]⟩) ⟨p.toArray⟩).map Value.string = texts (sp [] p) := by
    rw [← hsp]; unfold texts; rw [List.map_map]; rfl
  have hlen : Lib.countB ⟨p.toArray⟩ ⟨#[47]⟩ + 1 = (sp [] p).length := by
    rw [← hsp, List.length_map]
    exact (Lib.splitB_all ⟨#[47]⟩ (by decide) 0 _ ⟨p.toArray⟩ rfl).symm
  rw [hcells, hlen]
  have hrow := Row.fresh w 9 (texts (sp [] p)).toArray
  refine ⟨_, _, rfl, ⟨by rw [texts_len]; exact Nat.le_refl _, fun _ => ⟨w.heap.size, 0, rfl, by simp, fun j u hj => ?_⟩⟩, (Below.refl _ w).alloc (Nat.le_refl _) _⟩
  rw [Nat.zero_add, hrow.cell]
  simpa using hj
set_option maxRecDepth 100000 in
set_option maxHeartbeats 4000000 in
theorem path_any (p : Bs) (w : World) (hE : Most w) (hl : p.length ≤ 9223372036854775807) :
    Calls Tryd.prog 16 #[.string ⟨p.toArray⟩] w fun y w' => y = .returned (.bool (can p)) ∧ Below w.heap.size w w' := by
  by_cases hlong : 200 < p.length
  · have Hc := hide (show can p = false by unfold can; rw [decide_eq_false (by omega)]; rfl)
    have d0 : decide (200 < (p.length : Int)) = true := decide_eq_true (by omega)
    have d1 : decide (200 < p.length) = true := decide_eq_true hlong
    clear hlong
    go_enter Tryd.func16, Tryd.ntmps16
    go_wp2
    go_ret
    exact ⟨by rw [Hc.out]; rfl, Below.refl _ _⟩
  · have Hc := hide (show can p = (p.all good && (sp [] p).all part) by rw [can_sp, decide_eq_true (show p.length ≤ 200 by omega), Bool.true_and])
    have d0 : decide (200 < (p.length : Int)) = false := decide_eq_false (by omega)
    have d1 : decide (200 < p.length) = false := decide_eq_false hlong
    have HS := hide (parts_any p w hE (by omega))
    obtain ⟨n, hn⟩ : ∃ n, n = p.length := ⟨_, rfl⟩
    have hn2 : n ≤ 200 := by omega
    have Hn := hide hn
    clear hl
    go_enter Tryd.func16, Tryd.ntmps16
    go_wp2
    go_loopw [11] (fun i wr => ∃ k : Nat, k ≤ n ∧ i = .int .i64 k ∧ Hid ((p.take k).all good = true) ∧ w = wr) (fun i _ => n - (intOf i).toNat)
    case atStart => exact ⟨0, Nat.zero_le _, rfl, by show Hid _; exact hide (by simp), rfl⟩
    case round =>
      obtain ⟨k, hk, rfl, HR, rfl⟩ := hrel
      rw [← hn] at d0 d1
      by_cases hlt : k < n
      · have hkl : k < p.length := by omega
        have eg := get_at9 p k hkl
        have hr := all_take good p k (p.getD k 0) (by rw [List.getD_eq_getElem?_getD, List.getElem?_eq_getElem hkl]; rfl)
        rw [HR.out, Bool.true_and] at hr
        have Hall := hide (all_part good p (k + 1))
        generalize p.getD k 0 = c at *
        by_cases h32 : c.toNat < 32
        · have c32 : decide ((c.toNat : Int) < 32) = true := decide_eq_true (by omega)
          have c32n : decide (c.toNat < 32) = true := decide_eq_true h32
          have Hr := hide (Hall.out (by rw [hr]; unfold good; rw [decide_eq_true (by rw [UInt8.lt_iff_toNat_lt]; exact h32)]; simp))
          clear hr h32
          go_wp2
          go_ret
          exact ⟨by rw [Hc.out, Hr.out]; rfl, Below.refl _ _⟩
        · have c32 : decide ((c.toNat : Int) < 32) = false := decide_eq_false (by omega)
          have c32n : decide (c.toNat < 32) = false := decide_eq_false h32
          have l32 : decide (c < 32) = false := decide_eq_false (by rw [UInt8.lt_iff_toNat_lt]; exact h32)
          by_cases h127 : c.toNat = 127
          · have hce : c = 127 := UInt8.toNat_inj.1 h127
            have c7 : ((c.toNat : Int) == 127) = true := by rw [beq_iff_eq]; omega
            have c7n : (c.toNat == 127) = true := by rw [beq_iff_eq]; exact h127
            have Hr := hide (Hall.out (by rw [hr, hce]; decide))
            clear hr h32 h127 hce l32
            go_wp2
            go_ret
            exact ⟨by rw [Hc.out, Hr.out]; rfl, Below.refl _ _⟩
          · have c7 : ((c.toNat : Int) == 127) = false := by rw [beq_eq_false_iff_ne]; omega
            have c7n : (c.toNat == 127) = false := by rw [beq_eq_false_iff_ne]; exact h127
            have Hr := hide (show (p.take (k + 1)).all good = true by
              rw [hr]; unfold good; rw [l32, show (c == 127) = false by rw [beq_eq_false_iff_ne]; exact fun h => h127 (by rw [h]; rfl)]; rfl)
            clear hr h32 h127 l32 HR
            go_wp2
            exact ⟨⟨k + 1, by omega, by go_num, by show Hid _; exact hide Hr.out, trivial⟩, by simp [intOf]; omega⟩
      · obtain rfl : k = n := by omega
        have Hg := hide (show p.all good = true by have := HR.out; rwa [hn, List.take_length] at this)
        rw [Hg.out, Bool.true_and] at Hc
        have hkp : ¬ k < p.length := by omega
        clear HR hn d0 d1
        go_wp2_with fail
        refine HS.out.mono ?_
        rintro y w1 ⟨A, c, rfl, hv, hb1⟩
        have Hv := hide hv
        have Hb1 := hide hb1
        clear hv hb1 HS
        have hsl := sp_len p []
        generalize sp [] p = L at *
        obtain ⟨M, hM⟩ : ∃ M, M = L.length := ⟨_, rfl⟩
        have hM2 : M ≤ 201 := by omega
        rw [← hM]
        clear hsl
        have HM := hide hM
        clear hM
        go_wp2
        go_loopw [28] (fun i wr => ∃ j : Nat, j ≤ M ∧ i = .int .i64 j ∧ Hid ((L.take j).all part = true) ∧ w1 = wr) (fun i _ => M - (intOf i).toNat)
        case atStart => exact ⟨0, Nat.zero_le _, rfl, by show Hid _; exact hide (by simp), rfl⟩
        case round =>
          obtain ⟨j, hj, rfl, HR, rfl⟩ := hrel
          by_cases hlt : j < M
          · have hjl : j < L.length := by rw [← HM.out]; exact hlt
            obtain ⟨b, o, rfl, _, hc⟩ := Hv.out.2 (by rw [texts_len]; omega)
            have hcell := hc j _ (texts_at L j hjl)
            have hr := all_take part L j (L.getD j []) (by rw [List.getD_eq_getElem?_getD, List.getElem?_eq_getElem hjl]; rfl)
            rw [HR.out, Bool.true_and] at hr
            have Hall := hide (all_part part L (j + 1))
            generalize L.getD j [] = x at *
            clear hc
            by_cases g0 : x = []
            · subst g0
              have Hr := hide (Hall.out (by rw [hr]; exact part_no1))
              clear hr
              go_wp2
              go_ret
              exact ⟨by rw [Hc.out, Hr.out]; rfl, Hb1.out⟩
            have b0 : (x == []) = false := by simpa using g0
            have b0e : x.isEmpty = false := by simpa using g0
            by_cases g1 : x = [46]
            · subst g1
              have Hr := hide (Hall.out (by rw [hr]; exact part_no2))
              clear hr
              go_wp2
              go_ret
              exact ⟨by rw [Hc.out, Hr.out]; rfl, Hb1.out⟩
            have b1 : (x == [46]) = false := by simpa using g1
            by_cases g2 : x = [46, 46]
            · subst g2
              have Hr := hide (Hall.out (by rw [hr]; exact part_no3))
              clear hr
              go_wp2
              go_ret
              exact ⟨by rw [Hc.out, Hr.out]; rfl, Hb1.out⟩
            have b2 : (x == [46, 46]) = false := by simpa using g2
            have Hr := hide (show (L.take (j + 1)).all part = true by rw [hr]; exact part_yes g0 g1 g2)
            clear hr HR
            go_wp2
            exact ⟨⟨j + 1, by omega, by go_num, by show Hid _; exact hide Hr.out, trivial⟩, by simp [intOf]; omega⟩
          · obtain rfl : j = M := by omega
            have Hr := hide (show L.all part = true by have := HR.out; rwa [HM.out, List.take_length] at this)
            clear HR
            go_wp2
            go_ret
            exact ⟨by rw [Hc.out, Hr.out]; rfl, Hb1.out⟩
end Go.Proofs.YtghnieddokhagaaDoor.Tr
namespace Go.Proofs.YtghnieddokhagaaDoor.Tr
open Go Go.RowKit Kt Lw Li Lx

theorem can_lt {p : Bs} (h : can p = true) : lt [] p = true ∧ p.length ≤ 200 := by
  cases p with
  | nil => exact absurd h (by decide)
  | cons c r =>
    refine ⟨rfl, ?_⟩
    unfold can at h
    rw [Bool.and_eq_true, decide_eq_true_eq] at h
    exact h.1
theorem go_path {q : Option Bs} {p : Bs} {x : Bs} {t : List Fl} (h : can p = false) : go q (⟨p, x⟩ :: t) = false := by
  rw [go, h]; simp
theorem run_leq (p q : Bs) (w : World) : (binOp .leq 9 (.string ⟨p.toArray⟩) (.string ⟨q.toArray⟩)).run Tryd.prog w = .ok (.bool (!lt q p)) w := by
  have h : (Op.bytesLess p q || p == q) = !lt q p := by
    rcases lt_tri p q with h | h | h
    · rw [lt_asymm h, show Op.bytesLess p q = true from h]; rfl
    · subst h; rw [lt_irr]; simp
    · rw [h, show Op.bytesLess p q = false from lt_asymm h, show (p == q) = false by rw [beq_eq_false_iff_ne]; exact (lt_ne h).symm]; rfl
  rw [← h]
  clear h
  show (Op.stringOp .leq ⟨p.toArray⟩ ⟨q.toArray⟩).run Tryd.prog w = _
  simp only [Op.stringOp, Lib.toList_data]
  rfl
set_option maxRecDepth 100000 in
set_option maxHeartbeats 4000000 in
theorem tright_any (t : List Fl) (A : Option Addr) (c : Nat) (w : World) (hs : Fls w A c t) (hE : Most w) (hm : ∀ f ∈ t, f.path.length ≤ 9223372036854775807) (hn : t.length ≤ 9223372036854775807) :
    Calls Tryd.prog 7 #[.slice A t.length c] w fun y w' => y = .returned (.bool (right t)) ∧ Below w.heap.size w w' := by
  have Hs := hide hs
  have Hm := hide hm
  have HE := hide hE
  obtain ⟨N, hN⟩ : ∃ N, N = t.length := ⟨_, rfl⟩
  rw [← hN] at hn ⊢
  have HN := hide hN
  clear hs hm hE
  by_cases hlong : 1000 < N
  · have HR := hide (show right t = false by unfold right; rw [← hN, decide_eq_false (show ¬ N ≤ 1000 by omega), Bool.and_false])
    have d0 : decide (1000 < (N : Int)) = true := decide_eq_true (by omega)
    have d1 : decide (1000 < N) = true := decide_eq_true hlong
    clear hlong hN
    go_enter Tryd.func7, Tryd.ntmps7
    go_wp2
    go_ret
    exact ⟨by rw [HR.out]; rfl, Below.refl _ _⟩
  have HR0 := hide (show right t = go none t by unfold right; rw [← hN, decide_eq_true (show N ≤ 1000 by omega), Bool.and_true])
  have d0 : decide (1000 < (N : Int)) = false := decide_eq_false (by omega)
  have d1 : decide (1000 < N) = false := decide_eq_false hlong
  clear hN
  go_enter Tryd.func7, Tryd.ntmps7
  go_wp2
  clear d0 d1
  go_loopw [3, 11] (fun s i wr => ∃ (k : Nat) (p0 : Bs), k ≤ N ∧ i = .int .i64 k ∧ s = .string ⟨p0.toArray⟩ ∧ Hid (go none t = go (ahead t k) (t.drop k) ∧ ∀ q, can q = true → above (ahead t k) q = lt p0 q) ∧ Below w.heap.size w wr) (fun _ i _ => N - (intOf i).toNat)
  case atStart => exact ⟨0, [], Nat.zero_le _, rfl, rfl, by show Hid _; exact hide ⟨rfl, fun q hq => (can_lt hq).1.symm⟩, Below.refl _ _⟩
  case round =>
    obtain ⟨k, p0, hk, rfl, rfl, HR, hb⟩ := hrel
    have Hb := hide hb
    clear hb
    by_cases hlt : k < N
    · obtain ⟨b, o, f, rfl, hbl, hf, hd, d0, d1⟩ := Hs.out.at (w' := wr) Hb.out (k := k) (by have := HN.out; omega)
      have hstep := go_step hf hd
      rw [← HR.out.1] at hstep
      have HP := hide (fun w (hE : Most w) => path_any f.path w hE (Hm.out f (List.mem_of_getElem? hf)))
      have Hab := hide (HR.out.2 f.path)
      have Hnx := hide (show ∀ q, above (ahead t (k + 1)) q = lt f.path q from fun q => by unfold ahead; rw [if_neg (by omega), Nat.add_sub_cancel, hf]; rfl)
      obtain ⟨p, x⟩ := f
      simp only at hstep HP Hab Hnx d0 d1
      have hrow := Row.fresh wr tF #[.string ⟨p.toArray⟩, .string ⟨x.toArray⟩]
      have hb1 := Hb.out.alloc Hb.out.size (.cells #[.string ⟨p.toArray⟩, .string ⟨x.toArray⟩] tF)
      obtain ⟨w1, hw1⟩ : ∃ w1, w1 = wr.alloc (.cells #[.string ⟨p.toArray⟩, .string ⟨x.toArray⟩] tF) := ⟨_, rfl⟩
      obtain ⟨g, hg⟩ : ∃ g, g = wr.heap.size := ⟨_, rfl⟩
      rw [← hw1] at hrow hb1
      rw [← hg] at hrow
      have c0 : w1.cell? ⟨g, 0, none⟩ = some (.string ⟨p.toArray⟩) := hrow.cell 0
      have c1 : w1.cell? ⟨g, 1, none⟩ = some (.string ⟨x.toArray⟩) := hrow.cell 1
      have HE1 := hide (HE.out.keep hb1)
      have Hb1 := hide hb1
      have W1 := hide hw1
      have G1 := hide hg
      have Hstep := hide hstep
      clear hrow hb1 hw1 hg hstep hf hd hbl HR
      go_wp2_with fail
      rw [← W1.out, ← G1.out]
      cases hc : can p with
      | false =>
        have Hr := hide (show go none t = false by rw [Hstep.out, hc]; simp)
        rw [hc] at HP
        clear hc d0 d1
        refine (HP.out _ HE1.out).mono ?_
        rintro y w2 ⟨rfl, hb2⟩
        have Hb2 := hide (Hb1.out.trans (hb2.mono Hb1.out.size))
        clear hb2
        go_wp2
        go_ret
        exact ⟨by rw [HR0.out, Hr.out]; rfl, Hb2.out⟩
      | true =>
        have hab := Hab.out hc
        have hst := Hstep.out
        rw [hc, hab, Bool.true_and] at hst
        rw [hc] at HP
        clear d0 d1 hab
        refine (HP.out _ HE1.out).mono ?_
        rintro y w2 ⟨rfl, hb2⟩
        have a0 := agr c0 hb2
        have a1 := agr c1 hb2
        have Hb2 := hide (Hb1.out.trans (hb2.mono Hb1.out.size))
        clear hb2 c0 c1 hc
        cases hl : lt p0 p with
        | false =>
          have Hr := hide (show go none t = false by rw [hst, hl]; simp)
          have hle := fun w => run_leq p p0 w
          rw [hl, Bool.not_false] at hle
          clear hst hl
          go_wp2
          go_ret
          exact ⟨by rw [HR0.out, Hr.out]; rfl, Hb2.out⟩
        | true =>
          have hle := fun w => run_leq p p0 w
          rw [hl, Bool.not_true] at hle
          rw [hl, Bool.and_true] at hst
          by_cases hx : 65536 < x.length
          · have dx : decide (65536 < (x.length : Int)) = true := decide_eq_true (by omega)
            have dx2 : decide (65536 < x.length) = true := decide_eq_true hx
            have Hr := hide (show go none t = false by rw [hst, decide_eq_false (show ¬ x.length ≤ 65536 by omega)]; rfl)
            clear hst hl hx
            go_wp2
            go_ret
            exact ⟨by rw [HR0.out, Hr.out]; rfl, Hb2.out⟩
          · have dx : decide (65536 < (x.length : Int)) = false := decide_eq_false (by omega)
            have dx2 : decide (65536 < x.length) = false := decide_eq_false hx
            have Hr := hide (show go none t = go (ahead t (k + 1)) (t.drop (k + 1)) by rw [hst, decide_eq_true (show x.length ≤ 65536 by omega), Bool.true_and])
            clear hst hl hx
            go_wp2
            exact ⟨⟨k + 1, p, by omega, by go_num, rfl, by show Hid _; exact hide ⟨Hr.out, fun q _ => Hnx.out q⟩, Hb2.out⟩, by simp [intOf]; omega⟩
    · obtain rfl : k = N := by omega
      have Hr := hide (show go none t = true by rw [HR.out.1, HN.out, List.drop_length]; rfl)
      clear HR
      go_wp2
      go_ret
      exact ⟨by rw [HR0.out, Hr.out]; rfl, Hb.out⟩
end Go.Proofs.YtghnieddokhagaaDoor.Tr
namespace Go.Proofs.YtghnieddokhagaaDoor.Tr
open Go Go.RowKit Kt Lw Li Lx

theorem cmp_lt : ∀ a b : Bs, lt a b = true → Lib.compareBytes a b = -1
  | _, [], h => by simp [lt, Op.bytesLess] at h
  | [], _ :: _, _ => rfl
  | x :: a, y :: b, h => by
    rw [lt_cons, Bool.or_eq_true, Bool.and_eq_true, decide_eq_true_iff, beq_iff_eq] at h
    rw [Lib.compareBytes]
    rcases h with h | ⟨h1, h2⟩
    · rw [if_pos h]
    · subst h1
      rw [if_neg (by rw [UInt8.lt_iff_toNat_lt]; omega), if_neg (by rw [UInt8.lt_iff_toNat_lt]; omega), cmp_lt a b h2]
theorem cmp_gt : ∀ a b : Bs, lt b a = true → Lib.compareBytes a b = 1
  | [], _, h => by simp [lt, Op.bytesLess] at h
  | _ :: _, [], _ => rfl
  | x :: a, y :: b, h => by
    rw [lt_cons, Bool.or_eq_true, Bool.and_eq_true, decide_eq_true_iff, beq_iff_eq] at h
    rw [Lib.compareBytes]
    rcases h with h | ⟨h1, h2⟩
    · rw [if_neg (by rw [UInt8.lt_iff_toNat_lt] at h ⊢; omega), if_pos h]
    · subst h1
      rw [if_neg (by rw [UInt8.lt_iff_toNat_lt]; omega), if_neg (by rw [UInt8.lt_iff_toNat_lt]; omega), cmp_gt a b h2]
theorem cmp_eq : ∀ a : Bs, Lib.compareBytes a a = 0
  | [] => rfl
  | x :: a => by
    rw [Lib.compareBytes, if_neg (by rw [UInt8.lt_iff_toNat_lt]; omega), if_neg (by rw [UInt8.lt_iff_toNat_lt]; omega), cmp_eq a]
/-- how two paths stand -/
def cmp (a b : Bs) : Int := if lt a b then -1 else if a = b then 0 else 1
theorem cmp_is (a b : Bs) : Lib.compareBytes a b = cmp a b := by
  unfold cmp
  rcases lt_tri a b with h | h | h
  · rw [if_pos h, cmp_lt a b h]
  · subst h; rw [lt_irr, if_neg (by decide), if_pos rfl, cmp_eq]
  · rw [lt_asymm h, if_neg (by decide), if_neg (fun e => lt_ne h e.symm), cmp_gt a b h]
set_option maxRecDepth 100000 in
theorem cmp_any (p x q : Bs) (w : World) :
    Calls Tryd.prog 26 #[.agg #[.string ⟨p.toArray⟩, .string ⟨x.toArray⟩], .string ⟨q.toArray⟩] w fun y w' => y = .returned (.int .i64 (cmp p q)) ∧ Below w.heap.size w w' := by
  have hrow := Row.fresh w tF #[.string ⟨p.toArray⟩, .string ⟨x.toArray⟩]
  have hb1 := (Below.refl w.heap.size w).alloc (Nat.le_refl _) (.cells #[.string ⟨p.toArray⟩, .string ⟨x.toArray⟩] tF)
  have HC := hide (fun w => Tryd.strings_Compare ⟨p.toArray⟩ ⟨q.toArray⟩ w)
  have hc : Lib.compareBytes (ByteArray.mk p.toArray).data.toList (ByteArray.mk q.toArray).data.toList = cmp p q := cmp_is p q
  rw [hc] at HC
  have c0 : (w.alloc (.cells #[.string ⟨p.toArray⟩, .string ⟨x.toArray⟩] tF)).cell? ⟨w.heap.size, 0, none⟩ = some (.string ⟨p.toArray⟩) := hrow.cell 0
  have Hb1 := hide hb1
  clear hrow hc hb1
  generalize cmp p q = z at *
  go_enter Tryd.func26, Tryd.ntmps26
  go_wp2_with fail
  refine (HC.out _).mono ?_
  rintro y w1 ⟨rfl, rfl⟩
  go_wp2
  go_ret
  exact ⟨rfl, Hb1.out⟩
/-- what the search has found so far -/
structure Seek (t : List Fl) (p : Bs) (lo hi : Nat) : Prop where
  le : lo ≤ hi
  len : hi ≤ t.length
  lo : ∀ k g, t[k]? = some g → k < lo → lt g.path p = true
  hi : ∀ k g, t[k]? = some g → hi ≤ k → lt g.path p = false
theorem Seek.start (t : List Fl) (p : Bs) : Seek t p 0 t.length :=
  ⟨Nat.zero_le _, Nat.le_refl _, fun _ _ _ h => absurd h (by omega), fun k g h h' => by have := (List.getElem?_eq_some_iff.1 h).1; omega⟩
theorem Seek.up {t : List Fl} {p : Bs} {lo hi m : Nat} {f : Fl} (h : Seek t p lo hi) {q : Option Bs} (hg : go q t = true) (hf : t[m]? = some f) (hm : m < hi) (hl : lt f.path p = true) : Seek t p (m + 1) hi :=
  ⟨by omega, h.len, fun k g hk hkm => go_mono hg hk hf (by omega) hl, h.hi⟩
theorem Seek.down {t : List Fl} {p : Bs} {lo hi m : Nat} {f : Fl} (h : Seek t p lo hi) {q : Option Bs} (hg : go q t = true) (hf : t[m]? = some f) (hm : lo ≤ m) (hh : m ≤ hi) (hl : lt f.path p = false) : Seek t p lo m :=
  ⟨hm, by have := h.len; omega, h.lo, fun k g hk hkm => by
    cases hx : lt g.path p with
    | false => rfl
    | true => have := go_mono hg hf hk hkm hx; rw [hl] at this; cases this⟩
theorem Seek.done {t : List Fl} {p : Bs} {k : Nat} (h : Seek t p k k) : pos t p = k :=
  pos_of t p k h.len (fun j g hj hjk => h.lo j g hj hjk) (fun g hg => h.hi k g hg (Nat.le_refl _))
set_option maxRecDepth 100000 in
set_option maxHeartbeats 4000000 in
theorem search_any (t : List Fl) (p : Bs) (A : Option Addr) (c : Nat) (w : World) (hs : Fls w A c t) (hn : t.length ≤ 1000000) {q : Option Bs} (hg : go q t = true) :
    Calls Tryd.prog 25 #[.slice A t.length c, .string ⟨p.toArray⟩, .func (.func 26) #[] #[]] w fun y w' =>
      y = .returned (.tuple #[.int .i64 (pos t p : Nat), .bool (hit t p)]) ∧ Below w.heap.size w w' := by
  have Hs := hide hs
  have Hg := hide hg
  have HH := hide (hit_of t p)
  have HC := hide (fun a x w => cmp_any a x p w)
  obtain ⟨N, hN⟩ : ∃ N, N = t.length := ⟨_, rfl⟩
  have HS := hide (Seek.start t p)
  rw [← hN] at hn HS ⊢
  have HN := hide hN
  clear hs hg hN
  go_enter Tryd.func25, Tryd.ntmps25
  go_wp2
  go_loopw [9, 10] (fun s i wr => ∃ lo hi : Nat, lo ≤ hi ∧ hi ≤ N ∧ s = .int .i64 lo ∧ i = .int .i64 hi ∧ Hid (Seek t p lo hi) ∧ Below w.heap.size w wr) (fun s i _ => (intOf i).toNat - (intOf s).toNat)
  case atStart => exact ⟨0, N, Nat.zero_le _, Nat.le_refl _, rfl, rfl, by show Hid _; exact HS, Below.refl _ _⟩
  case round =>
    obtain ⟨lo, hi, hlh, hhn, rfl, rfl, HK, hb⟩ := hrel
    have Hb := hide hb
    clear hb HS
    by_cases hlt : lo < hi
    · obtain ⟨m, hm⟩ : ∃ m, m = (lo + hi) / 2 := ⟨_, rfl⟩
      have hm1 : lo ≤ m := by omega
      have hm2 : m < hi := by omega
      have hm3 : ((lo : Int) + (hi : Int)) / 2 = (m : Int) := by omega
      obtain ⟨b, o, f, rfl, hbl, hf, hd, d0, d1⟩ := Hs.out.at (w' := wr) Hb.out (k := m) (by have := HN.out; omega)
      obtain ⟨a, x⟩ := f
      simp only at d0 d1
      have Hf := hide hf
      clear hf hd hbl hm
      have HCw := HC.out a x
      cases hl : lt a p with
      | true =>
        have HK2 := hide (HK.out.up Hg.out Hf.out hm2 hl)
        rw [show cmp a p = -1 by unfold cmp; rw [hl, if_pos rfl]] at HCw
        have Hw := hide HCw
        clear hl HK HCw
        go_wp2_with fail
        refine (Hw.out _).mono ?_
        rintro y w1 ⟨rfl, hb1⟩
        have Hb1 := hide (Hb.out.trans (hb1.mono Hb.out.size))
        clear hb1 d0 d1
        go_wp2
        exact ⟨⟨m + 1, hi, by omega, by omega, by go_num, rfl, by show Hid _; exact HK2, Hb1.out⟩, by simp [intOf]; omega⟩
      | false =>
        have HK2 := hide (HK.out.down Hg.out Hf.out hm1 (by omega) hl)
        obtain ⟨z, hz, hz2⟩ : ∃ z : Int, cmp a p = z ∧ 0 ≤ z := by
          unfold cmp; rw [hl, if_neg (by decide)]; split
          · exact ⟨_, rfl, by decide⟩
          · exact ⟨_, rfl, by decide⟩
        rw [hz] at HCw
        have Hw := hide HCw
        have hz3 : ¬ z < 0 := by omega
        have hz4 : decide (z < 0) = false := decide_eq_false hz3
        clear hl HK HCw hz
        go_wp2_with fail
        refine (Hw.out _).mono ?_
        rintro y w1 ⟨rfl, hb1⟩
        have Hb1 := hide (Hb.out.trans (hb1.mono Hb.out.size))
        clear hb1 d0 d1
        go_wp2
        exact ⟨⟨lo, m, by omega, by omega, rfl, by go_num, by show Hid _; exact HK2, Hb1.out⟩, by simp [intOf]; omega⟩
    · obtain rfl : lo = hi := by omega
      have hpos := HK.out.done
      have Hhi := hide (fun g hg => HK.out.hi lo g hg (Nat.le_refl _))
      obtain ⟨h1, h2⟩ := HH.out
      rw [hpos] at h1 h2
      have Hpos := hide hpos
      clear hpos HK
      by_cases hl : lo < N
      · obtain ⟨b, o, f, rfl, hbl, hf, hd, d0, d1⟩ := Hs.out.at (w' := wr) Hb.out (k := lo) (by have := HN.out; omega)
        have hh := h1 f hf
        have hlt2 := Hhi.out f hf
        obtain ⟨a, x⟩ := f
        simp only at d0 d1 hh hlt2
        have HCw := HC.out a x
        have dl : decide ((lo : Int) < (N : Int)) = true := decide_eq_true (by omega)
        have dl2 : decide (lo < N) = true := decide_eq_true hl
        by_cases he : a = p
        · rw [show cmp a p = 0 by unfold cmp; rw [hlt2, if_neg (by decide), if_pos he]] at HCw
          have Hh := hide (show hit t p = true by rw [hh]; exact decide_eq_true he)
          have Hw := hide HCw
          clear HCw hh hlt2 he h1 h2 hf hd hbl
          go_wp2_with fail
          refine (Hw.out _).mono ?_
          rintro y w1 ⟨rfl, hb1⟩
          have Hb1 := hide (Hb.out.trans (hb1.mono Hb.out.size))
          clear hb1 d0 d1
          go_wp2
          go_ret2
          exact ⟨by rw [Hpos.out, Hh.out]; rfl, Hb1.out⟩
        · rw [show cmp a p = 1 by unfold cmp; rw [hlt2, if_neg (by decide), if_neg he]] at HCw
          have Hh := hide (show hit t p = false by rw [hh]; exact decide_eq_false he)
          have Hw := hide HCw
          clear HCw hh hlt2 he h1 h2 hf hd hbl
          go_wp2_with fail
          refine (Hw.out _).mono ?_
          rintro y w1 ⟨rfl, hb1⟩
          have Hb1 := hide (Hb.out.trans (hb1.mono Hb.out.size))
          clear hb1 d0 d1
          go_wp2
          go_ret2
          exact ⟨by rw [Hpos.out, Hh.out]; rfl, Hb1.out⟩
      · have Hh := hide (h2 (by have := HN.out; omega))
        have dl : decide ((lo : Int) < (N : Int)) = false := decide_eq_false (by omega)
        have dl2 : decide (lo < N) = false := decide_eq_false hl
        clear h1 h2
        go_wp2
        go_ret2
        exact ⟨by rw [Hpos.out, Hh.out]; rfl, Hb.out⟩
set_option maxRecDepth 100000 in
set_option maxHeartbeats 4000000 in
theorem place_any (t : List Fl) (p : Bs) (A : Option Addr) (c : Nat) (w : World) (hs : Fls w A c t) (hn : t.length ≤ 1000000) {q : Option Bs} (hg : go q t = true) :
    Calls Tryd.prog 17 #[.slice A t.length c, .string ⟨p.toArray⟩] w fun y w' =>
      y = .returned (.tuple #[.int .i64 (pos t p : Nat), .int .i64 (upto t p : Nat)]) ∧ Below w.heap.size w w' := by
  have HS := hide (search_any t p A c w hs hn hg)
  have hp := pos_le t p
  obtain ⟨N, hN⟩ : ∃ N, N = t.length := ⟨_, rfl⟩
  rw [← hN] at HS hp hn ⊢
  have hu : upto t p = if hit t p then pos t p + 1 else pos t p := rfl
  cases hh : hit t p with
  | true =>
    rw [hh, if_pos rfl] at hu
    rw [hh] at HS
    have Hu := hide hu
    clear hs hN hu hh hg
    generalize upto t p = u at *
    generalize pos t p = k at *
    go_enter Tryd.func17, Tryd.ntmps17
    go_wp2_with fail
    refine HS.out.mono ?_
    rintro y w1 ⟨rfl, hb1⟩
    have Hb1 := hide hb1
    clear hb1 HS
    go_wp2
    go_ret2
    exact ⟨by rw [Hu.out]; rfl, Hb1.out⟩
  | false =>
    rw [hh, if_neg (by decide)] at hu
    rw [hh] at HS
    have Hu := hide hu
    clear hs hN hu hh hg
    generalize upto t p = u at *
    generalize pos t p = k at *
    go_enter Tryd.func17, Tryd.ntmps17
    go_wp2_with fail
    refine HS.out.mono ?_
    rintro y w1 ⟨rfl, hb1⟩
    have Hb1 := hide hb1
    clear hb1 HS
    go_wp2
    go_ret2
    exact ⟨by rw [Hu.out]; rfl, Hb1.out⟩
end Go.Proofs.YtghnieddokhagaaDoor.Tr
namespace Go.Proofs.YtghnieddokhagaaDoor.Tr
open Go Go.RowKit Kt Lw Li Lx Df

theorem flC_one (L : List Fl) : ∀ u ∈ L.flatMap flC, u.oneCell' = true := by
  intro u hu
  obtain ⟨f, hf, hu⟩ := List.mem_flatMap.1 hu
  simp only [flC, List.mem_cons, List.not_mem_nil, or_false] at hu
  rcases hu with rfl | rfl <;> rfl
set_option maxRecDepth 100000 in
/-- append(l, files..) onto a row of files of the call's own -/
theorem wp_catF {o : Oper} {a : Act} {K : Act → World → Prop} {Q : Exit → Act → World → Prop} {W : World} (s x : Operand)
    (ho : o.op = .call { callee := .builtin .append, args := #[s, x], argTypes := #[22, 22] })
    (B : Nat) (w0 : World) (v : Value) (L M : List Fl) (A : Option Addr) (c : Nat) (hs : a.eval s = v) (hx : a.eval x = .slice A M.length c)
    (hown : OwF W B v L) (hu : Fls W A c M) (hlen : L.length + M.length ≤ 1000000000) (hb : Below B w0 W) (hbase : B ≤ W.heap.size)
    (h : ∀ v' w', OwF w' B v' (L ++ M) → Below B w0 w' → W.grownBy w' v.ownBlock → K (a.put o.dst v') w') : o.wp Tryd.prog a W K Q := by
  obtain ⟨i0, hi0, hz0, hz1, hz2⟩ := info_parts infoFl
  cases A with
  | none =>
    have h0 : M = [] := by
      cases M with
      | nil => rfl
      | cons b r => obtain ⟨_, _, he, _⟩ := hu.2 (by simp); cases he
    subst h0
    have hrun := run_append_nothingT (P := Tryd.prog) (ty := o.type) Tryd.underlying22 hi0 hown c
    simp only [List.length_nil] at hx
    unfold Oper.wp execOp
    simp only [ho, resolve, invoke, builtin, Sem.run_bind, Sem.run_pure, Result.andThen_ok, List.map_toArray, List.map_cons, List.map_nil, hs, hx, hrun]
    exact h v W (by rw [List.append_nil]; exact hown) hb (World.grownBy.refl _ _)
  | some ad =>
    have hl2 : (M.flatMap flC).length = M.length * 2 := flat_len flC 2 flC_len M
    refine wp_append_own _ s x 22 ho B tF i0 (.agg #[.string ⟨#[]⟩, .string ⟨#[]⟩]) 2 32 Tryd.underlying22 hi0 hz0 hz1 hz2 rfl (by omega) v L.length (L.flatMap flC) hs hown
      ad M.length c (M.flatMap flC) hx hl2 (fun j u hj => ?_) (flC_one M) (by unfold maxLen; omega) (by omega) hbase (fun v' w' h1 h2 _ => ?_)
    · have hj2 : j < M.length * 2 := by have := (List.getElem?_eq_some_iff.1 hj).1; rwa [hl2] at this
      obtain ⟨b, k, he, _, hc⟩ := hu.2 (by omega)
      injection he with he
      subst he
      have hi : j / 2 < M.length := by omega
      have hk : j % 2 < 2 := Nat.mod_lt _ (by decide)
      have hf := flat_at flC 2 flC_len M (j / 2) (j % 2) _ (List.getElem?_eq_getElem hi) hk
      rw [show 2 * (j / 2) + j % 2 = j by omega, hj] at hf
      have := hc (j / 2) _ (List.getElem?_eq_getElem hi) (j % 2) u hf.symm
      rw [show (Addr.mk b k none).add j = ⟨b, k + 2 * (j / 2) + j % 2, none⟩ by rw [Addr.add_mid]; congr 1; omega]
      exact this
    · refine h v' w' ?_ (hb.grown h2 hbase fun k hk => (World.ownsRow.lt hown k hk).1) h2
      unfold OwF
      rw [List.flatMap_append, List.length_append]
      exact h1
theorem wpList_catF {ops : Array Oper} {rest : List Oper} {o : Oper} {a : Act} {Q : Exit → Act → World → Prop} {W : World} (hgd : o.guard = none) (s x : Operand)
    (ho : o.op = .call { callee := .builtin .append, args := #[s, x], argTypes := #[22, 22] })
    (B : Nat) (w0 : World) (v : Value) (L M : List Fl) (A : Option Addr) (c : Nat) (hs : a.eval s = v) (hx : a.eval x = .slice A M.length c)
    (hown : OwF W B v L) (hu : Fls W A c M) (hlen : L.length + M.length ≤ 1000000000) (hb : Below B w0 W) (hbase : B ≤ W.heap.size)
    (h : ∀ v' w', OwF w' B v' (L ++ M) → Below B w0 w' → W.grownBy w' v.ownBlock → wpList Tryd.prog ops Q rest (a.put o.dst v') w') : wpList Tryd.prog ops Q (o :: rest) a W :=
  wpList_plain hgd fun _ hK => wp_catF s x ho B w0 v L M A c hs hx hown hu hlen hb hbase fun v' w' h1 h2 h3 => hK _ _ (h v' w' h1 h2 h3)
/-- a slice that holds these files -/
def IsF (w : World) (v : Value) (L : List Fl) : Prop := ∃ A c, v = .slice A L.length c ∧ Fls w A c L
theorem IsF.below {w w' : World} {v : Value} {L : List Fl} (h : IsF w v L) (hb : Below w.heap.size w w') : IsF w' v L := by
  obtain ⟨A, c, rfl, hs⟩ := h
  exact ⟨A, c, rfl, hs.keep hb⟩
theorem IsF.one (w : World) (f : Fl) : IsF (w.alloc (.cells #[.string ⟨f.path.toArray⟩, .string ⟨f.text.toArray⟩] tF)) (.slice (some ⟨w.heap.size, 0, none⟩) 1 1) [f] :=
  ⟨_, _, rfl, Nat.le_refl _, fun _ => ⟨w.heap.size, 0, rfl, by simp, fun j e hj k u hk => by
    have hrow := Row.fresh w tF #[.string ⟨f.path.toArray⟩, .string ⟨f.text.toArray⟩]
    rcases j with _ | j
    · obtain rfl : f = e := Option.some.inj hj
      rw [hrow.cell]
      simp only [Nat.mul_zero, Nat.zero_add]
      exact hk
    · simp at hj⟩⟩
theorem OwF.made (w : World) (B : Nat) (E : TypeId) (hE : E = tF) (cs : Array Value) (cap : Nat) (hB : B ≤ w.heap.size) (hc : cs.size = cap * 2) (hm : cap ≤ maxLen) : OwF (w.alloc (.cells cs E)) B (.slice (some ⟨w.heap.size, 0, none⟩) 0 cap) [] := by
  subst hE
  exact World.ownsRow_made w cs cap hB hm (by omega)
theorem catF_take (ls : List (List Fl)) (k : Nat) (h : k < ls.length) : (ls.take (k + 1)).flatten = (ls.take k).flatten ++ ls.getD k [] := by
  rw [List.take_succ_eq_append_getElem h, List.flatten_append]
  simp [List.getElem?_eq_getElem h]
theorem catF_len (ls : List (List Fl)) (k : Nat) : (ls.take k).flatten.length ≤ ls.flatten.length := by
  have e : ls.flatten = (ls.take k).flatten ++ (ls.drop k).flatten := by rw [← List.flatten_append, List.take_append_drop]
  rw [e, List.length_append]
  omega
/-- a slice of files, cut -/
theorem fls_take {w : World} {A : Option Addr} {c : Nat} {L : List Fl} (h : Fls w A c L) (j : Nat) (hj : j ≤ L.length) : IsF w (.slice A j c) (L.take j) := by
  have e : (L.take j).length = j := by rw [List.length_take]; omega
  refine ⟨A, c, by rw [e], by have := h.1; omega, fun hn => ?_⟩
  obtain ⟨b, o, rfl, hlt, he⟩ := h.2 (by omega)
  refine ⟨b, o, rfl, hlt, fun k f hk => he k f ?_⟩
  have hkl := (List.getElem?_eq_some_iff.1 hk).1
  rw [← hk, List.getElem?_take, if_pos (by omega)]
theorem fls_drop {w : World} {A : Option Addr} {c : Nat} {L : List Fl} (h : Fls w A c L) (i : Nat) (hi : i ≤ L.length) : IsF w (.slice (if c = i then A else A.map (·.add (i * 2))) (L.length - i) (c - i)) (L.drop i) := by
  refine ⟨_, _, by rw [List.length_drop], by have := h.1; rw [List.length_drop]; omega, fun hn => ?_⟩
  rw [List.length_drop] at hn
  obtain ⟨b, o, rfl, hlt, he⟩ := h.2 (by omega)
  have := h.1
  rw [if_neg (by omega)]
  refine ⟨b, o + i * 2, by rw [Option.map_some, Addr.add_mid], hlt, fun k f hk => ?_⟩
  rw [List.getElem?_drop] at hk
  have := he (i + k) f hk
  rw [show o + 2 * (i + k) = o + i * 2 + 2 * k by omega] at this
  exact this
theorem run_cutF0 (w : World) (A : Option Addr) (n c j : Nat) (hA : ∀ a, A = some a → a.spot = none) (hj : j ≤ c) :
    (Instr.slice 22 (.slice A n c) none (some (.int .i64 (j : Int))) none).run Tryd.prog w = .ok (.slice A j c) w := by
  have hu := run_underlying Tryd.underlying22
  cases A with
  | none => go_simp
  | some ad =>
    obtain ⟨b, o, sp⟩ := ad
    obtain rfl : sp = none := hA _ rfl
    go_simp
theorem run_cutF1 (w : World) (A : Option Addr) (n c i : Nat) (hi : i ≤ n) (_hn : n ≤ c) :
    (Instr.slice 22 (.slice A n c) (some (.int .i64 (i : Int))) none none).run Tryd.prog w = .ok (.slice (if c = i then A else A.map (·.add (i * 2))) (n - i) (c - i)) w := by
  have hu := run_underlying Tryd.underlying22
  by_cases h : c = i
  · cases A with
    | none => go_simp
    | some ad => go_simp
  · cases A with
    | none => go_simp
    | some ad => go_simp
end Go.Proofs.YtghnieddokhagaaDoor.Tr
namespace Go.Proofs.YtghnieddokhagaaDoor.Tr
open Go Go.RowKit Kt Lw Li Lx Df

theorem run_cutF (w : World) (A : Option Addr) (n c j : Nat) (hj : j ≤ c) :
    (Instr.slice 22 (.slice A n c) none (some (.int .i64 (j : Int))) none).run Tryd.prog w = .ok (.slice A j c) w := by
  have hu := run_underlying Tryd.underlying22
  cases A with
  | none => go_simp
  | some ad =>
    have h0 : ad.add 0 = ad := rfl
    by_cases hc : c = 0
    · subst hc
      obtain rfl : j = 0 := by omega
      go_simp
    · go_simp
set_option maxRecDepth 100000 in
set_option maxHeartbeats 4000000 in
theorem tget_any (t : List Fl) (p : Bs) (A : Option Addr) (c : Nat) (w : World) (hs : Fls w A c t) (hn : t.length ≤ 1000000) {q : Option Bs} (hg : go q t = true) :
    Calls Tryd.prog 8 #[.slice A t.length c, .string ⟨p.toArray⟩] w fun y w' => y = .returned (.tuple #[.string ⟨(get t p).1.toArray⟩, .bool (get t p).2]) ∧ Below w.heap.size w w' := by
  have HP := hide (place_any t p A c w hs hn hg)
  obtain ⟨g1, g2⟩ := got_at (p := p) hg
  have hpos := hit_pos t p
  have Hs := hide hs
  have hu : upto t p = if hit t p then pos t p + 1 else pos t p := rfl
  obtain ⟨N, hN⟩ : ∃ N, N = t.length := ⟨_, rfl⟩
  have HN := hide hN
  rw [← hN] at HP hn hpos ⊢
  clear hs hN hg
  cases hh : hit t p with
  | true =>
    have hk := hpos hh
    have g3 := fun g hg => g2 g hg hh
    rw [hh, if_pos rfl] at hu
    rw [hu] at HP
    clear g1 g2 hpos hu hh
    generalize pos t p = k at *
    obtain ⟨b, o, f, rfl, hbl, hf, hd, _, _⟩ := Hs.out.at (w' := w) (Below.refl _ _) (k := k) (by have := HN.out; omega)
    have HG := hide (g3 f hf)
    have HD := hide (fun w' (hb : Below w.heap.size w w') => show w'.cell? ⟨b, o + k * 2 + 1, none⟩ = some (.string ⟨f.text.toArray⟩) by
      obtain ⟨b', o', f', e, _, hf', _, _, d1⟩ := Hs.out.at hb (k := k) (by have := HN.out; omega)
      injection e with e
      injection e with e1 e2 e3
      subst e1 e2
      rw [hf] at hf'
      obtain rfl := Option.some.inj hf'
      exact d1)
    obtain ⟨x, hx⟩ : ∃ x, x = f.text := ⟨_, rfl⟩
    rw [← hx] at HG HD
    have hkn : ¬ (k : Int) = ((k + 1 : Nat) : Int) := by omega
    clear g3 hf hd hx hbl
    go_enter Tryd.func8, Tryd.ntmps8
    go_wp2_with fail
    refine HP.out.mono ?_
    rintro y w1 ⟨rfl, hb1⟩
    have d1 := HD.out w1 hb1
    have Hb1 := hide hb1
    clear hb1 HP HD
    go_wp2
    go_ret2
    exact ⟨by rw [HG.out]; rfl, Hb1.out⟩
  | false =>
    have HG := hide (g1 hh)
    rw [hh, if_neg (by decide)] at hu
    rw [hu] at HP
    clear g1 g2 hpos hu hh
    generalize pos t p = k at *
    go_enter Tryd.func8, Tryd.ntmps8
    go_wp2_with fail
    refine HP.out.mono ?_
    rintro y w1 ⟨rfl, hb1⟩
    have Hb1 := hide hb1
    clear hb1 HP
    go_wp2
    go_ret2
    exact ⟨by rw [HG.out]; rfl, Hb1.out⟩
end Go.Proofs.YtghnieddokhagaaDoor.Tr
namespace Go.Proofs.YtghnieddokhagaaDoor.Li
open Go

/-- how many bytes the first line has -/
def fst : List UInt8 → Nat
  | [] => 0
  | b :: r => if b = 10 then 1 else fst r + 1
/-- the lines -/
def lns : List UInt8 → List (List UInt8)
  | [] => []
  | b :: r => if b = 10 then [b] :: lns r else match lns r with
    | [] => [[b]]
    | h :: t => (b :: h) :: t
def closed (s : List UInt8) : Bool := s.getLast?.getD 10 == 10
def binary (s : List UInt8) : Bool := s.contains 0
/-- is line i of l one line, closed if it isn't the last one? -/
def okAt (l : List (List UInt8)) (i : Nat) : Bool := (lns (l.getD i [])).length == 1 && (!decide (i + 1 < l.length) || closed (l.getD i []))
def right (l : List (List UInt8)) : Bool := (List.range l.length).all (okAt l)

theorem fst_le : ∀ s : List UInt8, fst s ≤ s.length
  | [] => Nat.le_refl _
  | b :: r => by have := fst_le r; unfold fst; split <;> simp <;> omega
theorem fst_pos {s : List UInt8} (h : s ≠ []) : 0 < fst s := by
  cases s with
  | nil => exact absurd rfl h
  | cons b r => unfold fst; split <;> omega
theorem fst_index : ∀ s : List UInt8, (fst s : Int) = if 0 ≤ Lib.indexByte s 10 then Lib.indexByte s 10 + 1 else (s.length : Int)
  | [] => by simp [fst, Lib.indexByte]
  | b :: r => by
    have ih := fst_index r
    have hge := Lib.indexByte_ge r 10
    unfold fst Lib.indexByte
    by_cases hb : b = 10
    · simp [hb]
    · have hb' : (b == 10) = false := by simpa using hb
      simp only [hb, hb', if_false, Bool.false_eq_true]
      by_cases hm : Lib.indexByte r 10 = -1
      · simp [hm] at ih ⊢; omega
      · have hm' : (Lib.indexByte r 10 == -1) = false := by simpa using hm
        simp only [hm', Bool.false_eq_true, if_false]
        have h0 : 0 ≤ Lib.indexByte r 10 := by omega
        rw [if_pos h0] at ih
        rw [if_pos (by omega)]
        push_cast
        omega

theorem lns_cons (b : UInt8) (r : List UInt8) : lns (b :: r) = if b = 10 then [b] :: lns r else match lns r with
    | [] => [[b]]
    | h :: t => (b :: h) :: t := rfl
theorem fst_cons (b : UInt8) (r : List UInt8) : fst (b :: r) = if b = 10 then 1 else fst r + 1 := rfl
theorem lns_cut : ∀ {s : List UInt8}, s ≠ [] → lns s = s.take (fst s) :: lns (s.drop (fst s))
  | [], h => absurd rfl h
  | b :: r, _ => by
    rw [lns_cons, fst_cons]
    by_cases hb : b = 10
    · simp [hb]
    · simp only [hb, if_false, List.take_succ_cons, List.drop_succ_cons]
      by_cases hr : r = []
      · subst hr; rfl
      · rw [lns_cut hr]
theorem lns_nil : lns [] = [] := rfl
theorem lns_ne {s : List UInt8} (h : s ≠ []) : lns s ≠ [] := by rw [lns_cut h]; simp
theorem lns_flat : ∀ s : List UInt8, (lns s).flatten = s
  | [] => rfl
  | b :: r => by
    have ih := lns_flat r
    unfold lns
    by_cases hb : b = 10
    · simp [hb, ih]
    · simp only [hb, if_false]
      cases hl : lns r with
      | nil => rw [hl] at ih; simp at ih; simp [← ih]
      | cons h t => rw [hl] at ih; simp at ih ⊢; exact ih
theorem lns_len_le : ∀ s : List UInt8, (lns s).length ≤ s.length
  | [] => Nat.le_refl _
  | b :: r => by
    have ih := lns_len_le r
    unfold lns
    by_cases hb : b = 10
    · simp [hb]; exact ih
    · simp only [hb, if_false]
      cases hl : lns r with
      | nil => simp
      | cons h t => rw [hl] at ih; simp at ih ⊢; omega
/-- a line's length is bounded by the text's -/
theorem lns_mem_le {s x : List UInt8} (h : x ∈ lns s) : x.length ≤ s.length := by
  have := lns_flat s
  rw [← this]
  exact List.Sublist.length_le (List.sublist_flatten_of_mem h)

/-- the line that a byte comes to, from behind -/
theorem lns_snoc_open : ∀ (p : List UInt8) (b : UInt8), closed p = false → ∃ q x, lns p = q ++ [x] ∧ lns (p ++ [b]) = q ++ [x ++ [b]]
  | [], _, h => by simp [closed] at h
  | c :: r, b, h => by
    by_cases hr : r = []
    · subst hr
      have hc : c ≠ 10 := by simpa [closed] using h
      exact ⟨[], [c], by simp [lns, hc], by by_cases hb : b = 10 <;> simp [lns, hc, hb]⟩
    · have h' : closed r = false := by simpa [closed, List.getLast?_cons_of_ne_nil, List.getLast?_cons, hr, List.getLast?_eq_some_getLast hr] using h
      obtain ⟨q, x, e1, e2⟩ := lns_snoc_open r b h'
      by_cases hc : c = 10
      · exact ⟨[c] :: q, x, by simp [lns, hc, e1], by simp [lns, hc, e2]⟩
      · cases q with
        | nil => exact ⟨[], c :: x, by simp [lns, hc, e1], by simp [lns, hc, e2]⟩
        | cons y q => exact ⟨(c :: y) :: q, x, by simp [lns, hc, e1], by simp [lns, hc, e2]⟩
theorem closed_cons {c : UInt8} {r : List UInt8} (hr : r ≠ []) : closed (c :: r) = closed r := by
  simp [closed, List.getLast?_cons, List.getLast?_eq_some_getLast hr]
theorem closed_nil : closed [] = true := rfl
theorem closed_snoc (p : List UInt8) (b : UInt8) : closed (p ++ [b]) = (b == 10) := by simp [closed]
theorem lns_append : ∀ (p t : List UInt8), closed p = true → lns (p ++ t) = lns p ++ lns t
  | [], _, _ => rfl
  | c :: r, t, h => by
    by_cases hr : r = []
    · subst hr
      have hc : c = 10 := by simpa [closed] using h
      simp [lns, hc]
    · rw [closed_cons hr] at h
      have ih := lns_append r t h
      by_cases hc : c = 10
      · simp [lns, hc, ih]
      · have hl := lns_ne hr
        cases hq : lns r with
        | nil => exact absurd hq hl
        | cons y q => simp [lns, hc, ih, hq]
theorem lns_append_open (p t : List UInt8) (h : closed p = false) : (lns (p ++ t)).length = (lns p).length + (lns t).length - (if t = [] then 0 else 1) := by
  induction p with
  | nil => simp [closed] at h
  | cons c r ih =>
    by_cases hr : r = []
    · subst hr
      have hc : c ≠ 10 := by simpa [closed] using h
      by_cases ht : t = []
      · subst ht; simp [lns, hc]
      · have := lns_ne ht
        cases hq : lns t with
        | nil => exact absurd hq this
        | cons y q => simp [lns, hc, hq, ht]
    · rw [closed_cons hr] at h
      have ih := ih h
      have hl := lns_ne hr
      have hl' : lns (r ++ t) ≠ [] := lns_ne (by simp [hr])
      by_cases hc : c = 10
      · simp [lns, hc]
        rw [ih]
        by_cases ht : t = []
        · simp [ht, lns]
        · have : 0 < (lns t).length := List.length_pos_iff.2 (lns_ne ht)
          simp [ht]; omega
      · cases hq : lns r with
        | nil => exact absurd hq hl
        | cons y q =>
          cases hq' : lns (r ++ t) with
          | nil => exact absurd hq' hl'
          | cons y' q' => rw [hq, hq'] at ih; simp [lns, hc, hq, hq'] at ih ⊢; exact ih
/-- how many: the bytes 10, and one more, if the last line is open -/
theorem lns_count : ∀ s : List UInt8, (lns s).length = s.count 10 + (if closed s then 0 else 1)
  | [] => by simp [lns, closed]
  | b :: r => by
    have ih := lns_count r
    by_cases hr : r = []
    · subst hr
      by_cases hb : b = 10 <;> simp [lns, closed, hb]
    · rw [closed_cons hr]
      by_cases hb : b = 10
      · simp [lns, hb, ih]; omega
      · have hl := lns_ne hr
        cases hq : lns r with
        | nil => exact absurd hq hl
        | cons y q => rw [hq] at ih; simp [lns, hb, hq] at ih ⊢; exact ih
theorem lns_each_ne (s : List UInt8) : ∀ x ∈ lns s, x ≠ [] := by
  induction s with
  | nil => simp [lns]
  | cons b r ih =>
    unfold lns
    by_cases hb : b = 10
    · simp [hb]; exact ih
    · simp only [hb, if_false]
      cases hl : lns r with
      | nil => simp
      | cons h t => rw [hl] at ih; simp at ih ⊢; exact ih.2
/-- one line alone -/
theorem one_iff : ∀ x : List UInt8, (lns x).length = 1 ↔ lns x = [x] := by
  intro x
  constructor
  · intro h
    obtain ⟨y, hy⟩ := List.length_eq_one_iff.1 h
    have := lns_flat x
    rw [hy] at this
    simp at this
    rw [hy, this]
  · intro h; rw [h]; rfl
theorem one_iff' (x : List UInt8) : (lns x).length = 1 ↔ x ≠ [] ∧ 10 ∉ x.dropLast := by
  induction x with
  | nil => simp [lns]
  | cons b r ih =>
    by_cases hr : r = []
    · subst hr
      by_cases hb : b = 10 <;> simp [lns, hb]
    · have hl := lns_ne hr
      rw [List.dropLast_cons_of_ne_nil hr]
      by_cases hb : b = 10
      · have : 0 < (lns r).length := List.length_pos_iff.2 hl
        simp [lns, hb]
        exact hl
      · cases hq : lns r with
        | nil => exact absurd hq hl
        | cons y q =>
          rw [hq] at ih
          simp [lns, hb, hq, hr] at ih ⊢
          rw [ih]
          simp [Ne.symm hb]
/-- each line of a text is one, closed if it isn't the last one -/
theorem lns_right : ∀ s : List UInt8, ∀ (q : List (List UInt8)) (x : List UInt8) (t : List (List UInt8)), lns s = q ++ x :: t → lns x = [x] ∧ (t ≠ [] → closed x = true)
  | [], q, x, t, h => by simp [lns] at h
  | b :: r, q, x, t, h => by
    have ih := lns_right r
    by_cases hb : b = 10
    · simp only [lns, hb, if_true] at h
      cases q with
      | nil =>
        simp at h
        obtain ⟨rfl, rfl⟩ := h
        exact ⟨by simp [lns], fun _ => by simp [closed]⟩
      | cons y q =>
        simp at h
        exact ih q x t h.2
    · simp only [lns, hb, if_false] at h
      cases hl : lns r with
      | nil =>
        rw [hl] at h
        cases q with
        | nil => simp at h; obtain ⟨rfl, rfl⟩ := h; exact ⟨by simp [lns, hb], fun h => absurd rfl h⟩
        | cons y q => simp at h
      | cons y u =>
        rw [hl] at h
        cases q with
        | nil =>
          simp at h
          obtain ⟨rfl, rfl⟩ := h
          obtain ⟨e1, e2⟩ := ih [] y u (by rw [hl]; rfl)
          have hy : y ≠ [] := lns_each_ne r y (by rw [hl]; simp)
          exact ⟨by simp [lns, hb, e1], fun hu => by rw [closed_cons hy]; exact e2 hu⟩
        | cons z q =>
          simp at h
          exact ih (y :: q) x t (by rw [hl, h.2]; rfl)
theorem right_lns (s : List UInt8) : right (lns s) = true := by
  unfold right
  rw [List.all_eq_true]
  intro i hi
  have hi := List.mem_range.1 hi
  have e : lns s = (lns s).take i ++ (lns s)[i] :: (lns s).drop (i + 1) := by
    rw [← List.drop_eq_getElem_cons hi, List.take_append_drop]
  obtain ⟨e1, e2⟩ := lns_right s _ _ _ e
  unfold okAt
  have eg : (lns s).getD i [] = (lns s)[i] := by simp [List.getD_eq_getElem?_getD, hi]
  rw [eg, e1]
  by_cases hl : i + 1 < (lns s).length
  · have hne : (lns s).drop (i + 1) ≠ [] := by
      intro h
      have := congrArg List.length h
      simp at this
      omega
    simp [e2 hne]
  · simp [hl]
theorem right_cons (x : List UInt8) (t : List (List UInt8)) : right (x :: t) = ((lns x).length == 1 && (t.isEmpty || closed x) && right t) := by
  unfold right
  rw [List.length_cons, List.range_succ_eq_map, List.all_cons, List.all_map]
  have e0 : okAt (x :: t) 0 = ((lns x).length == 1 && (t.isEmpty || closed x)) := by
    unfold okAt
    cases t <;> simp
  have e1 : (okAt (x :: t) ∘ Nat.succ) = okAt t := by
    funext i
    simp [okAt]
  rw [e0, e1]
/-- right lines, joined, are split; lines that come of a text are right -/
theorem right_iff (l : List (List UInt8)) : right l = decide (lns l.flatten = l) := by
  by_cases h : lns l.flatten = l
  · rw [decide_eq_true h, ← h]; exact right_lns _
  · rw [decide_eq_false h]
    rcases Bool.eq_false_or_eq_true (right l) with hr | hr
    · refine absurd ?_ h
      clear h
      induction l with
      | nil => rfl
      | cons x t ih =>
        rw [right_cons] at hr
        simp only [Bool.and_eq_true, beq_iff_eq, Bool.or_eq_true, List.isEmpty_iff] at hr
        have hx := (one_iff x).1 hr.1.1
        rcases hr.1.2 with ht | hc
        · subst ht; simp [hx]
        · rw [List.flatten_cons, lns_append _ _ hc, hx, ih hr.2]; rfl
    · exact hr
theorem binary_append (s t : List UInt8) : binary (s ++ t) = (binary s || binary t) := by simp [binary]
end Go.Proofs.YtghnieddokhagaaDoor.Li
