/-
  A path by its parts, and where a file stands among files by rising paths, on lists alone. No program is named here.
-/
import Derived.Lib.SplitLaws
import Derived.Test.YtghnieddokhagaaQTA
import Derived.BigQuiet
import Derived.Test.YtghnieddokhagaaQTE
import Derived.Test.YtghnieddokhagaaShelf
import Derived.Lib.MinMaxS
import Derived.Lib.AppendZerosOnto
namespace Go.Proofs.Ytghnieddokhagaa.Tr
open Go

/-- the parts of a path, behind the bytes of the first one -/
def sp : Bs → Bs → List Bs
  | q, [] => [q]
  | q, c :: r => if c = 47 then q :: sp [] r else sp (q ++ [c]) r
/-- bytes that a path may have -/
def good (c : UInt8) : Bool := !(decide (c < 32) || c == 127)
theorem rest_sp : ∀ (p q : Bs), rest q p = (p.all good && (sp q p).all part)
  | [], q => by simp [rest, sp]
  | c :: r, q => by
    rw [rest, sp, List.all_cons]
    by_cases h : c = 47
    · subst h
      rw [if_pos rfl, if_pos rfl, List.all_cons, rest_sp r []]
      have : good 47 = true := by decide
      rw [this]
      cases part q <;> simp
    · rw [if_neg h, if_neg h, rest_sp r (q ++ [c])]
      show (good c && _) = _
      rw [Bool.and_assoc]
theorem sp_ne (q p : Bs) : sp q p ≠ [] := by
  induction p generalizing q with
  | nil => simp [sp]
  | cons c r ih => rw [sp]; split; simp; exact ih _
theorem sp_front : ∀ (p q : Bs), sp q p = (q ++ (sp [] p).headD []) :: (sp [] p).tail
  | [], q => by simp [sp]
  | c :: r, q => by
    rw [sp, sp]
    by_cases h : c = 47
    · rw [if_pos h, if_pos h]; simp
    · rw [if_neg h, if_neg h, sp_front r (q ++ [c]), sp_front r ([] ++ [c])]; simp
theorem split_nil : Lib.split [] [47] = [[]] := by decide
theorem split_here (l : Bs) : Lib.split (47 :: l) [47] = [] :: Lib.split l [47] := by
  unfold Lib.split
  rw [Lib.count_cons_eq, Nat.add_comm, Lib.splitK]
  have h : Lib.index (47 :: l) [47] = 0 := by rw [Lib.index]; simp [List.isPrefixOf]
  rw [h, if_neg (by decide)]
  rfl
theorem split_past (c : UInt8) (l : Bs) (hc : c ≠ 47) : Lib.split (c :: l) [47] = (c :: (Lib.split l [47]).headD []) :: (Lib.split l [47]).tail := by
  have hp : ([47] : Bs).isPrefixOf (c :: l) = false := by simp [List.isPrefixOf, Ne.symm hc]
  have hix : Lib.index (c :: l) [47] = if Lib.index l [47] == -1 then -1 else Lib.index l [47] + 1 := by rw [Lib.index, hp]; simp
  unfold Lib.split
  rw [Lib.count_cons_ne c 47 l hc]
  by_cases hm : Lib.index l [47] = -1
  · rw [Lib.count_miss hm]; rfl
  · have hge := Lib.index_ge l [47]
    obtain ⟨j, hj⟩ : ∃ j : Nat, Lib.index l [47] = j := ⟨(Lib.index l [47]).toNat, by omega⟩
    have hix' : Lib.index (c :: l) [47] = ((j + 1 : Nat) : Int) := by rw [hix, if_neg (fun e => hm (beq_iff_eq.1 e)), hj]; omega
    rw [Lib.count_hit (by simp) hj, Nat.add_comm, Lib.splitK, Lib.splitK, hix', hj, if_neg (by rw [beq_iff_eq]; omega), if_neg (by rw [beq_iff_eq]; omega)]
    simp
theorem split_sp : ∀ p : Bs, Lib.split p [47] = sp [] p
  | [] => split_nil
  | c :: l => by
    rw [sp]
    by_cases h : c = 47
    · subst h; rw [if_pos rfl, split_here, split_sp l]
    · rw [if_neg h, split_past c l h, split_sp l, sp_front l ([] ++ [c])]; rfl
theorem can_sp (p : Bs) : can p = (decide (p.length ≤ 200) && (p.all good && (sp [] p).all part)) := by
  unfold can; rw [rest_sp]
theorem sp_len (p q : Bs) : (sp q p).length ≤ p.length + 1 := by
  induction p generalizing q with
  | nil => simp [sp]
  | cons c r ih =>
    rw [sp, List.length_cons]
    split
    · have := ih []; simp only [List.length_cons]; omega
    · have := ih (q ++ [c]); omega

/-- where a file with a path stands, or would stand -/
def pos : List Fl → Bs → Nat
  | [], _ => 0
  | f :: t, p => if lt f.path p then pos t p + 1 else 0
/-- is there one? -/
def hit : List Fl → Bs → Bool
  | [], _ => false
  | f :: t, p => if lt f.path p then hit t p else decide (f.path = p)
theorem pos_le : ∀ (t : List Fl) (p : Bs), pos t p ≤ t.length
  | [], _ => Nat.le_refl _
  | f :: t, p => by
    have := pos_le t p
    rw [pos, List.length_cons]
    split <;> omega
/-- what has less paths ahead of it, and behind it none, is that place -/
theorem pos_of : ∀ (t : List Fl) (p : Bs) (i : Nat), i ≤ t.length → (∀ k g, t[k]? = some g → k < i → lt g.path p = true) → (∀ g, t[i]? = some g → lt g.path p = false) → pos t p = i
  | [], _, i, hi, _, _ => by
    have : i = 0 := by simpa using hi
    subst this; rfl
  | f :: t, p, 0, _, _, h2 => by
    rw [pos, if_neg (by rw [h2 f rfl]; decide)]
  | f :: t, p, i + 1, hi, h1, h2 => by
    rw [pos, if_pos (h1 0 f rfl (by omega)), pos_of t p i (by simpa using hi) (fun k g hk hki => h1 (k + 1) g hk (by omega)) (fun g hg => h2 g hg)]
theorem hit_pos : ∀ (t : List Fl) (p : Bs), hit t p = true → pos t p < t.length
  | f :: t, p, h => by
    rw [hit] at h
    rw [pos, List.length_cons]
    split at h
    · next hl => rw [if_pos hl]; have := hit_pos t p h; omega
    · next hl => rw [if_neg hl]; omega
theorem hit_of : ∀ (t : List Fl) (p : Bs), (∀ g, t[pos t p]? = some g → hit t p = decide (g.path = p)) ∧ (t.length ≤ pos t p → hit t p = false)
  | [], _ => ⟨fun g h => by simp at h, fun _ => rfl⟩
  | f :: t, p => by
    have ih := hit_of t p
    rw [hit]
    by_cases hl : lt f.path p = true
    · have e : pos (f :: t) p = pos t p + 1 := by rw [pos, if_pos hl]
      rw [if_pos hl, e]
      exact ⟨fun g h => ih.1 g h, fun h => ih.2 (by rw [List.length_cons] at h; omega)⟩
    · have e : pos (f :: t) p = 0 := by rw [pos, if_neg hl]
      rw [if_neg hl, e]
      refine ⟨fun g h => ?_, fun h => by rw [List.length_cons] at h; omega⟩
      obtain rfl : f = g := Option.some.inj h
      rfl
/-- files by rising paths: ahead of the place all are less, behind it none -/
theorem go_lt : ∀ {q : Option Bs} {t : List Fl} {i j : Nat} {f g : Fl} (_ : go q t = true), t[i]? = some f → t[j]? = some g → i < j → lt f.path g.path = true
  | _, [], _, _, _, _, _, hf, _, _ => by simp at hf
  | q, x :: t, 0, j + 1, f, g, h, hf, hg, _ => by
    obtain rfl : x = f := Option.some.inj hf
    simp only [go, Bool.and_eq_true] at h
    exact (go_above h.2 g (List.mem_of_getElem? (l := t) hg)).1
  | q, x :: t, i + 1, j + 1, f, g, h, hf, hg, hij => by
    simp only [go, Bool.and_eq_true] at h
    exact go_lt (t := t) h.2 hf hg (by omega)
theorem go_mono {q : Option Bs} {t : List Fl} (h : go q t = true) {p : Bs} {i j : Nat} {f g : Fl} (hf : t[i]? = some f) (hg : t[j]? = some g) (hij : i ≤ j) (hl : lt g.path p = true) : lt f.path p = true := by
  rcases Nat.lt_or_eq_of_le hij with h' | h'
  · exact lt_trans (go_lt h hf hg h') hl
  · subst h'
    rw [hf] at hg
    obtain rfl := Option.some.inj hg
    exact hl
/-- a place's end -/
def upto (t : List Fl) (p : Bs) : Nat := if hit t p then pos t p + 1 else pos t p
theorem pos_upto (t : List Fl) (p : Bs) : pos t p ≤ upto t p := by unfold upto; split <;> omega
theorem upto_le (t : List Fl) (p : Bs) : upto t p ≤ t.length := by
  unfold upto
  split
  · next h => have := hit_pos t p h; omega
  · exact pos_le t p
theorem drop_at : ∀ {q : Option Bs} {t : List Fl} {p : Bs}, go q t = true → drop t p = t.take (pos t p) ++ t.drop (upto t p)
  | _, [], _, _ => rfl
  | q, f :: t, p, h => by
    have h0 := h
    simp only [go, Bool.and_eq_true] at h
    have ih := drop_at (p := p) h.2
    by_cases hl : lt f.path p = true
    · have e1 : pos (f :: t) p = pos t p + 1 := by rw [pos, if_pos hl]
      have e2 : upto (f :: t) p = upto t p + 1 := by
        unfold upto; rw [e1, show hit (f :: t) p = hit t p by rw [hit, if_pos hl]]; split <;> rfl
      rw [e1, e2, List.take_succ_cons, List.drop_succ_cons, List.cons_append, ← ih]
      unfold drop
      rw [List.filter_cons, if_pos (by simpa using lt_ne hl)]
    · have e1 : pos (f :: t) p = 0 := by rw [pos, if_neg hl]
      rw [e1, List.take_zero, List.nil_append]
      by_cases he : f.path = p
      · have e2 : upto (f :: t) p = 1 := by unfold upto; rw [e1, show hit (f :: t) p = true by rw [hit, if_neg hl]; exact decide_eq_true he]; rfl
        rw [e2]
        show drop (f :: t) p = t
        have hn : ∀ g ∈ t, g.path ≠ p := fun g hg => by
          have := (go_above h.2 g hg).1
          rw [← he]; exact (lt_ne this).symm
        conv => rhs; rw [← drop_none hn]
        unfold drop
        rw [List.filter_cons, if_neg (by simpa using he)]
      · have e2 : upto (f :: t) p = 0 := by unfold upto; rw [e1, show hit (f :: t) p = false by rw [hit, if_neg hl]; exact decide_eq_false he]; rfl
        rw [e2, List.drop_zero]
        refine drop_none fun g hg => ?_
        rcases List.mem_cons.1 hg with rfl | hg
        · exact he
        · have h1 : lt f.path g.path = true := (go_above h.2 g hg).1
          intro e
          rcases lt_tri f.path p with h2 | h2 | h2
          · exact hl h2
          · exact he h2
          · rw [e] at h1
            have := lt_trans h1 h2
            rw [lt_irr] at this; cases this
theorem hit_mem {q : Option Bs} {t : List Fl} {p : Bs} (h : go q t = true) : (drop t p).length + (if hit t p then 1 else 0) = t.length := by
  rw [drop_at h, List.length_append, List.length_take, List.length_drop]
  have h1 := pos_le t p
  have h2 := upto_le t p
  unfold upto at *
  split
  · next hh => rw [if_pos hh] at h2; omega
  · omega
theorem ins_front {f : Fl} : ∀ {a b : List Fl}, (∀ g ∈ a, lt f.path g.path = false) → (∀ g ∈ b.head?, lt f.path g.path = true) → ins f (a ++ b) = a ++ f :: b
  | [], [], _, _ => rfl
  | [], g :: b, _, h => by
    show ins f (g :: b) = _
    rw [ins, if_pos (h g rfl)]; rfl
  | g :: a, b, h1, h2 => by
    rw [List.cons_append, ins, if_neg (by rw [h1 g (by simp)]; decide), ins_front (fun x hx => h1 x (by simp [hx])) h2]; rfl
theorem pos_ahead : ∀ (t : List Fl) (p : Bs), ∀ g ∈ t.take (pos t p), lt g.path p = true
  | [], _, g, h => by simp [pos] at h
  | f :: t, p, g, h => by
    rw [pos] at h
    split at h
    · next hl =>
      rw [List.take_succ_cons] at h
      rcases List.mem_cons.1 h with rfl | h
      · exact hl
      · exact pos_ahead t p g h
    · simp at h
theorem pos_behind : ∀ {q : Option Bs} {t : List Fl} {p : Bs}, go q t = true → ∀ g ∈ t.drop (upto t p), lt p g.path = true
  | _, [], _, _, g, h => by simp at h
  | q, f :: t, p, h, g, hg => by
    have h0 := h
    simp only [go, Bool.and_eq_true] at h
    by_cases hl : lt f.path p = true
    · have e2 : upto (f :: t) p = upto t p + 1 := by
        unfold upto; rw [show pos (f :: t) p = pos t p + 1 by rw [pos, if_pos hl], show hit (f :: t) p = hit t p by rw [hit, if_pos hl]]; split <;> rfl
      rw [e2, List.drop_succ_cons] at hg
      exact pos_behind h.2 g hg
    · have e1 : pos (f :: t) p = 0 := by rw [pos, if_neg hl]
      by_cases he : f.path = p
      · have e2 : upto (f :: t) p = 1 := by unfold upto; rw [e1, show hit (f :: t) p = true by rw [hit, if_neg hl]; exact decide_eq_true he]; rfl
        rw [e2] at hg
        rw [← he]
        exact (go_above h.2 g hg).1
      · have e2 : upto (f :: t) p = 0 := by unfold upto; rw [e1, show hit (f :: t) p = false by rw [hit, if_neg hl]; exact decide_eq_false he]; rfl
        rw [e2, List.drop_zero] at hg
        have hpf : lt p f.path = true := by
          rcases lt_tri f.path p with h2 | h2 | h2
          · exact absurd h2 hl
          · exact absurd h2 he
          · exact h2
        rcases List.mem_cons.1 hg with rfl | hg
        · exact hpf
        · exact lt_trans hpf (go_above h.2 g hg).1
theorem put_at {q : Option Bs} {t : List Fl} (p x : Bs) (h : go q t = true) : ins ⟨p, x⟩ (drop t p) = t.take (pos t p) ++ ⟨p, x⟩ :: t.drop (upto t p) := by
  rw [drop_at h]
  refine ins_front (fun g hg => lt_asymm (pos_ahead t p g hg)) (fun g hg => pos_behind h g ?_)
  exact List.mem_of_mem_head? hg
theorem got_at : ∀ {q : Option Bs} {t : List Fl} {p : Bs}, go q t = true → (hit t p = false → get t p = ([], false)) ∧ (∀ g, t[pos t p]? = some g → hit t p = true → get t p = (g.text, true))
  | _, [], _, _ => ⟨fun _ => rfl, fun g h => by simp at h⟩
  | q, f :: t, p, h => by
    simp only [go, Bool.and_eq_true] at h
    have ih := got_at (p := p) h.2
    by_cases hl : lt f.path p = true
    · have e1 : pos (f :: t) p = pos t p + 1 := by rw [pos, if_pos hl]
      have e2 : hit (f :: t) p = hit t p := by rw [hit, if_pos hl]
      have e3 : get (f :: t) p = get t p := by rw [get, if_neg (lt_ne hl)]
      rw [e2, e3, e1]
      exact ⟨ih.1, fun g h' hh => ih.2 g h' hh⟩
    · have e1 : pos (f :: t) p = 0 := by rw [pos, if_neg hl]
      have e2 : hit (f :: t) p = decide (f.path = p) := by rw [hit, if_neg hl]
      rw [e2, e1, get]
      refine ⟨fun hh => ?_, fun g h' hh => ?_⟩
      · have hne : f.path ≠ p := of_decide_eq_false hh
        rw [if_neg hne]
        have hn : ∀ g ∈ t, g.path ≠ p := fun g hg => by
          have h1 : lt f.path g.path = true := (go_above h.2 g hg).1
          intro e
          rcases lt_tri f.path p with h2 | h2 | h2
          · exact hl h2
          · exact hne h2
          · rw [e] at h1
            have := lt_trans h1 h2
            rw [lt_irr] at this; cases this
        clear ih h e1 e2
        induction t with
        | nil => rfl
        | cons g t ih => rw [get, if_neg (hn g (by simp)), ih fun x hx => hn x (List.mem_cons_of_mem _ hx)]
      · obtain rfl : f = g := Option.some.inj h'
        rw [if_pos (of_decide_eq_true hh)]
end Go.Proofs.Ytghnieddokhagaa.Tr
namespace Go.Proofs.Ytghnieddokhagaa.Tr
open Go Go.RowKit Kt Lw Li Lx

/-- a library's variable is there -/
def Most (w : World) : Prop := ∃ m, w.cell? ⟨0, 0, none⟩ = some (.int .i64 m)
theorem Most.keep {w w' : World} (h : Most w) (hb : Below w.heap.size w w') : Most w' := by
  obtain ⟨m, hm⟩ := h
  exact ⟨m, agr hm hb⟩
theorem all_take {α : Type} (f : α → Bool) (l : List α) (k : Nat) (x : α) (h : l[k]? = some x) : (l.take (k + 1)).all f = ((l.take k).all f && f x) := by
  rw [List.take_add_one, h, List.all_append]
  simp
theorem all_part {α : Type} (f : α → Bool) (l : List α) (k : Nat) (h : (l.take k).all f = false) : l.all f = false := by
  cases hl : l.all f with
  | false => rfl
  | true =>
    rw [List.all_eq_true] at hl
    rw [List.all_eq_false] at h
    obtain ⟨x, hx, hf⟩ := h
    exact absurd (hl x (List.mem_of_mem_take hx)) hf
end Go.Proofs.Ytghnieddokhagaa.Tr
namespace Go.Proofs.Ytghnieddokhagaa.Tr
open Go Go.RowKit Kt Lw Li Lx

theorem can_lt {p : Bs} (h : can p = true) : lt [] p = true ∧ p.length ≤ 200 := by
  cases p with
  | nil => exact absurd h (by decide)
  | cons c r =>
    refine ⟨rfl, ?_⟩
    unfold can at h
    rw [Bool.and_eq_true, decide_eq_true_eq] at h
    exact h.1
theorem go_path {q : Option Bs} {p : Bs} {x : Bs} {t : List Fl} (h : can p = false) : go q (⟨p, x⟩ :: t) = false := by
  rw [go, h]; simp
theorem run_leq (p q : Bs) (w : World) : (binOp .leq 9 (.string ⟨p.toArray⟩) (.string ⟨q.toArray⟩)).run Try.prog w = .ok (.bool (!lt q p)) w := by
  have h : (Op.bytesLess p q || p == q) = !lt q p := by
    rcases lt_tri p q with h | h | h
    · rw [lt_asymm h, show Op.bytesLess p q = true from h]; rfl
    · subst h; rw [lt_irr]; simp
    · rw [h, show Op.bytesLess p q = false from lt_asymm h, show (p == q) = false by rw [beq_eq_false_iff_ne]; exact (lt_ne h).symm]; rfl
  rw [← h]
  clear h
  show (Op.stringOp .leq ⟨p.toArray⟩ ⟨q.toArray⟩).run Try.prog w = _
  simp only [Op.stringOp, Lib.toList_data]
  rfl
end Go.Proofs.Ytghnieddokhagaa.Tr
namespace Go.Proofs.Ytghnieddokhagaa.Tr
open Go Go.RowKit Kt Lw Li Lx

theorem cmp_lt : ∀ a b : Bs, lt a b = true → Lib.compareBytes a b = -1
  | _, [], h => by simp [lt, Op.bytesLess] at h
  | [], _ :: _, _ => rfl
  | x :: a, y :: b, h => by
    rw [lt_cons, Bool.or_eq_true, Bool.and_eq_true, decide_eq_true_iff, beq_iff_eq] at h
    rw [Lib.compareBytes]
    rcases h with h | ⟨h1, h2⟩
    · rw [if_pos h]
    · subst h1
      rw [if_neg (by rw [UInt8.lt_iff_toNat_lt]; omega), if_neg (by rw [UInt8.lt_iff_toNat_lt]; omega), cmp_lt a b h2]
theorem cmp_gt : ∀ a b : Bs, lt b a = true → Lib.compareBytes a b = 1
  | [], _, h => by simp [lt, Op.bytesLess] at h
  | _ :: _, [], _ => rfl
  | x :: a, y :: b, h => by
    rw [lt_cons, Bool.or_eq_true, Bool.and_eq_true, decide_eq_true_iff, beq_iff_eq] at h
    rw [Lib.compareBytes]
    rcases h with h | ⟨h1, h2⟩
    · rw [if_neg (by rw [UInt8.lt_iff_toNat_lt] at h ⊢; omega), if_pos h]
    · subst h1
      rw [if_neg (by rw [UInt8.lt_iff_toNat_lt]; omega), if_neg (by rw [UInt8.lt_iff_toNat_lt]; omega), cmp_gt a b h2]
theorem cmp_eq : ∀ a : Bs, Lib.compareBytes a a = 0
  | [] => rfl
  | x :: a => by
    rw [Lib.compareBytes, if_neg (by rw [UInt8.lt_iff_toNat_lt]; omega), if_neg (by rw [UInt8.lt_iff_toNat_lt]; omega), cmp_eq a]
/-- how two paths stand -/
def cmp (a b : Bs) : Int := if lt a b then -1 else if a = b then 0 else 1
theorem cmp_is (a b : Bs) : Lib.compareBytes a b = cmp a b := by
  unfold cmp
  rcases lt_tri a b with h | h | h
  · rw [if_pos h, cmp_lt a b h]
  · subst h; rw [lt_irr, if_neg (by decide), if_pos rfl, cmp_eq]
  · rw [lt_asymm h, if_neg (by decide), if_neg (fun e => lt_ne h e.symm), cmp_gt a b h]
set_option maxRecDepth 100000 in
theorem cmp_any (p x q : Bs) (w : World) :
    Calls Try.prog 44 #[.agg #[.string ⟨p.toArray⟩, .string ⟨x.toArray⟩], .string ⟨q.toArray⟩] w fun y w' => y = .returned (.int .i64 (cmp p q)) ∧ Below w.heap.size w w' := by
  have hrow := Row.fresh w tF #[.string ⟨p.toArray⟩, .string ⟨x.toArray⟩]
  have hb1 := (Below.refl w.heap.size w).alloc (Nat.le_refl _) (.cells #[.string ⟨p.toArray⟩, .string ⟨x.toArray⟩] tF)
  have HC := hide (fun w => Try.strings_Compare ⟨p.toArray⟩ ⟨q.toArray⟩ w)
  have hc : Lib.compareBytes (ByteArray.mk p.toArray).data.toList (ByteArray.mk q.toArray).data.toList = cmp p q := cmp_is p q
  rw [hc] at HC
  have c0 : (w.alloc (.cells #[.string ⟨p.toArray⟩, .string ⟨x.toArray⟩] tF)).cell? ⟨w.heap.size, 0, none⟩ = some (.string ⟨p.toArray⟩) := hrow.cell 0
  have Hb1 := hide hb1
  clear hrow hc hb1
  generalize cmp p q = z at *
  go_enter Try.func44, Try.ntmps44
  go_wp2_with fail
  refine (HC.out _).mono ?_
  rintro y w1 ⟨rfl, rfl⟩
  go_wp2
  go_ret
  exact ⟨rfl, Hb1.out⟩
/-- what the search has found so far -/
structure Seek (t : List Fl) (p : Bs) (lo hi : Nat) : Prop where
  le : lo ≤ hi
  len : hi ≤ t.length
  lo : ∀ k g, t[k]? = some g → k < lo → lt g.path p = true
  hi : ∀ k g, t[k]? = some g → hi ≤ k → lt g.path p = false
theorem Seek.start (t : List Fl) (p : Bs) : Seek t p 0 t.length :=
  ⟨Nat.zero_le _, Nat.le_refl _, fun _ _ _ h => absurd h (by omega), fun k g h h' => by have := (List.getElem?_eq_some_iff.1 h).1; omega⟩
theorem Seek.up {t : List Fl} {p : Bs} {lo hi m : Nat} {f : Fl} (h : Seek t p lo hi) {q : Option Bs} (hg : go q t = true) (hf : t[m]? = some f) (hm : m < hi) (hl : lt f.path p = true) : Seek t p (m + 1) hi :=
  ⟨by omega, h.len, fun k g hk hkm => go_mono hg hk hf (by omega) hl, h.hi⟩
theorem Seek.down {t : List Fl} {p : Bs} {lo hi m : Nat} {f : Fl} (h : Seek t p lo hi) {q : Option Bs} (hg : go q t = true) (hf : t[m]? = some f) (hm : lo ≤ m) (hh : m ≤ hi) (hl : lt f.path p = false) : Seek t p lo m :=
  ⟨hm, by have := h.len; omega, h.lo, fun k g hk hkm => by
    cases hx : lt g.path p with
    | false => rfl
    | true => have := go_mono hg hf hk hkm hx; rw [hl] at this; cases this⟩
theorem Seek.done {t : List Fl} {p : Bs} {k : Nat} (h : Seek t p k k) : pos t p = k :=
  pos_of t p k h.len (fun j g hj hjk => h.lo j g hj hjk) (fun g hg => h.hi k g hg (Nat.le_refl _))
set_option maxRecDepth 100000 in
set_option maxHeartbeats 4000000 in
theorem search_any (t : List Fl) (p : Bs) (A : Option Addr) (c : Nat) (w : World) (hs : Fls w A c t) (hn : t.length ≤ 1000000) {q : Option Bs} (hg : go q t = true) :
    Calls Try.prog 43 #[.slice A t.length c, .string ⟨p.toArray⟩, .func (.func 44) #[] #[]] w fun y w' =>
      y = .returned (.tuple #[.int .i64 (pos t p : Nat), .bool (hit t p)]) ∧ Below w.heap.size w w' := by
  have Hs := hide hs
  have Hg := hide hg
  have HH := hide (hit_of t p)
  have HC := hide (fun a x w => cmp_any a x p w)
  obtain ⟨N, hN⟩ : ∃ N, N = t.length := ⟨_, rfl⟩
  have HS := hide (Seek.start t p)
  rw [← hN] at hn HS ⊢
  have HN := hide hN
  clear hs hg hN
  go_enter Try.func43, Try.ntmps43
  go_wp2
  go_loopw [9, 10] (fun s i wr => ∃ lo hi : Nat, lo ≤ hi ∧ hi ≤ N ∧ s = .int .i64 lo ∧ i = .int .i64 hi ∧ Hid (Seek t p lo hi) ∧ Below w.heap.size w wr) (fun s i _ => (intOf i).toNat - (intOf s).toNat)
  case atStart => exact ⟨0, N, Nat.zero_le _, Nat.le_refl _, rfl, rfl, by show Hid _; exact HS, Below.refl _ _⟩
  case round =>
    obtain ⟨lo, hi, hlh, hhn, rfl, rfl, HK, hb⟩ := hrel
    have Hb := hide hb
    clear hb HS
    by_cases hlt : lo < hi
    · obtain ⟨m, hm⟩ : ∃ m, m = (lo + hi) / 2 := ⟨_, rfl⟩
      have hm1 : lo ≤ m := by omega
      have hm2 : m < hi := by omega
      have hm3 : ((lo : Int) + (hi : Int)) / 2 = (m : Int) := by omega
      obtain ⟨b, o, f, rfl, hbl, hf, hd, d0, d1⟩ := Hs.out.at (w' := wr) Hb.out (k := m) (by have := HN.out; omega)
      obtain ⟨a, x⟩ := f
      simp only at d0 d1
      have Hf := hide hf
      clear hf hd hbl hm
      have HCw := HC.out a x
      cases hl : lt a p with
      | true =>
        have HK2 := hide (HK.out.up Hg.out Hf.out hm2 hl)
        rw [show cmp a p = -1 by unfold cmp; rw [hl, if_pos rfl]] at HCw
        have Hw := hide HCw
        clear hl HK HCw
        go_wp2_with fail
        refine (Hw.out _).mono ?_
        rintro y w1 ⟨rfl, hb1⟩
        have Hb1 := hide (Hb.out.trans (hb1.mono Hb.out.size))
        clear hb1 d0 d1
        go_wp2
        exact ⟨⟨m + 1, hi, by omega, by omega, by go_num, rfl, by show Hid _; exact HK2, Hb1.out⟩, by simp [intOf]; omega⟩
      | false =>
        have HK2 := hide (HK.out.down Hg.out Hf.out hm1 (by omega) hl)
        obtain ⟨z, hz, hz2⟩ : ∃ z : Int, cmp a p = z ∧ 0 ≤ z := by
          unfold cmp; rw [hl, if_neg (by decide)]; split
          · exact ⟨_, rfl, by decide⟩
          · exact ⟨_, rfl, by decide⟩
        rw [hz] at HCw
        have Hw := hide HCw
        have hz3 : ¬ z < 0 := by omega
        have hz4 : decide (z < 0) = false := decide_eq_false hz3
        clear hl HK HCw hz
        go_wp2_with fail
        refine (Hw.out _).mono ?_
        rintro y w1 ⟨rfl, hb1⟩
        have Hb1 := hide (Hb.out.trans (hb1.mono Hb.out.size))
        clear hb1 d0 d1
        go_wp2
        exact ⟨⟨lo, m, by omega, by omega, rfl, by go_num, by show Hid _; exact HK2, Hb1.out⟩, by simp [intOf]; omega⟩
    · obtain rfl : lo = hi := by omega
      have hpos := HK.out.done
      have Hhi := hide (fun g hg => HK.out.hi lo g hg (Nat.le_refl _))
      obtain ⟨h1, h2⟩ := HH.out
      rw [hpos] at h1 h2
      have Hpos := hide hpos
      clear hpos HK
      by_cases hl : lo < N
      · obtain ⟨b, o, f, rfl, hbl, hf, hd, d0, d1⟩ := Hs.out.at (w' := wr) Hb.out (k := lo) (by have := HN.out; omega)
        have hh := h1 f hf
        have hlt2 := Hhi.out f hf
        obtain ⟨a, x⟩ := f
        simp only at d0 d1 hh hlt2
        have HCw := HC.out a x
        have dl : decide ((lo : Int) < (N : Int)) = true := decide_eq_true (by omega)
        have dl2 : decide (lo < N) = true := decide_eq_true hl
        by_cases he : a = p
        · rw [show cmp a p = 0 by unfold cmp; rw [hlt2, if_neg (by decide), if_pos he]] at HCw
          have Hh := hide (show hit t p = true by rw [hh]; exact decide_eq_true he)
          have Hw := hide HCw
          clear HCw hh hlt2 he h1 h2 hf hd hbl
          go_wp2_with fail
          refine (Hw.out _).mono ?_
          rintro y w1 ⟨rfl, hb1⟩
          have Hb1 := hide (Hb.out.trans (hb1.mono Hb.out.size))
          clear hb1 d0 d1
          go_wp2
          go_ret2
          exact ⟨by rw [Hpos.out, Hh.out]; rfl, Hb1.out⟩
        · rw [show cmp a p = 1 by unfold cmp; rw [hlt2, if_neg (by decide), if_neg he]] at HCw
          have Hh := hide (show hit t p = false by rw [hh]; exact decide_eq_false he)
          have Hw := hide HCw
          clear HCw hh hlt2 he h1 h2 hf hd hbl
          go_wp2_with fail
          refine (Hw.out _).mono ?_
          rintro y w1 ⟨rfl, hb1⟩
          have Hb1 := hide (Hb.out.trans (hb1.mono Hb.out.size))
          clear hb1 d0 d1
          go_wp2
          go_ret2
          exact ⟨by rw [Hpos.out, Hh.out]; rfl, Hb1.out⟩
      · have Hh := hide (h2 (by have := HN.out; omega))
        have dl : decide ((lo : Int) < (N : Int)) = false := decide_eq_false (by omega)
        have dl2 : decide (lo < N) = false := decide_eq_false hl
        clear h1 h2
        go_wp2
        go_ret2
        exact ⟨by rw [Hpos.out, Hh.out]; rfl, Hb.out⟩
set_option maxRecDepth 100000 in
set_option maxHeartbeats 4000000 in
theorem place_any (t : List Fl) (p : Bs) (A : Option Addr) (c : Nat) (w : World) (hs : Fls w A c t) (hn : t.length ≤ 1000000) {q : Option Bs} (hg : go q t = true) :
    Calls Try.prog 33 #[.slice A t.length c, .string ⟨p.toArray⟩] w fun y w' =>
      y = .returned (.tuple #[.int .i64 (pos t p : Nat), .int .i64 (upto t p : Nat)]) ∧ Below w.heap.size w w' := by
  have HS := hide (search_any t p A c w hs hn hg)
  have hp := pos_le t p
  obtain ⟨N, hN⟩ : ∃ N, N = t.length := ⟨_, rfl⟩
  rw [← hN] at HS hp hn ⊢
  have hu : upto t p = if hit t p then pos t p + 1 else pos t p := rfl
  cases hh : hit t p with
  | true =>
    rw [hh, if_pos rfl] at hu
    rw [hh] at HS
    have Hu := hide hu
    clear hs hN hu hh hg
    generalize upto t p = u at *
    generalize pos t p = k at *
    go_enter Try.func33, Try.ntmps33
    go_wp2_with fail
    refine HS.out.mono ?_
    rintro y w1 ⟨rfl, hb1⟩
    have Hb1 := hide hb1
    clear hb1 HS
    go_wp2
    go_ret2
    exact ⟨by rw [Hu.out]; rfl, Hb1.out⟩
  | false =>
    rw [hh, if_neg (by decide)] at hu
    rw [hh] at HS
    have Hu := hide hu
    clear hs hN hu hh hg
    generalize upto t p = u at *
    generalize pos t p = k at *
    go_enter Try.func33, Try.ntmps33
    go_wp2_with fail
    refine HS.out.mono ?_
    rintro y w1 ⟨rfl, hb1⟩
    have Hb1 := hide hb1
    clear hb1 HS
    go_wp2
    go_ret2
    exact ⟨by rw [Hu.out]; rfl, Hb1.out⟩
end Go.Proofs.Ytghnieddokhagaa.Tr
namespace Go.Proofs.Ytghnieddokhagaa.Tr
open Go Go.RowKit Kt Lw Li Lx Df

theorem flC_one (L : List Fl) : ∀ u ∈ L.flatMap flC, u.oneCell' = true := by
  intro u hu
  obtain ⟨f, hf, hu⟩ := List.mem_flatMap.1 hu
  simp only [flC, List.mem_cons, List.not_mem_nil, or_false] at hu
  rcases hu with rfl | rfl <;> rfl
set_option maxRecDepth 100000 in
/-- append(l, files..) onto a row of files of the call's own -/
theorem wp_catF {o : Oper} {a : Act} {K : Act → World → Prop} {Q : Exit → Act → World → Prop} {W : World} (s x : Operand)
    (ho : o.op = .call { callee := .builtin .append, args := #[s, x], argTypes := #[22, 22] })
    (B : Nat) (w0 : World) (v : Value) (L M : List Fl) (A : Option Addr) (c : Nat) (hs : a.eval s = v) (hx : a.eval x = .slice A M.length c)
    (hown : OwF W B v L) (hu : Fls W A c M) (hlen : L.length + M.length ≤ 1000000000) (hb : Below B w0 W) (hbase : B ≤ W.heap.size)
    (h : ∀ v' w', OwF w' B v' (L ++ M) → Below B w0 w' → W.grownBy w' v.ownBlock → K (a.put o.dst v') w') : o.wp Try.prog a W K Q := by
  obtain ⟨i0, hi0, hz0, hz1, hz2⟩ := info_parts infoFl
  cases A with
  | none =>
    have h0 : M = [] := by
      cases M with
      | nil => rfl
      | cons b r => obtain ⟨_, _, he, _⟩ := hu.2 (by simp); cases he
    subst h0
    have hrun := run_append_nothingT (P := Try.prog) (ty := o.type) Try.underlying22 hi0 hown c
    simp only [List.length_nil] at hx
    unfold Oper.wp execOp
    simp only [ho, resolve, invoke, builtin, Sem.run_bind, Sem.run_pure, Result.andThen_ok, List.map_toArray, List.map_cons, List.map_nil, hs, hx, hrun]
    exact h v W (by rw [List.append_nil]; exact hown) hb (World.grownBy.refl _ _)
  | some ad =>
    have hl2 : (M.flatMap flC).length = M.length * 2 := flat_len flC 2 flC_len M
    refine wp_append_own _ s x 22 ho B tF i0 (.agg #[.string ⟨#[]⟩, .string ⟨#[]⟩]) 2 32 Try.underlying22 hi0 hz0 hz1 hz2 rfl (by omega) v L.length (L.flatMap flC) hs hown
      ad M.length c (M.flatMap flC) hx hl2 (fun j u hj => ?_) (flC_one M) (by unfold maxLen; omega) (by omega) hbase (fun v' w' h1 h2 _ => ?_)
    · have hj2 : j < M.length * 2 := by have := (List.getElem?_eq_some_iff.1 hj).1; rwa [hl2] at this
      obtain ⟨b, k, he, _, hc⟩ := hu.2 (by omega)
      injection he with he
      subst he
      have hi : j / 2 < M.length := by omega
      have hk : j % 2 < 2 := Nat.mod_lt _ (by decide)
      have hf := flat_at flC 2 flC_len M (j / 2) (j % 2) _ (List.getElem?_eq_getElem hi) hk
      rw [show 2 * (j / 2) + j % 2 = j by omega, hj] at hf
      have := hc (j / 2) _ (List.getElem?_eq_getElem hi) (j % 2) u hf.symm
      rw [show (Addr.mk b k none).add j = ⟨b, k + 2 * (j / 2) + j % 2, none⟩ by rw [Addr.add_mid]; congr 1; omega]
      exact this
    · refine h v' w' ?_ (hb.grown h2 hbase fun k hk => (World.ownsRow.lt hown k hk).1) h2
      unfold OwF
      rw [List.flatMap_append, List.length_append]
      exact h1
theorem wpList_catF {ops : Array Oper} {rest : List Oper} {o : Oper} {a : Act} {Q : Exit → Act → World → Prop} {W : World} (hgd : o.guard = none) (s x : Operand)
    (ho : o.op = .call { callee := .builtin .append, args := #[s, x], argTypes := #[22, 22] })
    (B : Nat) (w0 : World) (v : Value) (L M : List Fl) (A : Option Addr) (c : Nat) (hs : a.eval s = v) (hx : a.eval x = .slice A M.length c)
    (hown : OwF W B v L) (hu : Fls W A c M) (hlen : L.length + M.length ≤ 1000000000) (hb : Below B w0 W) (hbase : B ≤ W.heap.size)
    (h : ∀ v' w', OwF w' B v' (L ++ M) → Below B w0 w' → W.grownBy w' v.ownBlock → wpList Try.prog ops Q rest (a.put o.dst v') w') : wpList Try.prog ops Q (o :: rest) a W :=
  wpList_plain hgd fun _ hK => wp_catF s x ho B w0 v L M A c hs hx hown hu hlen hb hbase fun v' w' h1 h2 h3 => hK _ _ (h v' w' h1 h2 h3)
/-- a slice that holds these files -/
def IsF (w : World) (v : Value) (L : List Fl) : Prop := ∃ A c, v = .slice A L.length c ∧ Fls w A c L
theorem IsF.below {w w' : World} {v : Value} {L : List Fl} (h : IsF w v L) (hb : Below w.heap.size w w') : IsF w' v L := by
  obtain ⟨A, c, rfl, hs⟩ := h
  exact ⟨A, c, rfl, hs.keep hb⟩
theorem IsF.one (w : World) (f : Fl) : IsF (w.alloc (.cells #[.string ⟨f.path.toArray⟩, .string ⟨f.text.toArray⟩] tF)) (.slice (some ⟨w.heap.size, 0, none⟩) 1 1) [f] :=
  ⟨_, _, rfl, Nat.le_refl _, fun _ => ⟨w.heap.size, 0, rfl, by simp, fun j e hj k u hk => by
    have hrow := Row.fresh w tF #[.string ⟨f.path.toArray⟩, .string ⟨f.text.toArray⟩]
    rcases j with _ | j
    · obtain rfl : f = e := Option.some.inj hj
      rw [hrow.cell]
      simp only [Nat.mul_zero, Nat.zero_add]
      exact hk
    · simp at hj⟩⟩
theorem OwF.made (w : World) (B : Nat) (E : TypeId) (hE : E = tF) (cs : Array Value) (cap : Nat) (hB : B ≤ w.heap.size) (hc : cs.size = cap * 2) (hm : cap ≤ maxLen) : OwF (w.alloc (.cells cs E)) B (.slice (some ⟨w.heap.size, 0, none⟩) 0 cap) [] := by
  subst hE
  exact World.ownsRow_made w cs cap hB hm (by omega)
theorem catF_take (ls : List (List Fl)) (k : Nat) (h : k < ls.length) : (ls.take (k + 1)).flatten = (ls.take k).flatten ++ ls.getD k [] := by
  rw [List.take_succ_eq_append_getElem h, List.flatten_append]
  simp [List.getElem?_eq_getElem h]
theorem catF_len (ls : List (List Fl)) (k : Nat) : (ls.take k).flatten.length ≤ ls.flatten.length := by
  have e : ls.flatten = (ls.take k).flatten ++ (ls.drop k).flatten := by rw [← List.flatten_append, List.take_append_drop]
  rw [e, List.length_append]
  omega
/-- a slice of files, cut -/
theorem fls_take {w : World} {A : Option Addr} {c : Nat} {L : List Fl} (h : Fls w A c L) (j : Nat) (hj : j ≤ L.length) : IsF w (.slice A j c) (L.take j) := by
  have e : (L.take j).length = j := by rw [List.length_take]; omega
  refine ⟨A, c, by rw [e], by have := h.1; omega, fun hn => ?_⟩
  obtain ⟨b, o, rfl, hlt, he⟩ := h.2 (by omega)
  refine ⟨b, o, rfl, hlt, fun k f hk => he k f ?_⟩
  have hkl := (List.getElem?_eq_some_iff.1 hk).1
  rw [← hk, List.getElem?_take, if_pos (by omega)]
theorem fls_drop {w : World} {A : Option Addr} {c : Nat} {L : List Fl} (h : Fls w A c L) (i : Nat) (hi : i ≤ L.length) : IsF w (.slice (if c = i then A else A.map (·.add (i * 2))) (L.length - i) (c - i)) (L.drop i) := by
  refine ⟨_, _, by rw [List.length_drop], by have := h.1; rw [List.length_drop]; omega, fun hn => ?_⟩
  rw [List.length_drop] at hn
  obtain ⟨b, o, rfl, hlt, he⟩ := h.2 (by omega)
  have := h.1
  rw [if_neg (by omega)]
  refine ⟨b, o + i * 2, by rw [Option.map_some, Addr.add_mid], hlt, fun k f hk => ?_⟩
  rw [List.getElem?_drop] at hk
  have := he (i + k) f hk
  rw [show o + 2 * (i + k) = o + i * 2 + 2 * k by omega] at this
  exact this
theorem run_cutF0 (w : World) (A : Option Addr) (n c j : Nat) (hA : ∀ a, A = some a → a.spot = none) (hj : j ≤ c) :
    (Instr.slice 22 (.slice A n c) none (some (.int .i64 (j : Int))) none).run Try.prog w = .ok (.slice A j c) w := by
  have hu := run_underlying Try.underlying22
  cases A with
  | none => go_simp
  | some ad =>
    obtain ⟨b, o, sp⟩ := ad
    obtain rfl : sp = none := hA _ rfl
    go_simp
theorem run_cutF1 (w : World) (A : Option Addr) (n c i : Nat) (hi : i ≤ n) (_hn : n ≤ c) :
    (Instr.slice 22 (.slice A n c) (some (.int .i64 (i : Int))) none none).run Try.prog w = .ok (.slice (if c = i then A else A.map (·.add (i * 2))) (n - i) (c - i)) w := by
  have hu := run_underlying Try.underlying22
  by_cases h : c = i
  · cases A with
    | none => go_simp
    | some ad => go_simp
  · cases A with
    | none => go_simp
    | some ad => go_simp
end Go.Proofs.Ytghnieddokhagaa.Tr
namespace Go.Proofs.Ytghnieddokhagaa.Tr
open Go Go.RowKit Kt Lw Li Lx Df

theorem run_cutF (w : World) (A : Option Addr) (n c j : Nat) (hj : j ≤ c) :
    (Instr.slice 22 (.slice A n c) none (some (.int .i64 (j : Int))) none).run Try.prog w = .ok (.slice A j c) w := by
  have hu := run_underlying Try.underlying22
  cases A with
  | none => go_simp
  | some ad =>
    have h0 : ad.add 0 = ad := rfl
    by_cases hc : c = 0
    · subst hc
      obtain rfl : j = 0 := by omega
      go_simp
    · go_simp
set_option maxRecDepth 100000 in
set_option maxHeartbeats 4000000 in
theorem tget_any (t : List Fl) (p : Bs) (A : Option Addr) (c : Nat) (w : World) (hs : Fls w A c t) (hn : t.length ≤ 1000000) {q : Option Bs} (hg : go q t = true) :
    Calls Try.prog 26 #[.slice A t.length c, .string ⟨p.toArray⟩] w fun y w' => y = .returned (.tuple #[.string ⟨(get t p).1.toArray⟩, .bool (get t p).2]) ∧ Below w.heap.size w w' := by
  have HP := hide (place_any t p A c w hs hn hg)
  obtain ⟨g1, g2⟩ := got_at (p := p) hg
  have hpos := hit_pos t p
  have Hs := hide hs
  have hu : upto t p = if hit t p then pos t p + 1 else pos t p := rfl
  obtain ⟨N, hN⟩ : ∃ N, N = t.length := ⟨_, rfl⟩
  have HN := hide hN
  rw [← hN] at HP hn hpos ⊢
  clear hs hN hg
  cases hh : hit t p with
  | true =>
    have hk := hpos hh
    have g3 := fun g hg => g2 g hg hh
    rw [hh, if_pos rfl] at hu
    rw [hu] at HP
    clear g1 g2 hpos hu hh
    generalize pos t p = k at *
    obtain ⟨b, o, f, rfl, hbl, hf, hd, _, _⟩ := Hs.out.at (w' := w) (Below.refl _ _) (k := k) (by have := HN.out; omega)
    have HG := hide (g3 f hf)
    have HD := hide (fun w' (hb : Below w.heap.size w w') => show w'.cell? ⟨b, o + k * 2 + 1, none⟩ = some (.string ⟨f.text.toArray⟩) by
      obtain ⟨b', o', f', e, _, hf', _, _, d1⟩ := Hs.out.at hb (k := k) (by have := HN.out; omega)
      injection e with e
      injection e with e1 e2 e3
      subst e1 e2
      rw [hf] at hf'
      obtain rfl := Option.some.inj hf'
      exact d1)
    obtain ⟨x, hx⟩ : ∃ x, x = f.text := ⟨_, rfl⟩
    rw [← hx] at HG HD
    have hkn : ¬ (k : Int) = ((k + 1 : Nat) : Int) := by omega
    clear g3 hf hd hx hbl
    go_enter Try.func26, Try.ntmps26
    go_wp2_with fail
    refine HP.out.mono ?_
    rintro y w1 ⟨rfl, hb1⟩
    have d1 := HD.out w1 hb1
    have Hb1 := hide hb1
    clear hb1 HP HD
    go_wp2
    go_ret2
    exact ⟨by rw [HG.out]; rfl, Hb1.out⟩
  | false =>
    have HG := hide (g1 hh)
    rw [hh, if_neg (by decide)] at hu
    rw [hu] at HP
    clear g1 g2 hpos hu hh
    generalize pos t p = k at *
    go_enter Try.func26, Try.ntmps26
    go_wp2_with fail
    refine HP.out.mono ?_
    rintro y w1 ⟨rfl, hb1⟩
    have Hb1 := hide hb1
    clear hb1 HP
    go_wp2
    go_ret2
    exact ⟨by rw [HG.out]; rfl, Hb1.out⟩
end Go.Proofs.Ytghnieddokhagaa.Tr
