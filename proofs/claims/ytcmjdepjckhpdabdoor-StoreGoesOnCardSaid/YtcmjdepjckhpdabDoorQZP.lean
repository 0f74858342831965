/-
  What a disk's records are told as, one by one, and what is made of them, on lists alone. No program is named here.
-/
import Derived.Test.YtcmjdepjckhpdabDoorQZB
import Derived.MapKept
import Derived.RangeFuncRecord
import Derived.Carry
import Derived.Test.YtcmjdepjckhpdabDoorQWG
import Derived.BigQuiet
import Derived.Deep.AppendLies
import Derived.Test.YtcmjdepjckhpdabDoorQRegD
import Derived.Lib.AppendStr
import Derived.Test.YtcmjdepjckhpdabDoorWD
import Derived.Test.YtcmjdepjckhpdabDoorQDgE
namespace Go.Proofs.YtcmjdepjckhpdabDoor.So
open Go Wr Sha

/-- a number has ten bytes at most -/
theorem numOf_ten (bs : Bs) : numOf (bs.take 10) = numOf bs := by
  by_cases h : (numOf (bs.take 10)).2.2 = 2
  · have h2 : lead (bs.take 10) = (bs.take 10).length ∧ lead (bs.take 10) < 10 := by
      unfold numOf at h
      split at h
      · cases h
      · next h1 =>
        split at h
        · next h2 => exact ⟨h2, by omega⟩
        · split at h <;> cases h
    rw [List.length_take] at h2
    rw [List.take_of_length_le (by omega)]
  · have := numOf_more (bs.take 10) (bs.drop 10) h
    rw [List.take_append_drop] at this
    exact this.symm
/-- a record that was told: what it is, and where its body lies -/
structure Rx where
  k : Rd
  A : Option Addr
  c : Nat
def Rx.body (x : Rx) : Bs := match x.k with | .got b _ => b | _ => []
def Rx.size (x : Rx) : Nat := match x.k with | .got _ k => k | _ => 0
def Rx.err (x : Rx) : Nat := match x.k with | .got _ _ => 0 | .torn => 2 | .bad e => e
def Rx.yes (x : Rx) : Bool := match x.k with | .got _ _ => true | _ => false
theorem rd_bad {bs : Bs} {e : Nat} (h : rdOne bs = .bad e) : e = 3 ∨ e = 4 ∨ e = 12 := by
  unfold rdOne at h
  split at h
  · cases h
  · next h1 =>
    split at h
    · next h2 =>
      injection h with h
      obtain ⟨_, _, h4⟩ := numOf_fail bs (numOf bs).1 (numOf bs).2.1 (numOf bs).2.2 rfl h2
      omega
    · split at h
      · injection h with h; omega
      · split at h
        · cases h
        · split at h
          · cases h
          · injection h with h; omega
def sizes : List Rx → Nat
  | [] => 0
  | x :: r => x.size + sizes r
theorem sizes_snoc (l : List Rx) (x : Rx) : sizes (l ++ [x]) = sizes l + x.size := by
  induction l with
  | nil => simp [sizes]
  | cons y r ih => simp only [List.cons_append, sizes, ih]; omega
abbrev bodies (l : List Rx) : List Bs := l.map Rx.body
/-- the objects so far, of those that were told -/
structure Gone (bs : Bs) (pre : List Rx) : Prop where
  op : op [] bs 0 = So.op (bodies pre) (bs.drop (sizes pre)) (sizes pre)
  le : sizes pre ≤ bs.length
  once : ((bodies pre).map sha).Nodup
  many : 5 * pre.length ≤ sizes pre
  all : ∀ x ∈ pre, x.yes = true
theorem Gone.nil (bs : Bs) : Gone bs [] := ⟨rfl, Nat.zero_le _, by simp, Nat.le_refl _, fun x h => by cases h⟩
theorem drop_ne {bs : Bs} {n : Nat} (h : n < bs.length) : bs.drop n ≠ [] := fun e => by
  have := congrArg List.length e
  rw [List.length_drop, List.length_nil] at this
  omega
theorem Gone.more {bs b : Bs} {k : Nat} {A : Option Addr} {c : Nat} {pre : List Rx} (h : Gone bs pre) (hl : sizes pre < bs.length) (hr : rdOne (bs.drop (sizes pre)) = .got b k) (hm : ¬ sha b ∈ (bodies pre).map sha) : Gone bs (pre ++ [⟨.got b k, A, c⟩]) := by
  obtain ⟨q1, q2, _⟩ := got_size hr
  rw [List.length_drop] at q2
  have e1 : bodies (pre ++ [⟨.got b k, A, c⟩]) = bodies pre ++ [b] := by simp [bodies, Rx.body]
  have e2 : sizes (pre ++ [⟨.got b k, A, c⟩]) = sizes pre + k := by rw [sizes_snoc]; rfl
  refine ⟨?_, by rw [e2]; omega, ?_, ?_, ?_⟩
  · rw [h.op, op_got (drop_ne hl) hr hm, e1, e2, List.drop_drop]
  · rw [e1, List.map_append, List.map_cons, List.map_nil]
    refine List.nodup_append.2 ⟨h.once, by simp, fun c hc d hd e => hm ?_⟩
    rw [List.mem_singleton.1 hd] at e
    rw [← e]; exact hc
  · rw [e2, List.length_append, List.length_cons, List.length_nil]
    have := h.many
    omega
  · intro x hx
    rcases List.mem_append.1 hx with hx | hx
    · exact h.all x hx
    · rw [List.mem_singleton.1 hx]; rfl
/-- what is made of bytes: how many of them are objects, why it ended, the objects -/
def fillR (bs : Bs) (size e : Nat) (L : List Bs) : Prop :=
  (e = 0 ∧ size = bs.length ∨ e = 2 ∧ size ≤ bs.length) ∧ op [] bs 0 = (0, L, size) ∨ e ≠ 0 ∧ e ≠ 2 ∧ op [] bs 0 = (e, [], 0)
theorem Gone.whole {bs : Bs} {pre : List Rx} (h : Gone bs pre) (hl : sizes pre = bs.length) : fillR bs (sizes pre) 0 (bodies pre) := by
  refine .inl ⟨.inl ⟨rfl, hl⟩, ?_⟩
  rw [h.op, hl, List.drop_length, op_nil]
theorem Gone.wrong {bs : Bs} {x : Rx} {pre : List Rx} (h : Gone bs pre) (hl : sizes pre < bs.length) (hr : x.k = rdOne (bs.drop (sizes pre))) (hx : x.yes = false) : x.err ≠ 0 ∧ fillR bs (sizes pre) x.err (bodies pre) := by
  unfold Rx.yes at hx
  unfold Rx.err
  rw [hr] at hx ⊢
  cases hd : rdOne (bs.drop (sizes pre)) with
  | torn => exact ⟨by decide, .inl ⟨.inr ⟨rfl, h.le⟩, by rw [h.op, op_torn hd]⟩⟩
  | bad e =>
    have := rd_bad hd
    refine ⟨by simp only []; omega, .inr ⟨by simp only []; omega, by simp only []; omega, by rw [h.op, op_bad (drop_ne hl) hd]⟩⟩
  | got b k => rw [hd] at hx; cases hx
theorem Gone.twice {bs b : Bs} {k : Nat} {pre : List Rx} (h : Gone bs pre) (hl : sizes pre < bs.length) (hr : rdOne (bs.drop (sizes pre)) = .got b k) (hm : sha b ∈ (bodies pre).map sha) : fillR bs (sizes pre) 3 (bodies pre) :=
  .inr ⟨by decide, by decide, by rw [h.op, op_dup (drop_ne hl) hr hm]⟩
end Go.Proofs.YtcmjdepjckhpdabDoor.So
namespace Go.Proofs.YtcmjdepjckhpdabDoor.So
open Go Go.RowKit Kt Kg Wr Lw Sha Dk Dg

abbrev tMp : TypeId := 54
abbrev tSto : TypeId := 57
abbrev tOb : TypeId := 66
/-! ### The map -/
def mpe : List Bs → Nat → List MapEntry
  | [], _ => []
  | x :: r, i => ⟨.string ⟨x.toArray⟩, .int .i64 (i : Int), i⟩ :: mpe r (i + 1)
def mpO (ids : List Bs) : Obj := .map (mpe ids 0).toArray ids.length
theorem mpe_snoc : ∀ (ids : List Bs) (x : Bs) (i : Nat), mpe (ids ++ [x]) i = mpe ids i ++ [⟨.string ⟨x.toArray⟩, .int .i64 ((i + ids.length : Nat) : Int), i + ids.length⟩]
  | [], _, _ => rfl
  | y :: r, x, i => by
    rw [List.cons_append, mpe, mpe_snoc r x (i + 1), mpe, List.cons_append, List.length_cons, show i + 1 + r.length = i + (r.length + 1) by omega]
theorem bs_ne {x y : Bs} (h : x ≠ y) : ((ByteArray.mk x.toArray) == (ByteArray.mk y.toArray)) = false := by
  rw [Bool.eq_false_iff]
  intro e
  have := (MapKept.bytes_beq _ _).1 e
  injection this with this
  exact h (by simpa using congrArg Array.toList this)
theorem bs_eq (x : Bs) : ((ByteArray.mk x.toArray) == (ByteArray.mk x.toArray)) = true := (MapKept.bytes_beq _ _).2 rfl
theorem find_no : ∀ (ids : List Bs) (i k : Nat) (id : Bs), ¬ id ∈ ids → Instr.findNow .string (.string ⟨id.toArray⟩) (mpe ids i) k = some none
  | [], _, _, _, _ => rfl
  | x :: r, i, k, id, h => by
    have h1 : id ≠ x := fun e => h (by simp [e])
    have h2 := find_no r (i + 1) (k + 1) id (fun e => h (by simp [e]))
    simp only [mpe, Instr.findNow, Instr.sameNow, bs_ne h1, h2]
theorem find_yes : ∀ (ids : List Bs) (i k j : Nat) (id : Bs), ids.Nodup → ids[j]? = some id → Instr.findNow .string (.string ⟨id.toArray⟩) (mpe ids i) k = some (some (k + j, .int .i64 ((i + j : Nat) : Int)))
  | [], _, _, _, _, _, h => by simp at h
  | x :: r, i, k, 0, id, _, h => by
    have e : x = id := by simpa using h
    subst e
    simp only [mpe, Instr.findNow, Instr.sameNow, bs_eq, Nat.add_zero]
  | x :: r, i, k, j + 1, id, hn, h => by
    have hr : r[j]? = some id := by simpa using h
    have h1 : id ≠ x := fun e => (List.nodup_cons.1 hn).1 (by rw [← e]; exact List.mem_of_getElem? hr)
    have h2 := find_yes r (i + 1) (k + 1) j id (List.nodup_cons.1 hn).2 hr
    simp only [mpe, Instr.findNow, Instr.sameNow, bs_ne h1, h2]
    rw [show k + 1 + j = k + (j + 1) by omega, show i + 1 + j = i + (j + 1) by omega]
theorem infoInt : (Tryd.prog.info? 3).map (fun i => (i.zero, i.size, i.bytes)) = some (some (.int .i64 0), 1, 8) := by kernel_rfl
theorem zeroInt (w : World) : (zeroValue 3).run Tryd.prog w = .ok (.int .i64 0) w := by
  obtain ⟨i0, hi, hz, _, _⟩ := info_parts infoInt
  simp [zeroValue, typeInfo, hi, hz, Result.andThen]
theorem look_yes (w : World) (g j : Nat) (ids : List Bs) (id : Bs) (hb : w.heap[g]? = some (mpO ids)) (hn : ids.Nodup) (h : ids[j]? = some id) :
    (Instr.lookup tMp (.map (some g)) (.string ⟨id.toArray⟩) true).run Tryd.prog w = .ok (.tuple #[.int .i64 (j : Int), .bool true]) w := by
  have hf := find_yes ids 0 0 j id hn h
  simp only [Nat.zero_add] at hf
  have hb' : w.heap[g]? = some (.map (mpe ids 0).toArray ids.length) := hb
  unfold Instr.lookup
  simp only [Sem.run_bind, run_underlying Tryd.underlying54, Result.andThen_ok, MapKept.run_getObj_map hb', Sem.run_pure]
  rw [MapKept.run_checkKey Tryd.underlying35 (show MapKept.IsKey .string (.string ⟨id.toArray⟩) from trivial)]
  simp only [Result.andThen_ok, MapKept.run_findKey Tryd.underlying35 hf]
  rfl
theorem look_no (w : World) (g : Nat) (ids : List Bs) (id : Bs) (hb : w.heap[g]? = some (mpO ids)) (h : ¬ id ∈ ids) :
    (Instr.lookup tMp (.map (some g)) (.string ⟨id.toArray⟩) true).run Tryd.prog w = .ok (.tuple #[.int .i64 0, .bool false]) w := by
  have hf := find_no ids 0 0 id h
  have hb' : w.heap[g]? = some (.map (mpe ids 0).toArray ids.length) := hb
  unfold Instr.lookup
  simp only [Sem.run_bind, run_underlying Tryd.underlying54, Result.andThen_ok, MapKept.run_getObj_map hb', Sem.run_pure]
  rw [MapKept.run_checkKey Tryd.underlying35 (show MapKept.IsKey .string (.string ⟨id.toArray⟩) from trivial)]
  simp only [Result.andThen_ok, MapKept.run_findKey Tryd.underlying35 hf, zeroInt, Sem.run_bind, Sem.run_pure]
  rfl
theorem ins_new (w : World) (g : Nat) (ids : List Bs) (id : Bs) (hb : w.heap[g]? = some (mpO ids)) (h : ¬ id ∈ ids) :
    (Instr.mapUpdate tMp (.map (some g)) (.string ⟨id.toArray⟩) (.int .i64 (ids.length : Int))).run Tryd.prog w = .ok () (w.putObj g (mpO (ids ++ [id]))) := by
  have hf := find_no ids 0 0 id h
  have hb' : w.heap[g]? = some (.map (mpe ids 0).toArray ids.length) := hb
  unfold Instr.mapUpdate
  simp only [Sem.run_bind, run_underlying Tryd.underlying54, Result.andThen_ok, MapKept.run_getObj_map hb']
  rw [MapKept.run_checkKey Tryd.underlying35 (show MapKept.IsKey .string (.string ⟨id.toArray⟩) from trivial)]
  simp only [Result.andThen_ok, MapKept.run_findKey Tryd.underlying35 hf]
  rw [MapKept.run_setObj_map _ hb']
  have e : mpO (ids ++ [id]) = .map ((mpe ids 0).toArray.push ⟨.string ⟨id.toArray⟩, .int .i64 (ids.length : Int), ids.length⟩) (ids.length + 1) := by
    unfold mpO
    rw [mpe_snoc, List.length_append, List.length_cons, List.length_nil, List.push_toArray, Nat.zero_add]
  rw [e]
  rfl
/-! ### The objects -/
theorem flat_at14 {α : Type} (f : α → List Value) (n : Nat) (hf : ∀ a, (f a).length = n) : ∀ (l : List α) (j k : Nat) (a : α), l[j]? = some a → k < n → (l.flatMap f)[n * j + k]? = (f a)[k]?
  | [], j, k, a, h, _ => by simp at h
  | b :: l, 0, k, a, h, hk => by
    simp at h
    subst h
    rw [List.flatMap_cons, Nat.mul_zero, Nat.zero_add, List.getElem?_append_left (by rw [hf]; exact hk)]
  | b :: l, j + 1, k, a, h, hk => by
    rw [List.flatMap_cons, List.getElem?_append_right (by rw [hf, Nat.mul_succ]; omega), hf]
    rw [show n * (j + 1) + k - n = n * j + k from by rw [Nat.mul_succ]; omega]
    exact flat_at14 f n hf l j k a (by simpa using h) hk
structure Ob where
  b : Bs
  A : Option Addr
  c : Nat
/-- an object's cells -/
def obC (z : Ob) : List Value := [.string ⟨(sha z.b).toArray⟩, .slice z.A z.b.length z.c]
theorem obC_len (z : Ob) : (obC z).length = 2 := rfl
def OwB (w : World) (v : Value) (Z : List Ob) : Prop := w.ownsRow 0 tOb 2 v Z.length (Z.flatMap obC)
theorem OwB.nil (w : World) : OwB w (.slice none 0 0) [] := World.ownsRow_nil _ _ _ _
theorem OwB.lt {w : World} {v : Value} {Z : List Ob} (h : OwB w v Z) {g : Nat} (hg : v.ownBlock = some g) : g < w.heap.size := (World.ownsRow.lt h g hg).2
theorem OwB.block {w w' : World} {v : Value} {Z : List Ob} (h : OwB w v Z) (hb : ∀ g, v.ownBlock = some g → w'.heap[g]? = w.heap[g]?) : OwB w' v Z := by
  refine ⟨h.1, ?_⟩
  rcases h.2 with ⟨h1, h2⟩ | ⟨g, cap, cur, hv', h1, h2, h3⟩
  · exact .inl ⟨h1, h2⟩
  · exact .inr ⟨g, cap, cur, hv', h1, (hb g (by rw [hv']; rfl)).trans h2, h3⟩
/-- the slice's value, and the cells of the object number j -/
theorem OwB.at {w : World} {v : Value} {Z : List Ob} (h : OwB w v Z) : ∃ A c, v = .slice A Z.length c ∧ Z.length ≤ c ∧ ∀ j z, Z[j]? = some z → ∃ b, A = some ⟨b, 0, none⟩ ∧ v.ownBlock = some b ∧ b < w.heap.size ∧
    w.cell? ⟨b, j * 2, none⟩ = some (.string ⟨(sha z.b).toArray⟩) ∧ w.cell? ⟨b, j * 2 + 1, none⟩ = some (.slice z.A z.b.length z.c) := by
  have h' := h
  rcases h.2 with ⟨rfl, h0⟩ | ⟨g, cap, cur, rfl, hB, hg, hnc, hcm, hs, ht⟩
  · have e : Z = [] := List.eq_nil_of_length_eq_zero h0
    subst e
    exact ⟨none, 0, rfl, Nat.zero_le _, fun j z hj => by simp at hj⟩
  · refine ⟨_, cap, rfl, hnc, fun j z hj => ?_⟩
    have hjl : j < Z.length := (List.getElem?_eq_some_iff.1 hj).1
    have hc : ∀ k, k < 2 → w.cell? ⟨g, 2 * j + k, none⟩ = (obC z)[k]? := fun k hk => by
      have := World.ownsRow.cellAt (cap := cap) h' (2 * j + k) (by omega)
      rw [this, flat_at14 obC 2 obC_len Z j k z hj hk]
    refine ⟨g, rfl, rfl, (Array.getElem?_eq_some_iff.1 hg).1, ?_, ?_⟩
    · have := hc 0 (by omega)
      rw [Nat.add_zero, Nat.mul_comm] at this
      exact this
    · have := hc 1 (by omega)
      rw [Nat.mul_comm] at this
      exact this
/-- the store in blocks of its own: its row, its map, its objects' row, their bodies' blocks -/
structure Inx (w : World) (gs gm : Nat) (vo : Value) (Sb : Nat → Prop) (gd : Nat) (L : List Bs) : Prop where
  row : Row w gs tSto [.pointer (some ⟨gd, 0, none⟩), vo, .map (some gm)]
  map : w.heap[gm]? = some (mpO (L.map sha))
  objs : ∃ Z : List Ob, Z.map (·.b) = L ∧ OwB w vo Z ∧ ∀ z ∈ Z, Sl w Sb z.A z.c z.b
  apart : ∀ k, Sb k → k ≠ gs ∧ k ≠ gm ∧ vo.ownBlock ≠ some k ∧ k < w.heap.size
  ne : vo.ownBlock ≠ some gs ∧ vo.ownBlock ≠ some gm ∧ gs ≠ gm
  once : (L.map sha).Nodup
  short : ∀ b ∈ L, b.length ≤ 131072
theorem Inx.move {w w' : World} {gs gm gd : Nat} {vo : Value} {Sb : Nat → Prop} {L : List Bs} (h : Inx w gs gm vo Sb gd L) (hk : ∀ k, k = gs ∨ k = gm ∨ vo.ownBlock = some k ∨ Sb k → w'.heap[k]? = w.heap[k]?) (hsz : w.heap.size ≤ w'.heap.size) : Inx w' gs gm vo Sb gd L := by
  obtain ⟨h1, h2, ⟨Z, h3, h4, h5⟩, h6, h7, h8, h9⟩ := h
  exact ⟨(hk gs (.inl rfl)).trans h1, (hk gm (.inr (.inl rfl))).trans h2, ⟨Z, h3, h4.block fun g hg => hk g (.inr (.inr (.inl hg))), fun z hz => (h5 z hz).move fun b hb _ => hk b (.inr (.inr (.inr hb)))⟩,
    fun k hS => ⟨(h6 k hS).1, (h6 k hS).2.1, (h6 k hS).2.2.1, Nat.lt_of_lt_of_le (h6 k hS).2.2.2 hsz⟩, h7, h8, h9⟩
theorem Inx.vo_lt {w : World} {gs gm gd : Nat} {vo : Value} {Sb : Nat → Prop} {L : List Bs} (h : Inx w gs gm vo Sb gd L) {g : Nat} (hg : vo.ownBlock = some g) : g < w.heap.size := by
  obtain ⟨_, _, ⟨Z, _, h4, _⟩, _⟩ := h
  exact h4.lt hg
theorem Inx.gm_lt {w : World} {gs gm gd : Nat} {vo : Value} {Sb : Nat → Prop} {L : List Bs} (h : Inx w gs gm vo Sb gd L) : gm < w.heap.size := (Array.getElem?_eq_some_iff.1 h.map).1
theorem Inx.all_lt {w : World} {gs gm gd : Nat} {vo : Value} {Sb : Nat → Prop} {L : List Bs} (h : Inx w gs gm vo Sb gd L) : ∀ k, k = gs ∨ k = gm ∨ vo.ownBlock = some k ∨ Sb k → k < w.heap.size := by
  rintro k (rfl | rfl | hk | hk)
  · exact h.row.lt
  · exact h.gm_lt
  · exact h.vo_lt hk
  · exact (h.apart k hk).2.2.2
theorem Inx.below {w w' : World} {gs gm gd : Nat} {vo : Value} {Sb : Nat → Prop} {L : List Bs} (h : Inx w gs gm vo Sb gd L) (hb : Below w.heap.size w w') : Inx w' gs gm vo Sb gd L := h.move (fun k hk => hb.block k (h.all_lt k hk)) hb.size
/-- the store in block gs, on the disk in block gd -/
def PIn (w : World) (S : Nat → Prop) (gs gd : Nat) (L : List Bs) : Prop :=
  ∃ gm vo Sb, Inx w gs gm vo Sb gd L ∧ (∀ k, k = gs ∨ k = gm ∨ vo.ownBlock = some k ∨ Sb k → S k) ∧ ∀ k, S k → k < w.heap.size
theorem PIn.lt {w : World} {S : Nat → Prop} {gs gd : Nat} {L : List Bs} (h : PIn w S gs gd L) : ∀ k, S k → k < w.heap.size := by obtain ⟨_, _, _, _, _, h⟩ := h; exact h
theorem PIn.move {w w' : World} {S : Nat → Prop} {gs gd : Nat} {L : List Bs} (h : PIn w S gs gd L) (hk : ∀ b, S b → w'.heap[b]? = w.heap[b]?) (hsz : w.heap.size ≤ w'.heap.size) : PIn w' S gs gd L := by
  obtain ⟨gm, vo, Sb, h1, h2, h3⟩ := h
  exact ⟨gm, vo, Sb, h1.move (fun k h => hk k (h2 k h)) hsz, h2, fun k hS => Nat.lt_of_lt_of_le (h3 k hS) hsz⟩
end Go.Proofs.YtcmjdepjckhpdabDoor.So
namespace Go.Proofs.YtcmjdepjckhpdabDoor.So
open Go Go.RowKit Kt Kg Wr Lw Sha Dk Dg

abbrev tObs : TypeId := 55
theorem infoOb : (Tryd.prog.info? tOb).map (fun i => (i.zero, i.size, i.bytes)) = some (some (.agg #[.string ⟨#[]⟩, .slice none 0 0]), 2, 40) := by kernel_rfl
/-- append of one object: where the row lies then -/
theorem wp_pushB {o : Oper} {a : Act} {K : Act → World → Prop} {Q : Exit → Act → World → Prop} {W : World} (s x : Operand)
    (ho : o.op = .call { callee := .builtin .append, args := #[s, x], argTypes := #[tObs, tObs] })
    (v : Value) (Z : List Ob) (z : Ob) (cs : Array Value) (hs : a.eval s = v) (hx : a.eval x = .slice (some ⟨W.heap.size, 0, none⟩) 1 1) (hc : cs = (obC z).toArray)
    (hown : OwB W v Z) (hlen : Z.length + 1 ≤ 1000000000)
    (h : ∀ g cap w', OwB w' (.slice (some ⟨g, 0, none⟩) (Z.length + 1) cap) (Z ++ [z]) → W.grownBy w' v.ownBlock → (v.ownBlock = some g ∨ W.heap.size ≤ g) → K (a.put o.dst (.slice (some ⟨g, 0, none⟩) (Z.length + 1) cap)) w') : o.wp Tryd.prog a (W.alloc (.cells cs tOb)) K Q := by
  obtain ⟨i0, hi0, hz0, hz1, hz2⟩ := info_parts infoOb
  subst hc
  refine wp_append_lies _ s x tObs ho 0 tOb i0 (.agg #[.string ⟨#[]⟩, .slice none 0 0]) 2 40 Tryd.underlying55 hi0 hz0 hz1 hz2 rfl (by omega) v Z.length (Z.flatMap obC) hs (World.ownsRow.alloc hown _)
    ⟨W.heap.size, 0, none⟩ 1 1 (obC z) hx rfl (fun j u hu => ?_) (fun u hu => ?_) (by omega) (by unfold maxLen; omega) (by omega) (Nat.zero_le _) _ rfl (fun g cap w' h1 h2 h3 h4 => ?_)
  · rw [Addr.add_mid, (Row.fresh W tOb (obC z).toArray).cell]
    simpa using hu
  · simp only [obC, List.mem_cons, List.not_mem_nil, or_false] at hu
    rcases hu with rfl | rfl <;> rfl
  · refine h g cap w' ?_ (grownBy_back _ h2) (h3.imp (fun e => e) fun e => by rw [e, World.size_alloc]; exact Nat.le_succ _)
    unfold OwB
    rw [List.flatMap_append, List.length_append]
    simpa using h1
set_option maxHeartbeats 1000000 in
set_option maxRecDepth 100000 in
theorem pmany_any {w : World} {gs gm gd : Nat} {vo : Value} {Sb : Nat → Prop} {L : List Bs} (h : Inx w gs gm vo Sb gd L) :
    Calls Tryd.prog 16 #[pt gs] w fun y w' => y = .returned (.int .i64 (L.length : Int)) ∧ Below w.heap.size w w' := by
  obtain ⟨hr, _, ⟨Z, rfl, h4, _⟩, _⟩ := h
  obtain ⟨A, c, rfl, _⟩ := h4.at
  have c1 : w.cell? ⟨gs, 1, none⟩ = some (.slice A Z.length c) := hr.cell 1
  rw [List.length_map]
  clear hr h4
  go_enter Tryd.func16, Tryd.ntmps16
  go_wp2
  go_ret
  exact ⟨rfl, Below.refl _ _⟩
set_option maxHeartbeats 1000000 in
set_option maxRecDepth 100000 in
theorem phas_any {w : World} {gs gm gd : Nat} {vo : Value} {Sb : Nat → Prop} {L : List Bs} (h : Inx w gs gm vo Sb gd L) (id : Bs) :
    Calls Tryd.prog 17 #[pt gs, .string ⟨id.toArray⟩] w fun y w' => y = .returned (.bool (decide (id ∈ L.map sha))) ∧ Below w.heap.size w w' := by
  have c2 : w.cell? ⟨gs, 2, none⟩ = some (.map (some gm)) := h.row.cell 2
  by_cases hm : id ∈ L.map sha
  · obtain ⟨j, hj⟩ := List.getElem?_of_mem hm
    have hlk := look_yes w gm j _ id h.map h.once hj
    rw [decide_eq_true hm]
    clear h hm hj
    go_enter Tryd.func17, Tryd.ntmps17
    go_wp2
    go_ret
    exact ⟨rfl, Below.refl _ _⟩
  · have hlk := look_no w gm _ id h.map hm
    rw [decide_eq_false hm]
    clear h hm
    go_enter Tryd.func17, Tryd.ntmps17
    go_wp2
    go_ret
    exact ⟨rfl, Below.refl _ _⟩
set_option maxHeartbeats 1000000 in
set_option maxRecDepth 100000 in
theorem pget_any {w : World} {gs gm gd : Nat} {vo : Value} {Sb : Nat → Prop} {L : List Bs} (h : Inx w gs gm vo Sb gd L) (id : Bs) :
    Calls Tryd.prog 14 #[pt gs, .string ⟨id.toArray⟩] w fun y w' => ∃ v, y = .returned (.tuple #[v, .bool (got L id).isSome]) ∧ Own w' w.heap.size tU8 v ((got L id).getD []) ∧ Below w.heap.size w w' := by
  have c2 : w.cell? ⟨gs, 2, none⟩ = some (.map (some gm)) := h.row.cell 2
  by_cases hm : id ∈ L.map sha
  · obtain ⟨j, hj⟩ := List.getElem?_of_mem hm
    have hlk := look_yes w gm j _ id h.map h.once hj
    obtain ⟨b, hb, e⟩ : ∃ b, L[j]? = some b ∧ sha b = id := by
      rw [List.getElem?_map] at hj
      cases hL : L[j]? with
      | none => rw [hL] at hj; cases hj
      | some b => rw [hL] at hj; exact ⟨b, rfl, by simpa using hj⟩
    have HG := hide (show got L id = some b by rw [← e]; exact got_is h.once hb)
    obtain ⟨hr, _, ⟨Z, rfl, h4, h5⟩, _, _, _, hsh⟩ := h
    obtain ⟨z, hz, rfl⟩ : ∃ z, Z[j]? = some z ∧ z.b = b := by
      rw [List.getElem?_map] at hb
      cases hL : Z[j]? with
      | none => rw [hL] at hb; cases hb
      | some z => rw [hL] at hb; exact ⟨z, rfl, by simpa using hb⟩
    obtain ⟨A, c, rfl, _, hat⟩ := h4.at
    obtain ⟨b0, rfl, _, _, _, k1⟩ := hat j z hz
    have c1 : w.cell? ⟨gs, 1, none⟩ = some (.slice (some ⟨b0, 0, none⟩) Z.length c) := hr.cell 1
    have HC := hide (clone_any z.b z.A z.c Sb w (h5 z (List.mem_of_getElem? hz)) (by have := hsh z.b (List.mem_map_of_mem (List.mem_of_getElem? hz)); omega))
    have hjl := (List.getElem?_eq_some_iff.1 hz).1
    obtain ⟨N, hN⟩ : ∃ N, N = Z.length := ⟨_, rfl⟩
    rw [← hN] at c1 hjl
    obtain ⟨n, hn⟩ : ∃ n, n = z.b.length := ⟨_, rfl⟩
    rw [← hn] at HC k1
    rw [HG.out]
    simp only [Option.isSome_some, Option.getD_some]
    obtain ⟨bd, hbd⟩ : ∃ x, x = z.b := ⟨_, rfl⟩
    rw [← hbd] at HC ⊢
    clear hr h4 h5 hsh hat hm hj hb hz hN hn hbd e HG
    go_enter Tryd.func14, Tryd.ntmps14
    go_wp2_with fail
    refine HC.out.mono ?_
    rintro y w1 ⟨v, rfl, h1, h2⟩
    have H1 := hide h1
    have H2 := hide h2
    clear h1 h2 HC c1 c2 k1 hlk
    go_wp2
    exact bodyPost_ret (results_tmp2 rfl _ _ _) rfl ⟨_, rfl, H1.out, H2.out⟩
  · have hlk := look_no w gm _ id h.map hm
    rw [got_none hm]
    simp only [Option.isSome_none, Option.getD_none]
    clear h hm
    go_enter Tryd.func14, Tryd.ntmps14
    go_wp2
    exact bodyPost_ret (results_tmp2 rfl _ _ _) rfl ⟨_, rfl, Own.nil _ _ _, Below.refl _ _⟩
set_option maxHeartbeats 2000000 in
set_option maxRecDepth 100000 in
theorem pids_any {w : World} {gs gm gd : Nat} {vo : Value} {Sb : Nat → Prop} {L : List Bs} (h : Inx w gs gm vo Sb gd L) (hl : L.length ≤ 1000000) :
    Calls Tryd.prog 12 #[pt gs] w fun y w' => ∃ v, y = .returned v ∧ OwT w' w.heap.size tId v (L.map sha) ∧ Below w.heap.size w w' := by
  obtain ⟨hr, _, ⟨Z, rfl, h4, _⟩, _⟩ := h
  obtain ⟨A, c, rfl, hle, hat⟩ := h4.at
  have c1 : w.cell? ⟨gs, 1, none⟩ = some (.slice A Z.length c) := hr.cell 1
  have HZ := hide (show ∀ j (z : Ob), Z[j]? = some z → ((Z.map (·.b)).map sha)[j]? = some (sha z.b) from fun j z hz => by rw [List.map_map, List.getElem?_map, hz]; rfl)
  have HAt := hide hat
  rw [List.length_map] at hl
  obtain ⟨ids, hids⟩ : ∃ ids, ids = (Z.map (·.b)).map sha := ⟨_, rfl⟩
  have HIl := hide (show ids.length = Z.length by rw [hids, List.length_map, List.length_map])
  rw [← hids] at HZ ⊢
  obtain ⟨N, hN⟩ : ∃ N, N = Z.length := ⟨_, rfl⟩
  rw [← hN] at hl c1 HIl
  have HN := hide hN
  clear hr h4 hat hle hN hids
  go_enter Tryd.func12, Tryd.ntmps12
  go_wp2
  clear c1
  go_loopw [3, 11] (fun v i wr => ∃ (k : Nat) (vl : Value), vl = v ∧ k ≤ N ∧ i = .int .i64 k ∧ Hid (OwT wr w.heap.size tId vl (ids.take k)) ∧ Hid (Below w.heap.size w wr)) (fun _ i _ => N - (intOf i).toNat)
  case atStart => exact ⟨0, _, rfl, Nat.zero_le _, rfl, by show Hid _; exact hide (OwT.nil _ _ _), by show Hid _; exact hide (Below.refl _ _)⟩
  case round =>
    obtain ⟨k, v, rfl, hk, rfl, HV, HB⟩ := hrel
    by_cases hlt : k < N
    · obtain ⟨z, hz⟩ : ∃ z, Z[k]? = some z := ⟨_, List.getElem?_eq_getElem (by have := HN.out; omega)⟩
      obtain ⟨b0, rfl, _, hb0, k0, k1⟩ := HAt.out k z hz
      have k0' := (World.cell?_of_block (a := ⟨b0, k * 2, none⟩) (HB.out.block b0 hb0)).trans k0
      have k1' := (World.cell?_of_block (a := ⟨b0, k * 2 + 1, none⟩) (HB.out.block b0 hb0)).trans k1
      have hzk := HZ.out k z hz
      obtain ⟨n, hn⟩ : ∃ n, n = z.b.length := ⟨_, rfl⟩
      rw [← hn] at k1'
      obtain ⟨x, hx⟩ : ∃ x, x = sha z.b := ⟨_, rfl⟩
      rw [← hx] at k0' hzk
      have HX := hide (show ids.take (k + 1) = ids.take k ++ [x] by rw [List.take_add_one, hzk]; rfl)
      have HL := hide (show (ids.take k).length + 1 ≤ 1000000000 by rw [List.length_take]; omega)
      clear k0 k1 hz hb0 hzk hx hn
      have HV2 := hide (show OwT ((wr.alloc (.cells #[.string ⟨x.toArray⟩, .slice z.A n z.c] tOb)).alloc (.cells #[.string ⟨x.toArray⟩] tId)) w.heap.size tId v (ids.take k) from (HV.out.alloc _).alloc _)
      have hsz1 : (wr.alloc (.cells #[.string ⟨x.toArray⟩, .slice z.A n z.c] tOb)).heap.size = wr.heap.size + 1 := World.size_alloc _ _
      have hx1 := Vs.one (wr.alloc (.cells #[.string ⟨x.toArray⟩, .slice z.A n z.c] tOb)) tId x
      rw [hsz1] at hx1
      have HX1 := hide hx1
      have HB2 := hide (show Below w.heap.size w ((wr.alloc (.cells #[.string ⟨x.toArray⟩, .slice z.A n z.c] tOb)).alloc (.cells #[.string ⟨x.toArray⟩] tId)) from (HB.out.alloc HB.out.size _).alloc (by rw [hsz1]; exact Nat.le_succ_of_le HB.out.size) _)
      clear hx1 hsz1
      go_wp2_with (at_builtin; go_loud (refine wpList_catT rfl (.tmp 15) (.tmp 18) tIds rfl Tryd.underlying42 infoId w.heap.size w v (ids.take k) [x] (fun _ => True) (some ⟨wr.heap.size + 1, 0, none⟩) 1 rfl rfl HV2.out HX1.out (by have := HL.out; simp only [List.length_cons, List.length_nil]; omega) HB2.out HB2.out.size ?_; intro v' w' hown hb hg; rw [← HX.out] at hown; have HO := hide hown; have HBn := hide hb; clear hown hb hg))
      exact ⟨⟨k + 1, _, rfl, by omega, by go_num, by show Hid _; exact HO, by show Hid _; exact HBn⟩, by simp [intOf]; omega⟩
    · obtain rfl : k = N := by omega
      go_wp2
      go_ret
      have e : ids.take k = ids := List.take_of_length_le (by have := HIl.out; omega)
      exact ⟨_, rfl, by rw [← e]; exact HV.out, HB.out⟩
theorem oth_putObj {S : Nat → Prop} {A B : World} (h : Oth S A B) {g : Nat} (hg : S g ∨ A.heap.size ≤ g) (o : Obj) : Oth S A (B.putObj g o) :=
  ⟨h.os, h.tape, h.output, by rw [World.putObj_size]; exact h.size, fun k hk hn => (World.putObj_heap_other (fun e => by
    subst e
    exact hg.elim hn fun x => by omega)).trans (h.block k hk hn)⟩
/-- the store behind an append to its objects' row -/
theorem inx_added {w w2 w5 : World} {gs gm gd g cap : Nat} {vo : Value} {Sb : Nat → Prop} {L : List Bs} (h : Inx w gs gm vo Sb gd L) (b : Bs) (A : Option Addr) (c : Nat) (hs : Sl w Sb A c b) (hn : ¬ sha b ∈ L.map sha) (hb : b.length ≤ 131072)
    (Z : List Ob) (hZ : Z.map (·.b) = L) (hZs : ∀ z ∈ Z, Sl w Sb z.A z.c z.b)
    (ho : Oth (fun k => k = gm) w w2) (hm : w2.heap[gm]? = some (mpO (L.map sha ++ [sha b]))) (hg : w2.grownBy w5 vo.ownBlock) (hown : OwB w5 (.slice (some ⟨g, 0, none⟩) (Z.length + 1) cap) (Z ++ [⟨b, A, c⟩])) (hor : vo.ownBlock = some g ∨ w2.heap.size ≤ g) :
    Inx (w5.setCell ⟨gs, 1, none⟩ (.slice (some ⟨g, 0, none⟩) (Z.length + 1) cap)) gs gm (.slice (some ⟨g, 0, none⟩) (Z.length + 1) cap) Sb gd (L ++ [b]) ∧
      Oth (fun k => k = gs ∨ k = gm ∨ vo.ownBlock = some k) w (w5.setCell ⟨gs, 1, none⟩ (.slice (some ⟨g, 0, none⟩) (Z.length + 1) cap)) ∧ ∀ k, (Value.slice (some ⟨g, 0, none⟩) (Z.length + 1) cap).ownBlock = some k → vo.ownBlock = some k ∨ w.heap.size ≤ k := by
  have hgs : g ≠ gs := fun e => by
    rcases hor with x | x
    · exact h.ne.1 (by rw [x, e])
    · have := h.row.lt; have := ho.size; omega
  have hgm : g ≠ gm := fun e => by
    rcases hor with x | x
    · exact h.ne.2.1 (by rw [x, e])
    · have := h.gm_lt; have := ho.size; omega
  have hr2 : Row w2 gs tSto [.pointer (some ⟨gd, 0, none⟩), vo, .map (some gm)] := (ho.block gs h.row.lt h.ne.2.2).trans h.row
  have hr5 := hr2.grown hg (fun e => h.ne.1 e.symm)
  obtain ⟨v', hv'⟩ : ∃ z, z = Value.slice (some ⟨g, 0, none⟩) (Z.length + 1) cap := ⟨_, rfl⟩
  have hbk : v'.ownBlock = some g := by rw [hv']; rfl
  rw [← hv'] at hown ⊢
  have e5 : ∀ k, k ≠ gs → (w5.setCell ⟨gs, 1, none⟩ v').heap[k]? = w5.heap[k]? := fun k hk => Below.heap_setCell w5 ⟨gs, 1, none⟩ v' k hk
  have hsz : (w5.setCell ⟨gs, 1, none⟩ v').heap.size = w5.heap.size := by simp [World.setCell]
  have eb : ∀ k, Sb k → (w5.setCell ⟨gs, 1, none⟩ v').heap[k]? = w.heap[k]? := fun k hk => by
    obtain ⟨a1, a2, a3, a4⟩ := h.apart k hk
    rw [e5 k a1, hg.block k (Nat.lt_of_lt_of_le a4 ho.size) (fun e => a3 e.symm), ho.block k a4 a2]
  refine ⟨⟨hr5.put 1 v', ?_, ⟨Z ++ [⟨b, A, c⟩], by rw [List.map_append, hZ]; rfl, hown.block fun k hk => e5 k (by rw [hbk] at hk; injection hk with hk; rw [← hk]; exact hgs), fun z hz => ?_⟩, fun k hk => ?_, ?_, ?_, ?_⟩, ?_, ?_⟩
  · rw [e5 gm (fun e => h.ne.2.2 e.symm), hg.block gm (Nat.lt_of_lt_of_le h.gm_lt ho.size) (fun e => h.ne.2.1 e.symm), hm, List.map_append]; rfl
  · rcases List.mem_append.1 hz with hz | hz
    · exact (hZs z hz).move fun k hk _ => eb k hk
    · rw [List.mem_singleton.1 hz]
      exact hs.move fun k hk _ => eb k hk
  · obtain ⟨a1, a2, a3, a4⟩ := h.apart k hk
    refine ⟨a1, a2, fun e => ?_, by rw [hsz]; exact Nat.lt_of_lt_of_le a4 (Nat.le_trans ho.size hg.size)⟩
    rw [hbk] at e
    injection e with e
    rcases hor with x | x
    · exact a3 (by rw [x, e])
    · have := ho.size; omega
  · rw [hbk]
    exact ⟨fun e => hgs (Option.some.inj e), fun e => hgm (Option.some.inj e), h.ne.2.2⟩
  · rw [List.map_append, List.map_cons, List.map_nil]
    refine List.nodup_append.2 ⟨h.once, by simp, fun x hx y hy e => hn ?_⟩
    rw [List.mem_singleton.1 hy] at e
    rw [← e]; exact hx
  · intro x hx
    rcases List.mem_append.1 hx with hx | hx
    · exact h.short x hx
    · rw [List.mem_singleton.1 hx]; exact hb
  · have h1 := ho.mono (T := fun k => k = gs ∨ k = gm ∨ vo.ownBlock = some k) fun k _ e => .inr (.inl e)
    exact (h1.trans (Oth.of_grown (S := fun k => k = gs ∨ k = gm ∨ vo.ownBlock = some k) hg fun k e => .inr (.inr e)) fun _ _ x => x).put (.inl (.inl rfl)) v'
  · intro k hk
    rw [hbk] at hk
    injection hk with hk
    rcases hor with x | x
    · exact .inl (by rw [x, hk])
    · right; have := ho.size; omega
set_option maxHeartbeats 4000000 in
set_option maxRecDepth 100000 in
theorem padd_any {w : World} {gs gm gd : Nat} {vo : Value} {Sb : Nat → Prop} {L : List Bs} (h : Inx w gs gm vo Sb gd L) (b : Bs) (A : Option Addr) (c : Nat) (hs : Sl w Sb A c b) (hn : ¬ sha b ∈ L.map sha) (hl : L.length ≤ 100000000) (hb : b.length ≤ 131072) :
    Calls Tryd.prog 24 #[pt gs, .agg #[.string ⟨(sha b).toArray⟩, .slice A b.length c]] w fun y w' => y = .returned (.tuple #[]) ∧ ∃ vo', Inx w' gs gm vo' Sb gd (L ++ [b]) ∧ Oth (fun k => k = gs ∨ k = gm ∨ vo.ownBlock = some k) w w' ∧ ∀ k, vo'.ownBlock = some k → vo.ownBlock = some k ∨ w.heap.size ≤ k := by
  obtain ⟨id, hid⟩ : ∃ z, z = sha b := ⟨_, rfl⟩
  obtain ⟨n, hnb⟩ : ∃ z, z = b.length := ⟨_, rfl⟩
  obtain ⟨q, hq⟩ : ∃ z, z = w.heap.size := ⟨_, rfl⟩
  obtain ⟨w1, hw1⟩ : ∃ z, z = w.alloc (.cells #[.string ⟨id.toArray⟩, .slice A n c] tOb) := ⟨_, rfl⟩
  have hb1 : Below w.heap.size w w1 := by rw [hw1]; exact (Below.refl _ w).alloc (Nat.le_refl _) _
  have h1 := h.below hb1
  have hq1 : Row w1 q tOb [.string ⟨id.toArray⟩, .slice A n c] := by rw [hw1, hq]; exact Row.fresh w tOb _
  obtain ⟨N, hN⟩ : ∃ z, z = L.length := ⟨_, rfl⟩
  obtain ⟨w2, hw2⟩ : ∃ z, z = w1.drew.putObj gm (mpO (L.map sha ++ [id])) := ⟨_, rfl⟩
  have hins : (Instr.mapUpdate tMp (.map (some gm)) (.string ⟨id.toArray⟩) (.int .i64 (N : Int))).run Tryd.prog w1.drew = .ok () w2 := by
    rw [hw2]
    have := ins_new w1.drew gm (L.map sha) id h1.map (by rw [hid]; exact hn)
    rw [List.length_map, ← hN] at this
    exact this
  have ho2 : Oth (fun k => k = gm) w w2 := by
    rw [hw2]
    exact oth_putObj (S := fun k => k = gm) (Oth.of_below _ hb1).drew (.inl rfl) _
  have hm2 : w2.heap[gm]? = some (mpO (L.map sha ++ [sha b])) := by
    rw [hw2, ← hid]
    exact World.putObj_heap_same h1.gm_lt
  have hr2 : Row w2 gs tSto [.pointer (some ⟨gd, 0, none⟩), vo, .map (some gm)] := (ho2.block gs h.row.lt h.ne.2.2).trans h.row
  have hqm : q ≠ gm := by have := h.gm_lt; omega
  have hq2 : Row w2 q tOb [.string ⟨id.toArray⟩, .slice A n c] := by
    rw [hw2]
    exact (World.putObj_heap_other hqm).trans hq1
  obtain ⟨Z, hZ, h4, h5⟩ := h.objs
  have h42 : OwB w2 vo Z := h4.block fun k hk => ho2.block k (h4.lt hk) fun e => h.ne.2.1 (by rw [hk, e])
  obtain ⟨Ao, co, hvo, _⟩ := h4.at
  have hZN : Z.length = N := by rw [hN, ← hZ, List.length_map]
  rw [hZN] at hvo
  have HFin := hide (fun (g cap : Nat) (w5 : World) (hg : w2.grownBy w5 vo.ownBlock) (hown : OwB w5 (.slice (some ⟨g, 0, none⟩) (Z.length + 1) cap) (Z ++ [⟨b, A, c⟩])) (hor : vo.ownBlock = some g ∨ w2.heap.size ≤ g) => inx_added h b A c hs hn hb Z hZ h5 ho2 hm2 hg hown hor)
  have HQn := hide (show vo.ownBlock ≠ some q from fun e => by have := h4.lt e; omega)
  have HGs := hide (show vo.ownBlock ≠ some gs from h.ne.1)
  have c2 : w1.drew.cell? ⟨gs, 2, none⟩ = some (.map (some gm)) := h1.row.cell 2
  have c1 : w1.drew.cell? ⟨gs, 1, none⟩ = some vo := h1.row.cell 1
  have c0 : w1.drew.cell? ⟨q, 0, none⟩ = some (.string ⟨id.toArray⟩) := hq1.cell 0
  have HR2 := hide hr2
  have HQ2 := hide hq2
  have H42 := hide h42
  have hlN : N + 1 ≤ 1000000000 := by omega
  have HW1 := hide hw1
  have HQ := hide hq
  rw [hZN] at HFin
  have HZN := hide hZN
  have HId := hide hid
  have HNb := hide hnb
  rw [← hid, ← hnb]
  clear h hs hn hl hb hid hb1 h1 hq1 hN hw2 ho2 hm2 hr2 hqm hq2 hZ h4 h5 h42 hZN hw1 hq hnb
  subst hvo
  go_enter Tryd.func24, Tryd.ntmps24
  go_wp2
  rw [← HW1.out, ← HQ.out]
  refine Rg.wp_region_ord (fun w' => w'.cell? ⟨gs, 2, none⟩ = some (.map (some gm)) ∧ w'.cell? ⟨gs, 1, none⟩ = some (.slice Ao N co) ∧ w'.cell? ⟨q, 0, none⟩ = some (.string ⟨id.toArray⟩)) [(0, true), (1, true), (2, true), (3, true), (4, true), (5, true), (6, true), (7, true), (8, true), (9, true), (10, true), (11, false)] (by kernel_rfl) (by kernel_rfl) ?_
  simp only [Rg.pick, List.map_cons, List.map_nil, List.getD_cons_zero, List.getD_cons_succ]
  iterate 11 (refine Rg.ord_quiet (v := ?_) rfl (fun w' hS => ?_) ⟨c2, c1, c0⟩ ?_; rotate_left; (obtain ⟨s2, s1, s0⟩ := hS; go_simp; with_reducible rfl); simp only [Act.put, List.setIfInBounds_toArray, List.set_cons_succ, List.set_cons_zero])
  refine Rg.ord_loud rfl (fun K hK => ?_)
  go_simp
  refine hK _ _ (fun hf => absurd (show Rg.sink _ 11 = true from by kernel_rfl) (by rw [hf]; decide)) ?_
  clear hK K hins c0 c1 c2
  refine Rg.ord_nil ?_
  have d1 : w2.drew.cell? ⟨gs, 1, none⟩ = some (.slice Ao N co) := by
    exact HR2.out.cell 1
  have d0 : w2.drew.cell? ⟨q, 0, none⟩ = some (.string ⟨id.toArray⟩) := HQ2.out.cell 0
  have d2 : w2.drew.cell? ⟨q, 1, none⟩ = some (.slice A n c) := HQ2.out.cell 1
  go_wp2
  refine Rg.wp_region_ord (fun w' => w'.cell? ⟨gs, 1, none⟩ = some (.slice Ao N co) ∧ w'.cell? ⟨q, 0, none⟩ = some (.string ⟨id.toArray⟩) ∧ w'.cell? ⟨q, 1, none⟩ = some (.slice A n c)) [(0, true), (1, true), (2, true), (3, true), (4, true), (5, true), (6, false), (7, false), (8, true), (9, true), (10, false)] (by kernel_rfl) (by kernel_rfl) ?_
  simp only [Rg.pick, List.map_cons, List.map_nil, List.getD_cons_zero, List.getD_cons_succ]
  iterate 6 (refine Rg.ord_quiet (v := ?_) rfl (fun w' hS => ?_) ⟨d1, d0, d2⟩ ?_; rotate_left; (obtain ⟨s1, s0, s2⟩ := hS; go_simp; with_reducible rfl); simp only [Act.put, List.setIfInBounds_toArray, List.set_cons_succ, List.set_cons_zero])
  refine Rg.ord_loud rfl (fun K hK => ?_)
  go_simp
  have g1 : (w2.drew.alloc (.cells #[.string ⟨id.toArray⟩, .slice A n c] tOb)).cell? ⟨gs, 1, none⟩ = some (.slice Ao N co) := by
    exact ((show Row w2.drew gs tSto _ from HR2.out).alloc _).cell 1
  have g0 := ((show Row w2.drew q tOb _ from HQ2.out).alloc (.cells #[.string ⟨id.toArray⟩, .slice A n c] tOb)).cell 0
  have g2 := ((show Row w2.drew q tOb _ from HQ2.out).alloc (.cells #[.string ⟨id.toArray⟩, .slice A n c] tOb)).cell 1
  refine hK _ _ (fun _ => ⟨g1, g0, g2⟩) ?_
  clear hK K
  refine Rg.ord_loud rfl (fun K hK => ?_)
  refine wp_pushB (.tmp 19) (.tmp 21) rfl (.slice Ao N co) Z ⟨b, A, c⟩ _ rfl rfl (by unfold obC; rw [← HId.out, ← HNb.out]) (show OwB w2.drew (.slice Ao N co) Z from H42.out) (by rw [HZN.out]; exact hlN) ?_
  intro g5 cap5 w5 hown5 hg5 hor5
  rw [HZN.out] at hown5 ⊢
  have HF := hide (HFin.out g5 cap5 w5 ⟨hg5.os, hg5.tape, hg5.output, hg5.size, hg5.block⟩ hown5 hor5)
  have hr5 := (show Row w2.drew gs tSto _ from HR2.out).grown hg5 (fun e => HGs.out e.symm)
  have e1 : w5.cell? ⟨gs, 1, none⟩ = some (.slice Ao N co) := hr5.cell 1
  have f1 := hr5.free 1
  have hq5 := (show Row w2.drew q tOb _ from HQ2.out).grown hg5 (fun e => HQn.out e.symm)
  have e0 : w5.cell? ⟨q, 0, none⟩ = some (.string ⟨id.toArray⟩) := hq5.cell 0
  have e2 : w5.cell? ⟨q, 1, none⟩ = some (.slice A n c) := hq5.cell 1
  clear hq5 hown5 hg5 hor5 hr5 d0 d1 d2 g0 g1 g2
  refine hK _ _ (fun _ => ⟨e1, e0, e2⟩) ?_
  clear hK K
  iterate 2 (refine Rg.ord_quiet (v := ?_) rfl (fun w' hS => ?_) ⟨e1, e0, e2⟩ ?_; rotate_left; (obtain ⟨s1, s0, s2⟩ := hS; go_simp; with_reducible rfl); simp only [Act.put, List.setIfInBounds_toArray, List.set_cons_succ, List.set_cons_zero])
  refine Rg.ord_loud rfl (fun K hK => ?_)
  go_simp
  refine hK _ _ (fun hf => absurd (show Rg.sink _ 10 = true from by kernel_rfl) (by rw [hf]; decide)) ?_
  clear hK K
  refine Rg.ord_nil ?_
  go_wp2
  refine bodyPost_end (results_none rfl _ _ _) rfl ?_
  exact ⟨rfl, _, HF.out.1, HF.out.2.1, HF.out.2.2⟩
end Go.Proofs.YtcmjdepjckhpdabDoor.So
namespace Go.Proofs.YtcmjdepjckhpdabDoor.So
open Go Go.RowKit Kt Kg Wr Lw Sha Dk Dg

/-- append of a name's bytes onto an own row -/
theorem wp_catId {o : Oper} {a : Act} {K : Act → World → Prop} {Q : Exit → Act → World → Prop} {W : World} (s x : Operand)
    (ho : o.op = .call { callee := .builtin .append, args := #[s, x], argTypes := #[38, 35] })
    (B : Nat) (v : Value) (l r : Bs) (hs : a.eval s = v) (hx : a.eval x = .string ⟨r.toArray⟩) (hown : Own W B tU8 v l) (hlen : l.length + r.length ≤ 70368744177664) (hbase : B ≤ W.heap.size)
    (h : ∀ v' w', Own w' B tU8 v' (l ++ r) → W.grownBy w' v.ownBlock → K (a.put o.dst v') w') : o.wp Tryd.prog a W K Q := by
  obtain ⟨i0, hi0, hz0, hz1, hz2⟩ := info_parts Wr.info8
  have hsz : ByteArray.size ⟨r.toArray⟩ = r.length := by simp [ByteArray.size]
  have e : Lib.strCells ⟨r.toArray⟩ = u8s r := rfl
  obtain ⟨v', w', hr, h1, h2, _⟩ := Lib.run_append_own_string (P := Tryd.prog) W B 38 35 o.type tU8 i0 Tryd.underlying38 Tryd.underlying35 hi0 hz0 hz1 hz2 v l.length (u8s l) hown ⟨r.toArray⟩ (by rw [hsz]; unfold maxLen; omega) (by rw [hsz]; omega) hbase
  unfold Oper.wp execOp
  simp only [ho, resolve, invoke, builtin, Sem.run_bind, Sem.run_pure, Result.andThen_ok, List.map_toArray, List.map_cons, List.map_nil, hs, hx, hr]
  refine h v' w' ?_ h2
  unfold Own
  rw [List.length_append, ← hsz]
  rw [e] at h1
  simpa [u8s] using h1
set_option maxHeartbeats 2000000 in
set_option maxRecDepth 100000 in
theorem pform14_any (b : Bs) (A : Option Addr) (c : Nat) (Pb : Nat → Prop) (w : World) (hs : Sl w Pb A c b) (hb : b.length ≤ 131072) :
    Calls Tryd.prog 23 #[.slice A b.length c, .string ⟨(sha b).toArray⟩] w fun y w' => ∃ v, y = .returned v ∧ Own w' w.heap.size tU8 v (record b) ∧ Below w.heap.size w w' := by
  have HTx := hide (text_put [] b none 0 A c (fun _ => True) Pb w.drew (Sl.nil _ _ _ _) hs (by simp; omega))
  simp only [List.length_nil, List.nil_append] at HTx
  have hlen := form_short b.length 10 (by omega) (by omega)
  obtain ⟨F, hF⟩ : ∃ F, F = form b.length ++ b := ⟨_, rfl⟩
  have Hrec := hide (show F ++ (sha b).take 4 = record b by rw [hF]; rfl)
  have HFl := hide (show F.length + ((sha b).take 4).length ≤ 70368744177664 by rw [hF, sum_len, List.length_append]; omega)
  obtain ⟨sb, hsb⟩ : ∃ sb, sb = (sha b).take 4 := ⟨_, rfl⟩
  obtain ⟨id, hid⟩ : ∃ id, id = sha b := ⟨_, rfl⟩
  have hid32 : id.length = 32 := by rw [hid]; exact sha_len b
  have hcut := front_txt id 4
  obtain ⟨N, hN⟩ : ∃ N, N = b.length := ⟨_, rfl⟩
  rw [← hF, ← hN] at HTx
  rw [← hsb] at Hrec HFl
  rw [← hN, ← hid]
  rw [hid] at hcut
  rw [← hsb, ← hid] at hcut
  have hsz : ByteArray.size ⟨id.toArray⟩ = 32 := by simpa [ByteArray.size] using hid32
  clear hs hb hN hF hlen hsb hid
  go_enter Tryd.func23, Tryd.ntmps23
  go_wp2
  refine Rg.wp_region_ord (fun _ => True) [(0, true), (2, true), (3, true), (1, false), (4, false), (5, true)] (by kernel_rfl) (by kernel_rfl) ?_
  simp only [Rg.pick, List.map_cons, List.map_nil, List.getD_cons_zero, List.getD_cons_succ]
  iterate 2 (refine Rg.ord_quiet (v := ?_) rfl (fun w' hS => ?_) trivial ?_; rotate_left; (clear hS; go_simp; with_reducible rfl); simp only [Act.put, List.setIfInBounds_toArray, List.set_cons_succ, List.set_cons_zero])
  refine Rg.ord_quiet (v := .string ⟨sb.toArray⟩) rfl (fun w' hS => ?_) trivial ?_
  · clear hS
    have hil : id.length = 32 := hid32
    go_simp
  simp only [Act.put, List.setIfInBounds_toArray, List.set_cons_succ, List.set_cons_zero]
  refine Rg.ord_loud rfl (fun K hK => ?_)
  go_simp
  refine HTx.out.mono ?_
  rintro y w1 ⟨v1, rfl, hown1, hb1⟩
  have HO1 := hide hown1
  have HB1 := hide (show Below w.heap.size w w1 from (Below.refl _ w).drew.trans hb1)
  clear hown1 hb1 HTx
  refine hK _ _ (fun _ => trivial) ?_
  clear hK K
  refine Rg.ord_loud rfl (fun K hK => ?_)
  refine wp_catId (.tmp 6) (.tmp 8) rfl w.heap.size v1 F sb rfl rfl HO1.out HFl.out HB1.out.size ?_
  intro v' w3 hown3 hg3
  rw [Hrec.out] at hown3
  have HO3 := hide hown3
  have HB3 := hide (HB1.out.grown hg3 HB1.out.size fun k hk => (World.ownsRow.lt HO1.out k hk).1)
  clear hown3 hg3
  refine hK _ _ (fun _ => trivial) ?_
  clear hK K
  iterate 1 (refine Rg.ord_quiet (v := ?_) rfl (fun w' hS => ?_) trivial ?_; rotate_left; (clear hS; go_simp; with_reducible rfl); simp only [Act.put, List.setIfInBounds_toArray, List.set_cons_succ, List.set_cons_zero])
  refine Rg.ord_nil ?_
  go_wp2
  go_ret
  exact ⟨_, rfl, HO3.out, HB3.out⟩
end Go.Proofs.YtcmjdepjckhpdabDoor.So
namespace Go.Proofs.YtcmjdepjckhpdabDoor.So
open Go Go.RowKit Kt Kg Wr Lw Sha Dk Dg

abbrev tRc : TypeId := 79
def Rx.id (x : Rx) : Bs := match x.k with | .got b _ => sha b | _ => []
/-- a record's cells -/
def rxC (x : Rx) : List Value := [.string ⟨x.id.toArray⟩, .slice x.A x.body.length x.c, .int .i64 (x.size : Int), .int .i64 (x.err : Int)]
theorem sl_take {w : World} {P : Nat → Prop} {A : Option Addr} {c : Nat} {l : Bs} (h : Sl w P A c l) (k : Nat) : Sl w P A c (l.take k) :=
  ⟨Nat.le_trans (List.length_take_le' _ _) h.1, fun hn => by
    have hn' : 0 < l.length := by rw [List.length_take] at hn; omega
    obtain ⟨b, o, e, hp, hc⟩ := h.2 hn'
    refine ⟨b, o, e, hp, fun j hj => ?_⟩
    rw [List.length_take] at hj
    rw [hc j (by omega)]
    simp [List.getD_eq_getElem?_getD, show j < k by omega]⟩
theorem row_only {w w' : World} {g q : Nat} {t : TypeId} {cs : List Value} (h : Row w q t cs) (ho : Only (· = g) w w') (hq : q ≠ g) : Row w' q t cs := (ho.block q h.lt hq).trans h
/-- what read comes to -/
def RdQ14 (w : World) (Pb : Nat → Prop) (bs : Bs) (y : Ending) (w' : World) : Prop :=
  ∃ x : Rx, x.k = rdOne bs ∧ y = .returned (.agg (rxC x).toArray) ∧ Sl w' Pb x.A x.c x.body ∧ Below w.heap.size w w'
theorem size_rc : (Tryd.prog.info? tRc).map (·.size) = some 4 := by kernel_rfl
/-- a record that is none -/
theorem rdq_bad {w w1 : World} {Pb : Nat → Prop} {bs : Bs} {e : Nat} (h : rdOne bs = (if e = 2 then .torn else .bad e)) (hb : Below w.heap.size w w1) :
    RdQ14 w Pb bs (.returned (.agg #[.string ⟨#[]⟩, .slice none 0 0, .int .i64 0, .int .i64 (e : Int)])) w1 := by
  by_cases he : e = 2
  · subst he
    exact ⟨⟨.torn, none, 0⟩, by rw [h, if_pos rfl], rfl, Sl.nil _ _ _ _, hb⟩
  · exact ⟨⟨.bad e, none, 0⟩, by rw [h, if_neg he], rfl, Sl.nil _ _ _ _, hb⟩
theorem sl_id {w : World} {P : Nat → Prop} {A : Option Addr} {c n : Nat} {l : List UInt8} (h : Sl w P A c l) (hn : n = l.length) : (convert 38 35 (.slice A n c)).run Tryd.prog w = .ok (.string ⟨l.toArray⟩) w := by
  subst hn
  by_cases h0 : l = []
  · subst h0
    rw [run_convert_bytes_string w 38 35 5 A _ c Tryd.underlying38 Tryd.underlying5 Tryd.underlying35]
    cases A <;> rfl
  · have hn : 0 < l.length := List.length_pos_iff.2 h0
    obtain ⟨b, o, rfl, _, hc⟩ := h.2 hn
    exact run_convert_bytes_back w 38 35 5 ⟨b, o, none⟩ c l Tryd.underlying38 Tryd.underlying5 Tryd.underlying35 (fun j hj => by rw [Addr.add_mid, hc j hj]; simp [List.getElem?_eq_getElem hj])
theorem cut_to (w : World) (A : Option Addr) (n c k : Nat) (hk : k ≤ n) (hn : n ≤ c) :
    (Instr.slice 38 (.slice A n c) none (some (.int .u64 (k : Int))) none).run Tryd.prog w = .ok (.slice A k c) w := by
  have hu := run_underlying Tryd.underlying38
  have h1 : k ≤ c := by omega
  have h2 : ¬ c < k := by omega
  have h3 : (k : Int) ≤ (c : Int) := by omega
  have h4 : (0 : Int) ≤ (k : Int) ∧ (k : Int) ≤ (c : Int) := by omega
  cases A <;> go_simp
theorem cut_mid (w : World) (A : Option Addr) (n c k : Nat) (hk : k + 4 ≤ n) (hn : n ≤ c) :
    (Instr.slice 38 (.slice A n c) (some (.int .u64 (k : Int))) (some (.int .u64 ((k : Int) + 4))) none).run Tryd.prog w = .ok (.slice (if c = k then A else A.map (·.add k)) 4 (c - k)) w := by
  have hu := run_underlying Tryd.underlying38
  have e1 : ((k : Int) + 4).toNat = k + 4 := by omega
  have e2 : (0 : Int) ≤ (k : Int) + 4 ∧ (k : Int) + 4 ≤ (c : Int) := by omega
  have e3 : k ≤ k + 4 := by omega
  have e4 : k + 4 - k = 4 := by omega
  have e5 : ¬ c < k + 4 := by omega
  cases A <;> go_simp
set_option maxHeartbeats 4000000 in
set_option maxRecDepth 100000 in
theorem pread_any (bs : Bs) (A : Option Addr) (c : Nat) (Pb : Nat → Prop) (w : World) (hs : Sl w Pb A c bs) (hl : bs.length ≤ 16777216) (hT : Tab w) :
    Calls Tryd.prog 40 #[.slice A bs.length c] w fun y w' => RdQ14 w Pb bs y w' := by
  obtain ⟨q, hq⟩ : ∃ z, z = w.heap.size := ⟨_, rfl⟩
  obtain ⟨w1, hw1⟩ : ∃ z, z = w.alloc (.cells #[.string ⟨#[]⟩, .slice none 0 0, .int .i64 0, .int .i64 0] tRc) := ⟨_, rfl⟩
  have hb1 : Below w.heap.size w w1 := by rw [hw1]; exact (Below.refl _ w).alloc (Nat.le_refl _) _
  have hr1 : Row w1 q tRc [.string ⟨#[]⟩, .slice none 0 0, .int .i64 0, .int .i64 0] := by rw [hw1, hq]; exact Row.fresh w tRc _
  have hs1 : Sl w1 (fun k => Pb k ∧ k < w.heap.size) A c bs := hs.bound.move fun k hk _ => hb1.block k hk.2
  have HOp := hide (open_any (bs.take 10) A c _ w1 (sl_take hs1 10) (by rw [List.length_take]; omega))
  obtain ⟨N, hN⟩ : ∃ z, z = bs.length := ⟨_, rfl⟩
  obtain ⟨M, hM⟩ : ∃ z, z = (bs.take 10).length := ⟨_, rfl⟩
  have hMN : M ≤ N ∧ M ≤ 10 ∧ (10 ≤ N → M = 10) ∧ (N < 10 → M = N) := by rw [hM, List.length_take]; omega
  have hmi : (if (10 : Int) < (N : Int) then (10 : Int) else (N : Int)) = (M : Int) := by split <;> omega
  have hNc : N ≤ c := by rw [hN]; exact hs.1
  rw [← hM] at HOp
  rw [← hN] at hl ⊢
  have HN := hide hN
  have HM := hide hM
  have HS1 := hide hs1
  have HS := hide hs
  have HT := hide hT
  have HB1 := hide hb1
  have HR1 := hide hr1
  have HMN := hide hMN
  have HW1 := hide hw1
  have HQ := hide hq
  have hMc : M ≤ N := hMN.1
  clear hs hT hq hw1 hb1 hr1 hs1 hN hM hMN
  go_enter Tryd.func40, Tryd.ntmps40
  go_wp2_with fail
  rw [← HW1.out, ← HQ.out]
  refine HOp.out.mono ?_
  rintro y w2 ⟨g, rfl, hrd2, hb2⟩
  have HB2 := hide (HB1.out.trans (hb2.mono HB1.out.size))
  have HR2 := hide (HR1.out.below hb2 HR1.out.lt)
  have HG := hide (show q ≠ g by have := hrd2.from; have := HR1.out.lt; omega)
  have HNum := hide (read_num hrd2)
  have HSw := hide (HS1.out.move (w' := w2) fun k hk hlt => hb2.block k hlt)
  clear hrd2 hb2 HOp
  go_wp2_with fail
  refine HNum.out.mono ?_
  unfold stepNum
  simp only [if_pos]
  rw [numOf_ten]
  rintro y w3 ⟨rfl, hrd3, ho3⟩
  have hmM : (numOf bs).2.1 ≤ M := by
    have := numOf_le (bs.take 10)
    rw [numOf_ten, ← HM.out] at this
    exact this
  have hdl : ((bs.take 10).drop (numOf bs).2.1).length = M - (numOf bs).2.1 := by rw [List.length_drop, ← HM.out]
  have HR3 := hide (row_only HR2.out ho3 HG.out)
  have HB3 := hide (show Below w.heap.size w w3 from ho3.below HB2.out HB2.out.size fun k hk e => by subst e; have := hrd3.from; have := HB1.out.size; omega)
  have HS3 := hide (HS.out.bound.move (w' := w3) fun k hk _ => HB3.out.block k hk.2)
  have HLe := hide (left_any hrd3)
  have HFa := hide (fail_any hrd3)
  rw [hdl] at HLe
  have HRd := hide (show rdOne bs = if (numOf bs).2.2 = 2 then .torn else if (numOf bs).2.2 ≠ 0 then .bad (numOf bs).2.2 else if 131072 < (numOf bs).1 then .bad 4 else if bs.length - (numOf bs).2.1 < (numOf bs).1 + 4 then .torn
    else if (sha ((bs.drop (numOf bs).2.1).take (numOf bs).1)).take 4 = (bs.drop ((numOf bs).2.1 + (numOf bs).1)).take 4 then .got ((bs.drop (numOf bs).2.1).take (numOf bs).1) ((numOf bs).2.1 + (numOf bs).1 + 4) else .bad 12 from rfl)
  obtain ⟨n, hn⟩ : ∃ z, z = (numOf bs).1 := ⟨_, rfl⟩
  rw [← hn]
  obtain ⟨m, hm⟩ : ∃ z, z = (numOf bs).2.1 := ⟨_, rfl⟩
  obtain ⟨e, he⟩ : ∃ z, z = (numOf bs).2.2 := ⟨_, rfl⟩
  rw [← hm] at hmM HLe
  rw [← he] at HFa
  rw [← hn, ← hm, ← he, ← HN.out] at HRd
  obtain ⟨F, hF⟩ : ∃ z, z = M - m := ⟨_, rfl⟩
  rw [← hF] at HLe
  obtain ⟨R, hR⟩ : ∃ z, z = N - m := ⟨_, rfl⟩
  rw [← hR] at HRd
  obtain ⟨C, hC⟩ : ∃ z, z = c - m := ⟨_, rfl⟩
  obtain ⟨A1, hA1⟩ : ∃ z, z = (if c = m then A else A.map (·.add m)) := ⟨_, rfl⟩
  have hmn : m ≤ 10 ∧ m ≤ N ∧ F + m = M ∧ R + m = N ∧ C + m = c := by have := HMN.out; omega
  have hsub : IntKind.i64.wrap ((M : Int) - (F : Int)) = (m : Int) := by
    rw [IntWalk.i64_in _ (by omega)]; omega
  have hcut : ∀ u, (Instr.slice 38 (.slice A N c) (some (.int .i64 (m : Int))) none none).run Tryd.prog u = .ok (.slice A1 R C) u := fun u => by
    have h := run_cut u A N c m hmn.2.1 hNc
    unfold cutV at h
    rw [← hA1, ← hR, ← hC] at h
    exact h
  have HSr := hide (show Sl w3 (fun b => Pb b ∧ b < w.heap.size) A1 C (bs.drop m) by
    have h := HS3.out.cut (k := m) (by rw [← HN.out]; exact hmn.2.1)
    rw [← hA1, ← hC] at h
    exact h)
  have HMn := hide hmn
  have HDl := hide (show (bs.drop m).length = R by rw [List.length_drop, ← HN.out, hR])
  have HTb := hide (HT.out.below HB3.out)
  have hnn : n < 18446744073709551616 := by
    rw [hn]
    by_cases h0 : (numOf bs).2.2 = 0
    · exact (numOf_ok bs (numOf bs).1 (numOf bs).2.1 (by rw [← h0])).1
    · rw [(numOf_fail bs (numOf bs).1 (numOf bs).2.1 (numOf bs).2.2 rfl h0).1]; omega
  have c0 := HR3.out.cell 0
  have c1 := HR3.out.cell 1
  have c2 := HR3.out.cell 2
  have c3 := HR3.out.cell 3
  have f0 := HR3.out.free 0
  have f1 := HR3.out.free 1
  have f2 := HR3.out.free 2
  have f3 := HR3.out.free 3
  simp only [List.getElem?_cons_zero, List.getElem?_cons_succ] at c0 c1 c2 c3
  have HEnd := hide (fun (W : World) (x0 x1 x2 x3 : Value) (hW : Row W q tRc [.string ⟨#[]⟩, .slice none 0 0, .int .i64 0, .int .i64 0]) => show Row ((((W.setCell ⟨q, 0, none⟩ x0).setCell ⟨q, 1, none⟩ x1).setCell ⟨q, 2, none⟩ x2).setCell ⟨q, 3, none⟩ x3) q tRc [x0, x1, x2, x3] from (((hW.put 0 x0).put 1 x1).put 2 x2).put 3 x3)
  have HQB := hide (fun (W : World) (x0 x1 x2 x3 : Value) (hW : Below w.heap.size w W) => show Below w.heap.size w ((((W.setCell ⟨q, 0, none⟩ x0).setCell ⟨q, 1, none⟩ x1).setCell ⟨q, 2, none⟩ x2).setCell ⟨q, 3, none⟩ x3) from by
    have hq : w.heap.size ≤ q := Nat.le_of_eq HQ.out.symm
    exact (((hW.setCell (p := ⟨q, 0, none⟩) hq x0).setCell (p := ⟨q, 1, none⟩) hq x1).setCell (p := ⟨q, 2, none⟩) hq x2).setCell (p := ⟨q, 3, none⟩) hq x3)
  clear hrd3 ho3 hdl hn hm he hF hR hC hA1 hmn HNum HSw HR2 HB2 HMN HM hmi hmM hMc HR1 HB1 HS1 HT
  go_wp2_with fail
  refine HLe.out.mono ?_
  rintro y w4 ⟨rfl, rfl⟩
  clear HLe
  go_wp2_with fail
  refine HFa.out.mono ?_
  rintro y w4 ⟨rfl, rfl⟩
  clear hsub hcut hNc
  by_cases he : e = 0
  · subst he
    have hz : (((0 : Nat) : Int) != 0) = false := by rw [bne_eq_false_iff_eq]; rfl
    have hrd : rdOne bs = if 131072 < n then .bad 4 else if R < n + 4 then .torn
        else if (sha ((bs.drop m).take n)).take 4 = (bs.drop (m + n)).take 4 then .got ((bs.drop m).take n) (m + n + 4) else .bad 12 := by
      rw [HRd.out, if_neg (by decide), if_neg (by decide)]
    have HRd := hide hrd
    clear hrd
    by_cases h1 : 131072 < n
    · have hrd : rdOne bs = (if 4 = 2 then .torn else .bad 4) := by rw [HRd.out, if_pos h1]; rfl
      have HA := hide hrd
      have d1 : decide (131072 < n) = true := decide_eq_true h1
      have d2 : decide ((131072 : Int) < (n : Int)) = true := decide_eq_true (by omega)
      clear hrd h1 hnn
      go_wp2
      refine bodyPost_ret (results_cell_row rfl _ _ q tRc #[.string ⟨#[]⟩, .slice none 0 0, .int .i64 0, .int .i64 4] (0, 0) _ rfl (HEnd.out _ _ _ _ _ HR3.out) Tryd.underlying79 rfl size_rc) rfl ?_
      exact rdq_bad (e := 4) HA.out (HQB.out _ _ _ _ _ HB3.out)
    · have hrd : rdOne bs = if R < n + 4 then .torn
          else if (sha ((bs.drop m).take n)).take 4 = (bs.drop (m + n)).take 4 then .got ((bs.drop m).take n) (m + n + 4) else .bad 12 := by
        rw [HRd.out, if_neg h1]
      have HRd := hide hrd
      have d1 : decide (131072 < n) = false := decide_eq_false h1
      have d2 : decide ((131072 : Int) < (n : Int)) = false := decide_eq_false (by omega)
      have hn1 : n ≤ 131072 := by omega
      have hw1 : IntKind.i64.wrap (n : Int) = (n : Int) := IntWalk.i64_in _ (by omega)
      have hw2 : IntKind.i64.wrap ((n : Int) + 4) = (n : Int) + 4 := IntWalk.i64_in _ (by omega)
      clear hrd h1 hnn
      by_cases h2 : R < n + 4
      · have hrd : rdOne bs = (if 2 = 2 then .torn else .bad 2) := by rw [HRd.out, if_pos h2]; rfl
        have HA := hide hrd
        have d3 : decide ((R : Int) < (n : Int) + 4) = true := decide_eq_true (by omega)
        clear hrd h2
        go_wp2
        refine bodyPost_ret (results_cell_row rfl _ _ q tRc #[.string ⟨#[]⟩, .slice none 0 0, .int .i64 0, .int .i64 2] (0, 0) _ rfl (HEnd.out _ _ _ _ _ HR3.out) Tryd.underlying79 rfl size_rc) rfl ?_
        exact rdq_bad (e := 2) HA.out (HQB.out _ _ _ _ _ HB3.out)
      · have hrd : rdOne bs = if (sha ((bs.drop m).take n)).take 4 = (bs.drop (m + n)).take 4 then .got ((bs.drop m).take n) (m + n + 4) else .bad 12 := by
          rw [HRd.out, if_neg h2]
        have HRd := hide hrd
        have d3 : decide ((R : Int) < (n : Int) + 4) = false := decide_eq_false (by omega)
        have hR4 : n + 4 ≤ R := by omega
        have hRC : R ≤ C := by have := HSr.out.1; rw [HDl.out] at this; exact this
        obtain ⟨A2, hA2⟩ : ∃ z, z = (if C = n then A1 else A1.map (·.add n)) := ⟨_, rfl⟩
        obtain ⟨C2, hC2⟩ : ∃ z, z = C - n := ⟨_, rfl⟩
        have hc1 : ∀ u, (Instr.slice 38 (.slice A1 R C) none (some (.int .u64 (n : Int))) none).run Tryd.prog u = .ok (.slice A1 n C) u := fun u => cut_to u A1 R C n (by omega) hRC
        have hc2 : ∀ u, (Instr.slice 38 (.slice A1 R C) (some (.int .u64 (n : Int))) (some (.int .u64 ((n : Int) + 4))) none).run Tryd.prog u = .ok (.slice A2 4 C2) u := fun u => by
          rw [hA2, hC2]; exact cut_mid u A1 R C n (by omega) hRC
        have hu4 : IntKind.u64.wrap ((n : Int) + 4) = (n : Int) + 4 := by rw [IntKind.wrap_u64]; omega
        have HBd := hide (show ((bs.drop m).take n).length = n by rw [List.length_take, HDl.out]; omega)
        have HSb := hide (sl_take HSr.out n)
        have hss : Sl w3 (fun b => Pb b ∧ b < w.heap.size) A2 C2 ((bs.drop (m + n)).take 4) := by
          have h := sl_take (HSr.out.cut (k := n) (by rw [HDl.out]; omega)) 4
          rw [← hA2, ← hC2, List.drop_drop] at h
          exact h
        have HSs := hide hss
        have HSl4 := hide (show ((bs.drop (m + n)).take 4).length = 4 by rw [List.length_take, List.length_drop, ← HN.out]; have := HMn.out; omega)
        obtain ⟨bd, hbd⟩ : ∃ z, z = (bs.drop m).take n := ⟨_, rfl⟩
        obtain ⟨sm, hsm⟩ : ∃ z, z = (bs.drop (m + n)).take 4 := ⟨_, rfl⟩
        rw [← hbd] at HBd HSb HRd
        rw [← hsm] at HSs HSl4 HRd
        have HOf := hide (fun u (hu : Below w3.heap.size w3 u) => of_any bd A1 C _ u (HSb.out.move (w' := u) fun k hk hlt => hu.block k hlt) (HTb.out.below hu) (by rw [HBd.out]; omega))
        rw [HBd.out] at HOf
        have hn2 : n + 4 ≤ R := hR4
        clear hrd h2 hss hA2 hC2 hbd hsm hR4
        have HRow := hide (show Row (w3.drewN 0) q tRc [.string ⟨#[]⟩, .slice none 0 0, .int .i64 0, .int .i64 0] from HR3.out)
        go_wp2
        go_quiet (fail)
        generalize hwd : World.drewN w3 _ = wd
        have hbd3 : Below w3.heap.size w3 wd := by rw [← hwd]; exact below_drewN (Below.refl _ _) _
        have HBD := hide hbd3
        clear hwd hbd3 hc1 hc2 hu4 c0 c1 c2 c3 f0 f1 f2 f3
        go_wp2_with fail
        refine (HOf.out wd HBD.out).mono ?_
        rintro y w5 ⟨rfl, hb5⟩
        have HB35 := hide (HBD.out.trans (hb5.mono HBD.out.size))
        have HR5 := hide (HR3.out.below HB35.out HR3.out.lt)
        have HB5 := hide (HB3.out.trans (HB35.out.mono HB3.out.size))
        have HSb5 := hide (HSb.out.move (w' := w5) fun k hk hlt => HB35.out.block k hlt)
        have hcv := sl_id (show Sl w5.drew (fun b => Pb b ∧ b < w.heap.size) A2 C2 sm from HSs.out.move (w' := w5) fun k hk hlt => HB35.out.block k hlt) HSl4.out.symm
        obtain ⟨id, hid⟩ : ∃ z, z = sha bd := ⟨_, rfl⟩
        have hid32 : id.length = 32 := by rw [hid]; exact sha_len bd
        obtain ⟨sb, hsb⟩ : ∃ z, z = id.take 4 := ⟨_, rfl⟩
        have hcut := front_txt id 4
        rw [← hsb] at hcut
        have hsz : ByteArray.size ⟨id.toArray⟩ = 32 := by simpa [ByteArray.size] using hid32
        rw [← hid, ← hsb] at HRd
        rw [← hid]
        have HId := hide hid
        clear hb5 HBD HB35 HOf hid hsb
        go_wp2
        refine Rg.wp_region_ord (fun _ => True) [(0, true), (2, true), (3, true), (1, false), (4, true)] (by kernel_rfl) (by kernel_rfl) ?_
        simp only [Rg.pick, List.map_cons, List.map_nil, List.getD_cons_zero, List.getD_cons_succ]
        iterate 2 (refine Rg.ord_quiet (v := ?_) rfl (fun w' hS => ?_) trivial ?_; rotate_left; (clear hS; go_simp; with_reducible rfl); simp only [Act.put, List.setIfInBounds_toArray, List.set_cons_succ, List.set_cons_zero])
        refine Rg.ord_quiet (v := .string ⟨sb.toArray⟩) rfl (fun w' hS => ?_) trivial ?_
        · clear hS
          have hil : id.length = 32 := hid32
          go_simp
        simp only [Act.put, List.setIfInBounds_toArray, List.set_cons_succ, List.set_cons_zero]
        refine Rg.ord_loud rfl (fun K hK => ?_)
        go_simp
        refine hK _ _ (fun _ => trivial) ?_
        clear hK K hcv hcut hsz hid32
        by_cases hc : sb = sm
        · have hq : (sm == sb) = true := by rw [hc]; simp
          have hrd : rdOne bs = .got bd (m + n + 4) := by rw [HRd.out, if_pos hc]
          have HA := hide hrd
          clear hrd hc
          iterate 1 (refine Rg.ord_quiet (v := ?_) rfl (fun w' hS => ?_) trivial ?_; rotate_left; (clear hS; go_simp; with_reducible rfl); simp only [Act.put, List.setIfInBounds_toArray, List.set_cons_succ, List.set_cons_zero])
          refine Rg.ord_nil ?_
          generalize hw6 : w5.drew = w6
          have HR6 : Hid (Row w6 q tRc [.string ⟨#[]⟩, .slice none 0 0, .int .i64 0, .int .i64 0]) := by rw [← hw6]; exact HR5
          have HB6 : Hid (Below w.heap.size w w6) := by rw [← hw6]; exact HB5.out.drew
          have HSb6 : Hid (Sl w6 (fun k => Pb k ∧ k < w.heap.size) A1 C bd) := by rw [← hw6]; exact HSb5
          clear hw6
          have c0 := HR6.out.cell 0
          have c1 := HR6.out.cell 1
          have c2 := HR6.out.cell 2
          have c3 := HR6.out.cell 3
          have f0 := HR6.out.free 0
          have f1 := HR6.out.free 1
          have f2 := HR6.out.free 2
          have f3 := HR6.out.free 3
          simp only [List.getElem?_cons_zero, List.getElem?_cons_succ] at c0 c1 c2 c3
          have hw5 : IntKind.i64.wrap ((N : Int) - (R : Int)) = (m : Int) := by
            have := HMn.out
            rw [IntWalk.i64_in _ (by omega)]; omega
          have hw6 : IntKind.i64.wrap ((m : Int) + (n : Int)) = (m : Int) + (n : Int) := IntWalk.i64_in _ (by have := HMn.out; omega)
          have hw7 : IntKind.i64.wrap ((m : Int) + (n : Int) + 4) = (m : Int) + (n : Int) + 4 := IntWalk.i64_in _ (by have := HMn.out; omega)

          go_wp2
          refine bodyPost_ret (results_cell_row rfl _ _ q tRc #[.string ⟨id.toArray⟩, .slice A1 n C, .int .i64 ((m : Int) + (n : Int) + 4), .int .i64 0] (0, 0) _ rfl (HEnd.out w6 _ _ _ _ HR6.out) Tryd.underlying79 rfl size_rc) rfl ?_
          refine ⟨⟨.got bd (m + n + 4), A1, C⟩, HA.out.symm, ?_, ?_, HQB.out w6 _ _ _ _ HB6.out⟩
          · unfold rxC Rx.id Rx.body Rx.size Rx.err
            simp only []
            rw [← HId.out, HBd.out]
            simp
          · refine (HSb6.out.move (w' := (((w6.setCell ⟨q, 0, none⟩ _).setCell ⟨q, 1, none⟩ _).setCell ⟨q, 2, none⟩ _).setCell ⟨q, 3, none⟩ _) fun k hk hlt => ?_).imp fun k _ hk => hk.1
            have hq : w.heap.size ≤ q := Nat.le_of_eq HQ.out.symm
            have hkq : k ≠ q := by have := hk.2; omega
            rw [Below.heap_setCell _ ⟨q, 3, none⟩ _ k hkq, Below.heap_setCell _ ⟨q, 2, none⟩ _ k hkq, Below.heap_setCell _ ⟨q, 1, none⟩ _ k hkq, Below.heap_setCell _ ⟨q, 0, none⟩ _ k hkq]
        · have hq : (sm == sb) = false := by rw [beq_eq_false_iff_ne]; exact fun e => hc e.symm
          have hrd : rdOne bs = (if 12 = 2 then .torn else .bad 12) := by rw [HRd.out, if_neg hc]; rfl
          have HA := hide hrd
          clear hrd hc
          iterate 1 (refine Rg.ord_quiet (v := ?_) rfl (fun w' hS => ?_) trivial ?_; rotate_left; (clear hS; go_simp; with_reducible rfl); simp only [Act.put, List.setIfInBounds_toArray, List.set_cons_succ, List.set_cons_zero])
          refine Rg.ord_nil ?_
          generalize hw6 : w5.drew = w6
          have HR6 : Hid (Row w6 q tRc [.string ⟨#[]⟩, .slice none 0 0, .int .i64 0, .int .i64 0]) := by rw [← hw6]; exact HR5
          have HB6 : Hid (Below w.heap.size w w6) := by rw [← hw6]; exact HB5.out.drew
          have HSb6 : Hid (Sl w6 (fun k => Pb k ∧ k < w.heap.size) A1 C bd) := by rw [← hw6]; exact HSb5
          clear hw6
          have c0 := HR6.out.cell 0
          have c1 := HR6.out.cell 1
          have c2 := HR6.out.cell 2
          have c3 := HR6.out.cell 3
          have f0 := HR6.out.free 0
          have f1 := HR6.out.free 1
          have f2 := HR6.out.free 2
          have f3 := HR6.out.free 3
          simp only [List.getElem?_cons_zero, List.getElem?_cons_succ] at c0 c1 c2 c3

          go_wp2
          refine bodyPost_ret (results_cell_row rfl _ _ q tRc #[.string ⟨#[]⟩, .slice none 0 0, .int .i64 0, .int .i64 12] (0, 0) _ rfl (HEnd.out w6 _ _ _ _ HR6.out) Tryd.underlying79 rfl size_rc) rfl ?_
          exact rdq_bad (e := 12) HA.out (HQB.out w6 _ _ _ _ HB6.out)
  · have hz : ((e : Int) != 0) = true := by rw [bne_iff_ne]; omega
    have hrd : rdOne bs = (if e = 2 then .torn else .bad e) := by
      rw [HRd.out, if_pos he]
    have HA := hide hrd
    clear hrd he
    go_wp2_with fail
    refine HFa.out.mono ?_
    rintro y w4 ⟨rfl, rfl⟩
    go_wp2
    refine bodyPost_ret (results_cell_row rfl _ _ q tRc #[.string ⟨#[]⟩, .slice none 0 0, .int .i64 0, .int .i64 (e : Int)] (0, 0) _ rfl (HEnd.out _ _ _ _ _ HR3.out) Tryd.underlying79 rfl size_rc) rfl ?_
    exact rdq_bad HA.out (HQB.out _ _ _ _ _ HB3.out)
end Go.Proofs.YtcmjdepjckhpdabDoor.So
