/-
  One line of all, on lists: a graph with more, and a graph with what is below some alone.
-/
import Derived.Test.YtplmcpdlommmaaaQCA
import Derived.Test.YtplmcpdlommmaaaQDO
import Derived.Test.YtplmcpdlommmaaaXF
namespace Go.Proofs.Ytplmcpdlommmaaa.Oq
open Tr Dq

/-! ### More -/
/-- all that D knows E knows, too -/
def Ext (D E : List Nd) : Prop := ∀ y, y ∈ bas D → y ∈ bas E
section
variable {D E : List Nd} (hD : Inv D) (hE : Inv E) (hF : Full E) (hx : Ext D E)
include hD hE hF hx
theorem ext_has (id : Bs) (ho : has D id = true) : has E id = true := by
  obtain ⟨r, r1, r2⟩ := hD.rank
  suffices ∀ k id, r id < k → has D id = true → has E id = true from this (r id + 1) id (Nat.lt_succ_self _) ho
  intro k
  induction k with
  | zero => intro id hk; omega
  | succ k ih =>
    intro id hk ho
    obtain ⟨n, hn, rfl, hno⟩ := (has_iff hD.up).1 ho
    obtain ⟨m, hm, e⟩ := List.mem_map.1 (hx (n.id, n.ps) (List.mem_map.2 ⟨n, hn, rfl⟩))
    injection e with e1 e2
    refine (has_iff hE.up).2 ⟨m, hm, e1, ?_⟩
    cases hmo : m.on with
    | true => rfl
    | false =>
      have hr := hF m hm hmo
      rw [ready_iff.2 fun p hp => ?_] at hr
      · cases hr
      · rw [e2] at hp
        obtain ⟨q1, q2⟩ := r2 n hn hno p hp
        exact ih p (by omega) q1
theorem ext_parents (id : Bs) (ho : has D id = true) : parents E id = parents D id := by
  have h2 := ext_has hD hE hF hx id ho
  obtain ⟨n, hn, rfl, hno⟩ := (has_iff hD.up).1 ho
  obtain ⟨m, hm, e⟩ := List.mem_map.1 (hx (n.id, n.ps) (List.mem_map.2 ⟨n, hn, rfl⟩))
  injection e with e1 e2
  rw [parents_of hD.up hn, if_pos hno, ← e1, parents_of hE.up hm, ← e2, if_pos]
  rw [← has_of hE.up hm, e1]; exact h2
theorem ext_level (id : Bs) (ho : has D id = true) : level E id = level D id := by
  obtain ⟨r, _, r2⟩ := hD.ranked
  suffices ∀ k id, r id < k → has D id = true → level E id = level D id from this (r id + 1) id (Nat.lt_succ_self _) ho
  intro k
  induction k with
  | zero => intro id hk; omega
  | succ k ih =>
    intro id hk ho
    rw [level_top hE (ext_has hD hE hF hx id ho), level_top hD ho, ext_parents hD hE hF hx id ho]
    congr 2
    apply List.map_congr_left
    intro p hp
    exact ih p (by have := r2 id p hp; omega) (parents_in hD hp).1
theorem ext_on {a b : Bs} (hb : has D b = true) : On E a b ↔ On D a b := by
  constructor
  · intro h
    induction h with
    | self => exact .self _
    | step hp _ ih =>
      rw [ext_parents hD hE hF hx _ hb] at hp
      exact .step hp (ih (parents_in hD hp).1)
  · intro h
    induction h with
    | self => exact .self _
    | step hp _ ih =>
      refine .step ?_ (ih (parents_in hD hp).1)
      rw [ext_parents hD hE hF hx _ hb]; exact hp
theorem ext_above {a b : Bs} (hb : has D b = true) : above E a b = above D a b := by
  rw [Bool.eq_iff_iff, above_iff hE, above_iff hD, ext_on hD hE hF hx hb, hb, ext_has hD hE hF hx b hb]
theorem ext_bel {l : List Bs} (hl : ∀ x ∈ l, has D x = true) : bel E l = bel D l :=
  bel_ext hD (bel_up hE l) fun a => by
    rw [bel_mem hE]
    constructor
    · rintro ⟨x, h1, h2⟩
      rw [ext_above hD hE hF hx (hl x h1)] at h2
      exact ⟨x, h1, h2⟩
    · rintro ⟨x, h1, h2⟩
      exact ⟨x, h1, by rw [ext_above hD hE hF hx (hl x h1)]; exact h2⟩
theorem ext_ranks {l : List Bs} (hl : ∀ x ∈ l, has D x = true) : ranks E l = ranks D l := by
  refine ranks_ext hD (List.Pairwise.imp_of_mem (fun {a b} ha hb h => ?_) (ranks_up E l)) fun a => ?_
  · have h1 := hl a ((ranks_mem hE).1 ha).1
    have h2 := hl b ((ranks_mem hE).1 hb).1
    unfold rlt at h ⊢
    rw [ext_level hD hE hF hx a h1, ext_level hD hE hF hx b h2] at h
    exact h
  · rw [ranks_mem hE]
    exact ⟨fun h => ⟨h.1, hl a h.1⟩, fun h => ⟨h.1, ext_has hD hE hF hx a h.2⟩⟩
theorem ext_common {a b : List Bs} (ha : ∀ x ∈ a, has D x = true) (hb : ∀ x ∈ b, has D x = true) : common E a b = common D a b := by
  unfold common both
  rw [ext_bel hD hE hF hx ha, ext_bel hD hE hF hx hb, ext_ranks hD hE hF hx fun x hx => bel_has hD (List.mem_filter.1 hx).1]
end
theorem run_app (l m : List Nd) : run (l ++ m) = m.foldl (fun D n => (add D n.id n.ps).1) (run l) := by
  unfold run
  rw [List.foldl_append]
theorem run_ext (l m : List Nd) : Ext (run l) (run (l ++ m)) := by
  rw [run_app]
  suffices ∀ (m : List Nd) (D : List Nd), Inv D → Full D → Ext D (m.foldl (fun D n => (add D n.id n.ps).1) D) from this m _ (run_keeps l).1 (run_keeps l).2.1
  intro m
  induction m with
  | nil => intro D _ _ y h; exact h
  | cons n r ih =>
    intro D h1 h2 y hy
    obtain ⟨q1, q2, q3, _⟩ := add_keeps h1 h2 n.id n.ps
    exact ih _ q1 q2 y ((q3 y).2 (.inl hy))
/-! ### Parents rise -/
def Srt (D : List Nd) : Prop := ∀ n ∈ D, Up n.ps
theorem run_srt (l : List Nd) : Srt (run l) := by
  suffices ∀ (m : List Nd) (D : List Nd), Inv D → Full D → Srt D → Srt (m.foldl (fun D n => (add D n.id n.ps).1) D) from this l [] empty_inv.1 empty_inv.2 fun n hn => (by cases hn)
  intro m
  induction m with
  | nil => intro D _ _ h; exact h
  | cons n r ih =>
    intro D h1 h2 h3
    obtain ⟨q1, q2, q3, _⟩ := add_keeps h1 h2 n.id n.ps
    refine ih _ q1 q2 fun x hx => ?_
    rcases (q3 (x.id, x.ps)).1 (List.mem_map.2 ⟨x, hx, rfl⟩) with k | ⟨_, k⟩
    · obtain ⟨y, hy, e⟩ := List.mem_map.1 k
      injection e with _ e2
      rw [← e2]; exact h3 y hy
    · injection k with _ e2
      rw [e2]; exact sortIds_up n.ps
theorem parents_up {D : List Nd} (h : Srt D) (a : Bs) : Up (parents D a) := by
  unfold parents
  split
  · next n hg =>
    split
    · exact h n (get_some hg).1
    · exact List.Pairwise.nil
  · exact List.Pairwise.nil
/-! ### What is below some, alone -/
def part (D : List Nd) (l : List Bs) : List Nd := run ((bel D l).map fun b => ⟨b, parents D b, false⟩)
section
variable {D : List Nd} (hI : Inv D) (hS : Srt D) (l : List Bs)
include hI hS
theorem part_bas (y : Bs × List Bs) : y ∈ bas (part D l) ↔ ∃ b ∈ bel D l, y = (b, parents D b) := by
  unfold part
  rw [run_bas]
  · constructor
    · rintro ⟨n, hn, rfl⟩
      obtain ⟨b, hb, rfl⟩ := List.mem_map.1 hn
      exact ⟨b, hb, by rw [show (⟨b, parents D b, false⟩ : Nd).ps = parents D b from rfl, sortIds_id (parents_up hS b)]⟩
    · rintro ⟨b, hb, rfl⟩
      refine ⟨_, List.mem_map.2 ⟨b, hb, rfl⟩, ?_⟩
      rw [show (⟨b, parents D b, false⟩ : Nd).ps = parents D b from rfl, sortIds_id (parents_up hS b)]
  · rw [List.map_map]
    rw [show (bel D l).map (Nd.id ∘ fun b => ⟨b, parents D b, false⟩) = bel D l from List.map_id'' (fun _ => rfl) _]
    exact up_once2 (bel_up hI l)
omit hI hS in
theorem part_inv : Inv (part D l) ∧ Full (part D l) := ⟨(run_keeps _).1, (run_keeps _).2.1⟩
theorem part_known {a : Bs} (h : has (part D l) a = true) : a ∈ bel D l := by
  obtain ⟨n, hn, rfl, _⟩ := (has_iff (part_inv (D := D) l).1.up).1 h
  obtain ⟨b, hb, e⟩ := (part_bas hI hS l (n.id, n.ps)).1 (List.mem_map.2 ⟨n, hn, rfl⟩)
  injection e with e1 _
  rw [e1]; exact hb
theorem part_has {a : Bs} : has (part D l) a = true ↔ a ∈ bel D l := by
  refine ⟨part_known hI hS l, fun h => ?_⟩
  obtain ⟨hE, hF⟩ := part_inv (D := D) l
  obtain ⟨r, _, r2⟩ := hI.ranked
  suffices ∀ k a, r a < k → a ∈ bel D l → has (part D l) a = true from this (r a + 1) a (Nat.lt_succ_self _) h
  intro k
  induction k with
  | zero => intro id hk; omega
  | succ k ih =>
    intro a hk ha
    obtain ⟨m, hm, e⟩ := List.mem_map.1 ((part_bas hI hS l (a, parents D a)).2 ⟨a, ha, rfl⟩)
    injection e with e1 e2
    refine (has_iff hE.up).2 ⟨m, hm, e1, ?_⟩
    cases hmo : m.on with
    | true => rfl
    | false =>
      have hr := hF m hm hmo
      rw [ready_iff.2 fun p hp => ?_] at hr
      · cases hr
      · rw [e2] at hp
        exact ih p (by have := r2 a p hp; omega) (bel_down hI ha hp)
theorem part_parents {a : Bs} (ha : a ∈ bel D l) : parents (part D l) a = parents D a := by
  obtain ⟨hE, hF⟩ := part_inv (D := D) l
  obtain ⟨m, hm, e⟩ := List.mem_map.1 ((part_bas hI hS l (a, parents D a)).2 ⟨a, ha, rfl⟩)
  injection e with e1 e2
  have h2 := (part_has hI hS l).2 ha
  rw [← e1, has_of hE.up hm] at h2
  rw [← e2, ← e1, parents_of hE.up hm, if_pos h2]
theorem part_all : all (part D l) true = bel D l :=
  up_ext (all_up2 (part_inv (D := D) l).1 true) (bel_up hI l) fun a => by rw [all_in2 (part_inv (D := D) l).1, part_has hI hS l]
theorem part_next {o : List Bs} {a : Bs} (hn : nextL D o = some a) (ha : a ∈ bel D l) : nextL (part D l) (o.filter fun x => decide (x ∈ bel D l)) = some a := by
  obtain ⟨q1, q2, q3⟩ := nextL_some hn
  refine nextL_is (part_inv (D := D) l).1 ((part_has hI hS l).2 ha) (fun h => q2 (List.mem_filter.1 h).1) (fun p hp => ?_) fun b hb h1 h2 => ?_
  · rw [part_parents hI hS l ha] at hp
    exact List.mem_filter.2 ⟨q3 p hp, by simpa using bel_down hI ha hp⟩
  · have hbb := (part_has hI hS l).1 hb
    refine nextL_least hI hn (bel_has hI hbb) (fun h => h1 (List.mem_filter.2 ⟨h, by simpa using hbb⟩)) fun p hp => ?_
    rw [← part_parents hI hS l hbb] at hp
    exact (List.mem_filter.1 (h2 p hp)).1
theorem part_go : ∀ (f : Nat) (o : List Bs), ∃ g, logF g (part D l) (o.filter fun x => decide (x ∈ bel D l)) = (logF f D o).filter fun x => decide (x ∈ bel D l)
  | 0, o => ⟨0, rfl⟩
  | f + 1, o => by
    cases hn : nextL D o with
    | none => exact ⟨0, by rw [logF_over hn]; rfl⟩
    | some a =>
      obtain ⟨g, hg⟩ := part_go f (o ++ [a])
      have he : logF (f + 1) D o = logF f D (o ++ [a]) := by
        show (match nextL D o with | none => o | some a => logF f D (o ++ [a])) = _
        rw [hn]
      rw [he]
      by_cases ha : a ∈ bel D l
      · refine ⟨g + 1, ?_⟩
        have hp := part_next hI hS l hn ha
        show (match nextL (part D l) _ with | none => _ | some a => logF g (part D l) (_ ++ [a])) = _
        rw [hp]
        rw [List.filter_append, List.filter_cons, if_pos (by simpa using ha)] at hg
        exact hg
      · refine ⟨g, ?_⟩
        rw [List.filter_append, List.filter_cons, if_neg (by simpa using ha), List.filter_nil, List.append_nil] at hg
        exact hg
/-- the line of what is below some is part of the line of all -/
theorem part_log : log (part D l) = (log D).filter fun x => decide (x ∈ bel D l) := by
  obtain ⟨hE, hF⟩ := part_inv (D := D) l
  obtain ⟨g, hg⟩ := part_go hI hS l (all D true).length []
  rw [List.filter_nil] at hg
  change logF g (part D l) [] = (log D).filter _ at hg
  have hover : nextL (part D l) (logF g (part D l) []) = none := by
    cases hn : nextL (part D l) (logF g (part D l) []) with
    | none => rfl
    | some a =>
      obtain ⟨q1, q2, _⟩ := nextL_some hn
      have ha := (part_has hI hS l).1 ((all_in2 hE a).1 q1)
      refine absurd ?_ q2
      rw [hg]
      exact List.mem_filter.2 ⟨(log_mem hI).2 (bel_has hI ha), by simpa using ha⟩
  rw [← hg, ← logF_over hover (all (part D l) true).length, ← logF_add, Nat.add_comm, logF_add]
  exact (logF_over (log_over hE) g).symm
end
/-! ### Ahead -/
/-- does a stand ahead of b? -/
def bef : List Bs → Bs → Bs → Bool
  | [], _, _ => false
  | x :: r, a, b => if x = b then false else if x = a then true else bef r a b
theorem bef_of : ∀ {l1 : List Bs} {a b : Bs} {l2 : List Bs}, b ∉ l1 → a ≠ b → bef (l1 ++ a :: l2) a b = true
  | [], a, b, l2, _, h => by
    show (if a = b then false else if a = a then true else bef l2 a b) = true
    rw [if_neg h, if_pos rfl]
  | x :: r, a, b, l2, h1, h2 => by
    have hx : x ≠ b := fun e => h1 (by rw [e]; exact List.mem_cons_self)
    show (if x = b then false else if x = a then true else bef (r ++ a :: l2) a b) = true
    rw [if_neg hx]
    split
    · rfl
    · exact bef_of (fun h => h1 (List.mem_cons_of_mem _ h)) h2
theorem bef_log {D : List Nd} (hI : Inv D) {a p : Bs} (hp : p ∈ parents D a) : bef (log D) p a = true := by
  have h := log_tld hI
  obtain ⟨l1, l2, e⟩ := List.append_of_mem ((log_mem hI).2 (parents_in hI hp).2)
  have hp1 := h.ahead l1 a l2 e p hp
  obtain ⟨k1, k2, e2⟩ := List.append_of_mem hp1
  have hn := h.once
  rw [e] at hn
  have hna : a ∉ l1 := fun hm => (List.nodup_append.1 hn).2.2 a hm a List.mem_cons_self rfl
  rw [e, e2, List.append_assoc, List.cons_append]
  rw [e2] at hna
  exact bef_of (fun hm => hna (List.mem_append_left _ hm)) fun e3 => hna (by rw [e3]; simp)
theorem bef_ranks {D : List Nd} (hI : Inv D) {l : List Bs} {a p : Bs} (hp : p ∈ parents D a) (_ha : a ∈ l) (hpl : p ∈ l) : bef (ranks D l) p a = true := by
  obtain ⟨h1, h2⟩ := parents_in hI hp
  obtain ⟨l1, l2, e⟩ := List.append_of_mem ((ranks_mem hI).2 ⟨hpl, h1⟩)
  have hu := ranks_up D l
  rw [e] at hu ⊢
  have hne : p ≠ a := fun e2 => by
    have := level_below hI hp
    rw [e2] at this; omega
  refine bef_of (fun hm => ?_) hne
  have := (List.pairwise_append.1 hu).2.2 a hm p List.mem_cons_self
  exact rlt_irr (rlt_trans this (rlt_parent hI hp))
/-! ### In whatever order -/
theorem log_sort {D : List Nd} (hI : Inv D) : sortIds (log D) = all D true := up_ext (sortIds_up _) (all_up2 hI true) fun a => by rw [sortIds_mem, log_mem hI, all_in2 hI]
theorem ranks_sort {D : List Nd} (hI : Inv D) : sortIds (ranks D (all D true)) = all D true := up_ext (sortIds_up _) (all_up2 hI true) fun a => by rw [sortIds_mem, ranks_mem hI, all_in2 hI]; exact ⟨fun h => h.2, fun h => ⟨h, h⟩⟩
theorem ranks_whole {D : List Nd} (hI : Inv D) : (ranks D (all D true)).length = (all D true).length :=
  Nat.le_antisymm (ranks_len hI _) (len_le (up_once2 (all_up2 hI true)) fun x hx => (ranks_mem hI).2 ⟨hx, (all_in2 hI x).1 hx⟩)
/-! ### What two have in common -/
theorem common_sw {D : List Nd} (hI : Inv D) (a b : List Bs) : common D a b = common D b a := by
  cases h : common D b a with
  | none => exact common_none hI fun y h1 h2 => common_not hI h y h2 h1
  | some m =>
    obtain ⟨q1, q2, q3⟩ := common_some hI h
    exact common_is hI q2 q1 fun y h1 h2 => q3 y h2 h1
theorem bel_one {D : List Nd} (hI : Inv D) {x a : Bs} : a ∈ bel D [x] ↔ above D a x = true := by
  rw [bel_mem hI]
  simp
theorem on_level {D : List Nd} (hI : Inv D) {a b : Bs} (h : On D a b) : a = b ∨ level D a < level D b := by
  induction h with
  | self => exact .inl rfl
  | step hp _ ih =>
    have := level_below hI hp
    rcases ih with e | k
    · rw [e]; exact .inr this
    · exact .inr (by omega)
/-- of two, of which one stands on the other one, it is that one -/
theorem common_above {D : List Nd} (hI : Inv D) {x y : Bs} (h : above D x y = true) : common D [x] [y] = some x := by
  obtain ⟨h1, h2⟩ := (above_iff hI).1 h
  have hx := on_has hI h2 h1
  refine common_is hI ((bel_one hI).2 (above_self hI hx)) ((bel_one hI).2 h) fun z hz _ => ?_
  rcases on_level hI ((above_iff hI).1 ((bel_one hI).1 hz)).2 with e | k
  · exact .inl e
  · exact .inr (.inl k)
end Go.Proofs.Ytplmcpdlommmaaa.Oq
namespace Go.Proofs.Ytplmcpdlommmaaa.Oq
open Go Go.RowKit Kt Kg Lw Tr Dq

/-- a graph of a size that is looked at -/
structure Sm (D : List Nd) : Prop where
  few : D.length ≤ 38
  ids : ∀ n ∈ D, n.id.length ≤ 40 ∧ n.ps.length ≤ 6 ∧ ∀ p ∈ n.ps, p.length ≤ 40
theorem Sm.parents {D : List Nd} (h : Sm D) (a : Bs) : (parents D a).length ≤ 6 ∧ ∀ p ∈ parents D a, p.length ≤ 40 := by
  unfold Dq.parents
  cases hg : get D a with
  | none => exact ⟨Nat.zero_le _, fun p hp => by cases hp⟩
  | some n =>
    have := h.ids n (get_some hg).1
    simp only
    split
    · exact this.2
    · exact ⟨Nat.zero_le _, fun p hp => by cases hp⟩
theorem Sm.all {D : List Nd} (h : Sm D) (b : Bool) : ∀ a ∈ all D b, a.length ≤ 40 := fun a ha => by
  unfold Dq.all at ha
  obtain ⟨n, hn, rfl⟩ := List.mem_map.1 ha
  exact (h.ids n (List.mem_filter.1 hn).1).1
theorem vs_rest {w : World} {P : Nat → Prop} {A : Option Addr} {c : Nat} {x : Bs} {l : List Bs} (h : Vs w P A c (texts (x :: l))) : Vs w P (if c = 1 then A else A.map (·.add 1)) (c - 1) (texts l) := by
  obtain ⟨b, o, rfl, hp, hc⟩ := h.2 (by simp [texts])
  have h1 := h.1
  rw [texts_len, List.length_cons] at h1
  refine ⟨by rw [texts_len]; omega, fun hn => ?_⟩
  rw [texts_len] at hn
  rw [if_neg (by omega)]
  refine ⟨b, o + 1, by simp [Addr.add_mid], hp, fun j v hj => ?_⟩
  have := hc (j + 1) v (by simpa [texts] using hj)
  rw [show o + (j + 1) = o + 1 + j from by omega] at this
  exact this
theorem app_zero (z : Bs) : (⟨z.toArray⟩ : ByteArray) ++ ⟨#[0]⟩ = ⟨(z ++ [0]).toArray⟩ := by
  apply ByteArray.ext
  simp
set_option maxRecDepth 100000 in
set_option maxHeartbeats 4000000 in
/-- order.Log -/
theorem pLog_any {w0 : World} {In : World → (Nat → Prop) → Nat → List Nd → Prop} (C : Cd w0 In) {w : World} {S : Nat → Prop} {g : Nat} {D : List Nd} (hlow : Below w0.heap.size w0 w) (h : In w S g D) (hK : Okd D) (hSm : Sm D) :
    Calls Try.prog 33 #[pt g] w fun y w' => ∃ A c, y = .returned (.slice A (log D).length c) ∧ Vs w' (fun b => w.heap.size ≤ b ∧ b < w'.heap.size) A c (texts (log D)) ∧ Below w.heap.size w w' := by
  have HIds := hide (C.ids hlow h hK)
  have HC := hide C
  have HLow := hide hlow
  have HIn := hide h
  have HK := hide hK
  have HSm := hide hSm
  have HI := hide hK.inv
  have HAll := hide (hSm.all true)
  have HLen := hide (show (all D true).length ≤ 38 from Nat.le_trans (all_len D true) hSm.few)
  clear h hK hSm hlow C
  go_enter Try.func33, Try.ntmps33
  go_wp2_with fail
  refine HIds.out.mono ?_
  rintro y w1 ⟨v1, rfl, ho1, hb1⟩
  obtain ⟨A1, c1, rfl, hv1, _⟩ := own_vs ho1
  have HV1 := hide hv1
  have HB1 := hide hb1
  obtain ⟨N, hN⟩ : ∃ N, N = (all D true).length := ⟨_, rfl⟩
  rw [← hN] at HLen ⊢
  have HN := hide hN
  have hNl : N ≤ 38 := HLen.out
  clear hN ho1 hb1 hv1 HIds
  by_cases h0 : N = 0
  · have HF := hide (show log D = [] from List.length_eq_zero_iff.1 (by rw [log_len HI.out, ← HN.out, h0]))
    subst h0
    go_wp2
    go_ret
    exact ⟨none, 0, by rw [HF.out]; rfl, by rw [HF.out]; exact ⟨Nat.zero_le _, fun h => by simp [texts] at h⟩, HB1.out⟩
  · obtain ⟨m, rfl⟩ : ∃ m, N = m + 1 := ⟨N - 1, by omega⟩
    have hne : (((m + 1 : Nat) : Int) == 0) = false := by rw [beq_eq_false_iff_ne]; omega
    obtain ⟨z, hz⟩ : ∃ z, (all D true)[m]? = some z := ⟨_, List.getElem?_eq_getElem (by have := HN.out; omega)⟩
    obtain ⟨ab, ao, rfl, _, cz⟩ := vs_at HV1.out hz
    have e1 : ((m + 1 : Nat) : Int) - 1 = ((m : Nat) : Int) := by omega
    have HLast := hide (show (all D true).getLast? = some z from by rw [List.getLast?_eq_getElem?, ← HN.out, Nat.add_sub_cancel]; exact hz)
    have hz40 := HAll.out z (List.mem_of_getElem? hz)
    clear h0 hz
    have happ := app_zero z
    obtain ⟨f, hf⟩ : ∃ f, f = z ++ [0] := ⟨_, rfl⟩
    rw [← hf] at happ
    have HTop := hide (show ∀ a ∈ all D true, lt a f = true from by rw [hf]; exact first_top HI.out HLast.out 0)
    have hf41 : f.length ≤ 41 := by rw [hf, List.length_append]; simp; omega
    have HNew := hide (HC.out.new (w := w1) (HLow.out.trans (HB1.out.mono HLow.out.size)))
    have HCell := hide (show ∀ W, Below w1.heap.size w1 W → ∀ k x, (all D true)[k]? = some x → W.cell? ⟨ab, ao + k, none⟩ = some (.string ⟨x.toArray⟩) from fun W hW k x hk => by
      obtain ⟨b2, o2, e, hb2, ck⟩ := vs_at HV1.out hk
      injection e with e
      injection e with e1 e2 _
      subst e1 e2
      exact (World.cell?_of_block (hW.block ab hb2)).trans ck)
    clear hf HLast
    go_wp2_with fail
    refine HNew.out.mono ?_
    rintro y w2 ⟨g2, S2, rfl, hin2, hs2, hb2⟩
    have HIn2 := hide hin2
    have HS2 := hide hs2
    have HB2 := hide hb2
    clear hin2 hs2 hb2 HNew cz hne hz40
    go_wp2
    go_loopw [23] (fun i wr => ∃ (k : Nat) (S' : Nat → Prop), i = .int .i64 k ∧ k ≤ m + 1 ∧ Hid (In wr S' g2 (wts D f ((all D true).take k))) ∧ Hid (Okd (wts D f ((all D true).take k))) ∧ Hid (∀ b, S' b → w1.heap.size ≤ b) ∧ Hid (Below w1.heap.size w1 wr)) (fun i _ => m + 1 - (intOf i).toNat)
    case atStart => exact ⟨0, S2, rfl, Nat.zero_le _, by show Hid _; exact HIn2, by show Hid _; exact hide Okd.nil, by show Hid _; exact HS2, by show Hid _; exact HB2⟩
    case round =>
      clear HIn2 HS2 HB2
      obtain ⟨k, S', rfl, hk, HIw, HOk, HS', HBw⟩ := hrel
      have hlowr := HLow.out.trans ((HB1.out.trans (HBw.out.mono HB1.out.size)).mono HLow.out.size)
      by_cases hlt : k < m + 1
      · obtain ⟨x, hxk⟩ : ∃ z, (all D true)[k]? = some z := ⟨_, List.getElem?_eq_getElem (by have := HN.out; omega)⟩
        have hck := HCell.out wr HBw.out k x hxk
        have HNx := hide (again_next HI.out HTop.out hxk)
        have hxl := HAll.out x (List.mem_of_getElem? hxk)
        have HPa := hide (HC.out.parents x hlowr (HC.out.below HIn.out (HB1.out.trans (HBw.out.mono HB1.out.size))) HK.out (by omega))
        have HXl := hide hxl
        clear hxk hxl
        go_wp2_with fail
        refine HPa.out.mono ?_
        rintro y w3 ⟨v3, rfl, ho3, hb3⟩
        obtain ⟨A3, c3, rfl, _⟩ := own_vs ho3
        have HO3 := hide ho3
        have HB3 := hide (HBw.out.trans (hb3.mono HBw.out.size))
        have HI3 := hide (HC.out.below HIw.out hb3)
        have HSl := hide (show ∀ b, S' b → b < wr.heap.size from HC.out.lt HIw.out)
        have hsz3 := hb3.size
        have hpl : (parents D x).length + 1 ≤ 1000000000 := by have := (HSm.out.parents x).1; omega
        clear ho3 hb3 HPa hck
        go_wp2_with (at_builtin; go_loud (refine wpList_pushI rfl (.tmp 31) (.tmp 33) rfl wr.heap.size w3 _ (parents D x) f _ rfl rfl rfl HO3.out hpl (Below.refl _ _) hsz3 ?_; intro v4 w4 hown4 hb4 _ _; have HO4 := hide hown4; have HB4 := hide hb4; clear hown4 hb4))
        obtain ⟨A4, c4, rfl, hv4, hin4⟩ := own_vs HO4.out
        have hb34 : Below w1.heap.size w3 w4 := HB4.out.mono HBw.out.size
        have HB14 := hide (HB3.out.trans hb34)
        have hlow4 := HLow.out.trans ((HB1.out.trans (HB14.out.mono HB1.out.size)).mono HLow.out.size)
        have hpx := HSm.out.parents x
        have hadd := HC.out.add (w := w4) x (parents D x ++ [f]) A4 c4 _ hlow4 (HC.out.move HI3.out (fun b hb => HB4.out.block b (HSl.out b hb)) HB4.out.size) HOk.out (by rw [wts_len, List.length_take]; omega) (fun b hb => by have := HS'.out b hb; have := HB1.out.size; have := HLow.out.size; omega) hin4
          (fun b hb hs => by have := (World.ownsRow.lt HO4.out b hb).1; have := HSl.out b hs; omega) (by have := HXl.out; omega) (by rw [List.length_append]; simp; omega) (fun p hp => by
            rcases List.mem_append.1 hp with hp | hp
            · have := hpx.2 p hp; omega
            · rw [List.mem_singleton.1 hp]; omega)
        have hok2 := (HOk.out.add (by rw [wts_len, List.length_take]; omega) (id := x) (ps := parents D x ++ [f]) (by have := HXl.out; omega) ⟨by rw [List.length_append]; simp; omega, fun p hp => by
            rcases List.mem_append.1 hp with hp | hp
            · have := hpx.2 p hp; omega
            · rw [List.mem_singleton.1 hp]; omega⟩).1
        rw [HNx.out] at hok2 hadd
        have HAdd := hide hadd
        have HOk2 := hide hok2
        have HSz := hide (show wr.heap.size ≤ w4.heap.size from Nat.le_trans hsz3 HB4.out.size)
        generalize (parents D x ++ [f]).length = np at *
        clear hb34 hlow4 hpx hadd hok2 hv4 hin4 HI3 hsz3 hpl HO3 HO4
        go_wp2_with fail
        refine HAdd.out.mono ?_
        rintro y w5 ⟨v5, S5, rfl, q1, q2, q3, q4, q5⟩
        have HI5 := hide q2
        have HS5 := hide (show ∀ b, S5 b → w1.heap.size ≤ b from fun b hb => by
          rcases q4 b hb with k | k
          · exact HS'.out b k
          · have := HB14.out.size; omega)
        have HB5 := hide (show Below w1.heap.size w1 w5 from q3.below HB14.out HB14.out.size fun k hk hs => by have := HS'.out k hs; omega)
        clear q1 q2 q3 q4 q5 HAdd
        go_wp2
        exact ⟨⟨k + 1, S5, by go_num, by omega, by show Hid _; exact HI5, by show Hid _; exact HOk2, by show Hid _; exact HS5, by show Hid _; exact HB5⟩, by simp [intOf]; omega⟩
      · obtain rfl : k = m + 1 := by omega
        have hwa : wts D f ((all D true).take (m + 1)) = wts D f (all D true) := by rw [HN.out, List.take_length]
        rw [hwa] at HIw HOk
        have HTl := hide (again_tells HI.out HTop.out)
        have hadd := HC.out.add (w := wr) f [] none 0 (fun _ => False) hlowr HIw.out HOk.out (by rw [wts_len]; have := HN.out; omega) (fun b hb => by have := HS'.out b hb; have := HB1.out.size; have := HLow.out.size; omega) ⟨Nat.zero_le _, fun h => by simp [texts] at h⟩ (fun b hb => hb.elim) (by omega) (Nat.zero_le _) (fun p hp => by cases hp)
        rw [HTl.out] at hadd
        have HAdd := hide hadd
        clear hwa hadd hlt
        go_wp2_with fail
        refine HAdd.out.mono ?_
        rintro y w5 ⟨v5, S5, rfl, q1, q2, q3, q4, q5⟩
        obtain ⟨A5, c5, rfl, _, hv5⟩ := own_vs q1
        obtain ⟨g5, rfl⟩ : ∃ g5, A5 = some ⟨g5, 0, none⟩ := by
          rcases q1.2 with ⟨_, h2⟩ | ⟨g5, _, _, h1, _⟩
          · cases h2
          · injection h1 with h1; exact ⟨g5, h1⟩
        have HV5 := hide (vs_rest (vs_imp hv5 (Q := fun b => w.heap.size ≤ b ∧ b < w5.heap.size) fun b hb hs => ⟨by have := (World.ownsRow.lt q1 b hs).1; have := HBw.out.size; have := HB1.out.size; omega, hb⟩))
        have hle := hv5.1
        rw [texts_len, List.length_cons] at hle
        have HLw := hide ((HB1.out.trans (HBw.out.mono HB1.out.size)).trans (show Below w.heap.size wr w5 from q3.below (Below.refl _ _) (by have := HBw.out.size; have := HB1.out.size; omega) fun k hk hs => by have := HS'.out k hs; have := HB1.out.size; omega))
        rw [List.length_cons]
        obtain ⟨n1, hn1⟩ : ∃ n1, n1 = (log D).length := ⟨_, rfl⟩
        rw [← hn1] at hle ⊢
        have HN1 := hide hn1
        clear q1 q2 q3 q4 q5 hv5 hn1 HAdd
        by_cases hc : c5 = 1
        · subst hc
          obtain rfl : n1 = 0 := by omega
          have HV6 := hide (show Vs w5 (fun b => w.heap.size ≤ b ∧ b < w5.heap.size) (some ⟨g5, 0, none⟩) 0 (texts (log D)) from by have := HV5.out; rwa [if_pos rfl] at this)
          go_wp2
          go_ret
          exact ⟨some ⟨g5, 0, none⟩, 0, by rw [← HN1.out]; rfl, HV6.out, HLw.out⟩
        · have HV6 := hide (show Vs w5 (fun b => w.heap.size ≤ b ∧ b < w5.heap.size) (some ⟨g5, 1, none⟩) (c5 - 1) (texts (log D)) from by
            have := HV5.out
            rw [if_neg hc] at this
            simpa [Addr.add_mid] using this)
          have hc2 : (c5 == 1) = false := by rw [beq_eq_false_iff_ne]; exact hc
          go_wp2
          go_ret
          exact ⟨_, _, by rw [← HN1.out]; rfl, HV6.out, HLw.out⟩
end Go.Proofs.Ytplmcpdlommmaaa.Oq
