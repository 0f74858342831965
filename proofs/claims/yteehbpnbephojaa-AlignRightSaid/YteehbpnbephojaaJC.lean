/-
  The loop over the clusters, on lists: what it keeps.
-/
import Derived.Test.YteehbpnbephojaaJB
namespace Go.Proofs.Yteehbpnbephojaa.Al
open Go.Proofs.Yteehbpnbephojaa.Df

/-- no two stable ones are neighbours, and no two others -/
def Alt (l : List Rg) : Prop := ∀ i r r', l[i]? = some r → l[i + 1]? = some r' → ¬ (r.kind = 0 ↔ r'.kind = 0)
theorem Alt.snoc {l : List Rg} {r : Rg} (h : Alt l) (hr : ∀ q, l.getLast? = some q → ¬ (q.kind = 0 ↔ r.kind = 0)) : Alt (l ++ [r]) := by
  intro i p p' h1 h2
  rcases Nat.lt_or_ge (i + 1) l.length with hi | hi
  · rw [List.getElem?_append_left (by omega)] at h1
    rw [List.getElem?_append_left hi] at h2
    exact h i p p' h1 h2
  · have h3 : i + 1 = l.length := by
      have := (List.getElem?_eq_some_iff.1 h2).1
      simp at this; omega
    rw [List.getElem?_append_left (by omega)] at h1
    rw [List.getElem?_append_right hi, h3, Nat.sub_self] at h2
    simp at h2
    subst h2
    refine hr p ?_
    rw [List.getLast?_eq_getElem?, ← h1]
    congr 1
    omega
/-- what holds where a cluster begins -/
structure Inv (o a b : Ls) (s : St) (l : List (Bool × Ed)) : Prop where
  at_ : ∃ X Y Z : Nat, s.x = X ∧ s.y = Y ∧ s.z = Z ∧ X ≤ o.length ∧ Y ≤ a.length ∧ Z ≤ b.length ∧ a.drop Y = play o X (ofS false l) ∧ b.drop Z = play o X (ofS true l)
  last : ∃ last : Int, -1 ≤ last ∧ s.x ≤ last + 1 ∧ right o.length last (ofS false l) = true ∧ right o.length last (ofS true l) = true
  srt : Srt l
  far : Far o a b 0 0 0 s.l s.x s.y s.z
  alt : Alt s.l
  pos : ∀ r ∈ s.l, 1 ≤ r.on + r.an + r.bn
  gap : ∀ q, s.l.getLast? = some q → q.kind ≠ 0 ∧ ∀ p ∈ l, s.x < p.2.pos
theorem cut_is (l S R : Ls) (X : Nat) (n : Int) (h : l.drop X = S ++ R) (hn : (S.length : Int) = n) : cut l X n = S := by
  unfold cut
  rw [Int.toNat_natCast, h, ← hn, Int.toNat_natCast, List.take_left]
/-- one region more -/
theorem add_ok {o a b : Ls} {s : St} {c : Cl} {X Y Z t : Nat} {SA SB RA RB : Ls} (hx : s.x = X) (hy : s.y = Y) (hz : s.z = Z) (_hX : X ≤ o.length) (hY : Y ≤ a.length) (hZ : Z ≤ b.length) (hf : c.fr = X) (ht : c.to = t) (hXt : X ≤ t) (hto : t ≤ o.length)
    (ha : a.drop Y = SA ++ RA) (hb : b.drop Z = SB ++ RB) (hla : (SA.length : Int) = t - X + c.m0) (hlb : (SB.length : Int) = t - X + c.m1)
    (h0 : c.n0 = 0 → SA = (o.drop X).take (t - X)) (h1 : c.n1 = 0 → SB = (o.drop X).take (t - X)) (hfar : Far o a b 0 0 0 s.l s.x s.y s.z) :
    (s.add a b c).x = t ∧ (s.add a b c).y = (Y + SA.length : Nat) ∧ (s.add a b c).z = (Z + SB.length : Nat) ∧ Y + SA.length ≤ a.length ∧ Z + SB.length ≤ b.length ∧ a.drop (Y + SA.length) = RA ∧ b.drop (Z + SB.length) = RB ∧
    Far o a b 0 0 0 (s.add a b c).l (s.add a b c).x (s.add a b c).y (s.add a b c).z := by
  have e1 : c.to - c.fr = (t : Int) - X := by rw [hf, ht]
  have eo : cut o (X : Int) (t - X) = (o.drop X).take (t - X) := by unfold cut; rw [Int.toNat_natCast]; congr 1; omega
  have ca : cut a s.y (c.to - c.fr + c.m0) = SA := by rw [hy]; exact cut_is a SA RA Y _ ha (by rw [hla, e1])
  have cb : cut b s.z (c.to - c.fr + c.m1) = SB := by rw [hz]; exact cut_is b SB RB Z _ hb (by rw [hlb, e1])
  have la : SA.length ≤ a.length - Y := by rw [← List.length_drop, ha, List.length_append]; omega
  have lb : SB.length ≤ b.length - Z := by rw [← List.length_drop, hb, List.length_append]; omega
  have xa : (s.add a b c).x = (t : Int) := by show s.x + (c.to - c.fr) = _; omega
  have ya : (s.add a b c).y = ((Y + SA.length : Nat) : Int) := by show s.y + (c.to - c.fr + c.m0) = _; omega
  have za : (s.add a b c).z = ((Z + SB.length : Nat) : Int) := by show s.z + (c.to - c.fr + c.m1) = _; omega
  refine ⟨xa, ya, za, by omega, by omega, ?_, ?_, ?_⟩
  · rw [← List.drop_drop, ha, List.drop_left]
  · rw [← List.drop_drop, hb, List.drop_left]
  · refine Far.snoc hfar ?_
    unfold chk
    simp only [ca, cb]
    rw [hx, hy, hz, show cut o (X : Int) (c.to - c.fr) = (o.drop X).take (t - X) from by rw [e1, eo]]
    rw [Bool.and_eq_true, Bool.and_eq_true, Bool.and_eq_true, fol_yes, fol_yes, fol_yes]
    refine ⟨⟨⟨⟨rfl, by omega, by omega⟩, rfl, by omega, by omega⟩, rfl, by omega, by omega⟩, ?_⟩
    unfold holdsK kindOf
    by_cases k0 : c.n0 = 0
    · by_cases k1 : c.n1 = 0
      · simp [k0, k1, h0 k0, h1 k1]
      · simp [k0, k1, h0 k0]
    · by_cases k1 : c.n1 = 0
      · simp [k0, k1, h1 k1]
      · by_cases k2 : SA = SB
        · simp [k0, k1, k2]
        · simp [k0, k1, k2]
theorem add_last (a b : Ls) (s : St) (c : Cl) : (s.add a b c).l.getLast? = some ⟨kindOf c (cut a s.y (c.to - c.fr + c.m0)) (cut b s.z (c.to - c.fr + c.m1)), s.x, c.to - c.fr, s.y, c.to - c.fr + c.m0, s.z, c.to - c.fr + c.m1⟩ := by
  simp [St.add]
theorem kind_zero {c : Cl} {p q : Ls} (_h0 : 0 ≤ c.n0) (_h1 : 0 ≤ c.n1) : kindOf c p q = 0 ↔ c.n0 = 0 ∧ c.n1 = 0 := by
  unfold kindOf
  by_cases k0 : c.n0 = 0
  · by_cases k1 : c.n1 = 0 <;> simp [k0, k1]
  · by_cases k1 : c.n1 = 0
    · simp [k0, k1]
    · by_cases k2 : p = q <;> simp [k0, k1, k2]
/-- what stands ahead of a cluster, or behind the last one -/
theorem keep_ok {o a b : Ls} {s : St} {l : List (Bool × Ed)} (h : Inv o a b s l) (t : Nat) (ht : t ≤ o.length) (hl : ∀ p ∈ l, (t : Int) ≤ p.2.pos) (hs : s.x ≤ t) (hg : s.l ≠ [] → l = [] ∨ s.x < t) :
    ∃ Y Z : Nat, (s.keep a b t).x = t ∧ (s.keep a b t).y = Y ∧ (s.keep a b t).z = Z ∧ Y ≤ a.length ∧ Z ≤ b.length ∧ a.drop Y = play o t (ofS false l) ∧ b.drop Z = play o t (ofS true l) ∧
      Far o a b 0 0 0 (s.keep a b t).l (s.keep a b t).x (s.keep a b t).y (s.keep a b t).z ∧ Alt (s.keep a b t).l ∧ (∀ r ∈ (s.keep a b t).l, 1 ≤ r.on + r.an + r.bn) ∧
      (l ≠ [] → ∀ q, (s.keep a b t).l.getLast? = some q → q.kind = 0) := by
  obtain ⟨X, Y, Z, hx, hy, hz, hX, hY, hZ, ha, hb⟩ := h.at_
  have hXt : X ≤ t := by omega
  have pa := play_keep o X t (ofS false l) hXt ht fun e he => hl _ (mem_ofS.1 he)
  have pb := play_keep o X t (ofS true l) hXt ht fun e he => hl _ (mem_ofS.1 he)
  have ls : ((o.drop X).take (t - X)).length = t - X := by rw [List.length_take, List.length_drop]; omega
  unfold St.keep
  by_cases hlt : s.x < (t : Int)
  · rw [if_pos hlt]
    obtain ⟨a1, a2, a3, a4, a5, a6, a7, a8⟩ := add_ok (o := o) (c := ⟨s.x, t, 0, 0, 0, 0⟩) hx hy hz hX hY hZ hx rfl hXt ht (ha.trans pa) (hb.trans pb) (by rw [ls]; simp; omega) (by rw [ls]; simp; omega) (fun _ => rfl) (fun _ => rfl) h.far
    refine ⟨_, _, a1, a2, a3, a4, a5, a6, a7, a8, ?_, ?_, ?_⟩
    · refine h.alt.snoc fun q hq => ?_
      have := (h.gap q hq).1
      rw [kind_zero (by simp) (by simp)]
      simp [this]
    · intro r hr
      rcases List.mem_append.1 hr with hr | hr
      · exact h.pos r hr
      · simp at hr; subst hr; simp; omega
    · intro _ q hq
      rw [add_last] at hq
      cases hq
      rfl
  · rw [if_neg hlt]
    have e : X = t := by omega
    subst e
    refine ⟨Y, Z, hx, hy, hz, hY, hZ, ha, hb, h.far, h.alt, h.pos, fun hn q hq => ?_⟩
    rcases hg (fun e => by rw [e] at hq; cases hq) with h' | h'
    · exact absurd h' hn
    · exact absurd h' hlt
theorem take_first (d : Bool) (e : Ed) (h : 0 ≤ e.pos) (h' : 0 ≤ e.del) : (Cl.zero e.pos).take d e = ⟨e.pos, e.pos + e.del, if d then 0 else 1, if d then 0 else e.ins.length - e.del, if d then 1 else 0, if d then e.ins.length - e.del else 0⟩ := by
  cases d <;> simp [Cl.zero, Cl.take] <;> omega
/-- a cluster, with what stands ahead of it -/
theorem step_ok {o a b : Ls} {s : St} {d : Bool} {e : Ed} {r : List (Bool × Ed)} (h : Inv o a b s ((d, e) :: r)) :
    Inv o a b ((s.keep a b (grow ((Cl.zero e.pos).take d e) r).1.fr).add a b (grow ((Cl.zero e.pos).take d e) r).1) (grow ((Cl.zero e.pos).take d e) r).2 := by
  obtain ⟨last, hl1, hl2, hr0, hr1⟩ := h.last
  have hlow : ∀ p ∈ (d, e) :: r, last < p.2.pos ∧ 0 ≤ p.2.del ∧ p.2.pos + p.2.del ≤ o.length ∧ (p.2.del ≠ 0 ∨ p.2.ins ≠ []) := by
    rintro ⟨q, f⟩ hp
    cases q
    · exact right_low hr0 hl1 f (mem_ofS.2 hp)
    · exact right_low hr1 hl1 f (mem_ofS.2 hp)
  obtain ⟨e1, e2, e3, e4⟩ := hlow (d, e) (by simp)
  simp only at e1 e2 e3 e4
  obtain ⟨srt1, srt2⟩ := List.pairwise_cons.1 h.srt
  obtain ⟨c0, hc0⟩ : ∃ c0, c0 = (Cl.zero e.pos).take d e := ⟨_, rfl⟩
  have tf := take_first d e (by omega) e2
  rw [← hc0] at tf ⊢
  have htg := tak_grow c0 r
  have hgi := grow_is c0 r
  have hrest := grow_rest c0 r srt2
  obtain ⟨T, hT⟩ : ∃ T, T = tak c0 r := ⟨_, rfl⟩
  obtain ⟨R, hR⟩ : ∃ R, R = (grow c0 r).2 := ⟨_, rfl⟩
  rw [← hT] at htg hgi
  rw [← hR] at htg hrest ⊢
  obtain ⟨c, hc⟩ : ∃ c, c = (grow c0 r).1 := ⟨_, rfl⟩
  rw [← hc] at hgi hrest ⊢
  have htm : ∀ p ∈ T, p ∈ r := fun p hp => by rw [← htg]; exact List.mem_append_left _ hp
  have hte := ends_mem c0.to T
  have htl := ends_le c0.to o.length T (by rw [tf]; exact e3) fun p hp => (hlow p (by simp [htm p hp])).2.2.1
  have htg0 := ends_ge c0.to T
  have cfr : c.fr = e.pos := by rw [hgi, tf]
  have cto : c.to = ends c0.to T := by rw [hgi]
  have hto0 : c0.to = e.pos + e.del := by rw [tf]
  rw [← cto, hto0] at htg0
  obtain ⟨t, ht⟩ := Int.eq_ofNat_of_zero_le (show 0 ≤ c.to by omega)
  obtain ⟨p, hp⟩ := Int.eq_ofNat_of_zero_le (show 0 ≤ e.pos by omega)
  have hpt : p ≤ t := by omega
  have hto : t ≤ o.length := by rw [← cto] at htl; omega
  have key := keep_ok h p (by omega) (by
      rintro ⟨q, f⟩ hq
      rcases List.mem_cons.1 hq with h' | h'
      · cases h'; simp only; omega
      · have := srt1 _ h'; simp only at this ⊢; omega) (by omega) (fun hne => .inr (by
        obtain ⟨q, hq⟩ : ∃ q, s.l.getLast? = some q := by
          cases hg : s.l.getLast? with
          | none => exact absurd (List.getLast?_eq_none_iff.1 hg) hne
          | some q => exact ⟨q, rfl⟩
        have := (h.gap q hq).2 (d, e) (by simp)
        simp only at this; omega))
  rw [cfr, hp]
  obtain ⟨Y, Z, k1, k2, k3, k4, k5, k6, k7, k8, k9, k10, k11⟩ := key
  obtain ⟨s', hs'⟩ : ∃ s', s' = s.keep a b (p : Int) := ⟨_, rfl⟩
  rw [← hs'] at k1 k2 k3 k8 k9 k10 k11 ⊢
  have hofs : ∀ q, ofS q ((d, e) :: r) = ofS q ((d, e) :: T) ++ ofS q R := fun q => by rw [← ofS_append, List.cons_append, htg]
  have hTend : ∀ q, ∀ f ∈ ofS q ((d, e) :: T), f.pos + f.del ≤ t := by
    intro q f hf
    rcases List.mem_cons.1 (mem_ofS.1 hf) with h' | h'
    · cases h'; omega
    · have := hte _ h'; rw [← cto] at this; simp only at this; omega
  have hRpos : ∀ q, ∀ f ∈ ofS q R, (t : Int) < f.pos := fun q f hf => by have := hrest _ (mem_ofS.1 hf); simp only at this; omega
  have hpp : ∀ q, ∀ f ∈ ofS q ((d, e) :: r), (p : Int) - 1 < f.pos := by
    intro q f hf
    rcases List.mem_cons.1 (mem_ofS.1 hf) with h' | h'
    · cases h'; omega
    · have := srt1 _ h'; simp only at this; omega
  have s0 := play_seg o t hto (ofS false ((d, e) :: T)) (ofS false R) p (p - 1) (by omega) (by omega) hpt (by rw [← hofs]; exact right_more hr0 (hpp _)) (hTend false) fun f hf => by have := hRpos _ f hf; omega
  have s1 := play_seg o t hto (ofS true ((d, e) :: T)) (ofS true R) p (p - 1) (by omega) (by omega) hpt (by rw [← hofs]; exact right_more hr1 (hpp _)) (hTend true) fun f hf => by have := hRpos _ f hf; omega
  rw [hofs false, s0.1] at k6
  rw [hofs true, s1.1] at k7
  have cn0 : c.n0 = ((ofS false ((d, e) :: T)).length : Int) := by
    rw [hgi, tf]
    cases d
    · rw [ofS_same]; simp; omega
    · rw [ofS_other _ _ (by decide)]; simp
  have cn1 : c.n1 = ((ofS true ((d, e) :: T)).length : Int) := by
    rw [hgi, tf]
    cases d
    · rw [ofS_other _ _ (by decide)]; simp
    · rw [ofS_same]; simp; omega
  have cm0 : c.m0 = more (ofS false ((d, e) :: T)) := by
    rw [hgi, tf]
    cases d
    · rw [ofS_same, more]; simp
    · rw [ofS_other _ _ (by decide)]; simp
  have cm1 : c.m1 = more (ofS true ((d, e) :: T)) := by
    rw [hgi, tf]
    cases d
    · rw [ofS_other _ _ (by decide)]; simp
    · rw [ofS_same, more]; simp
  have hz : ∀ q, ((ofS q ((d, e) :: T)).length : Int) = 0 → seg o p (ofS q ((d, e) :: T)) t = (o.drop p).take (t - p) := fun q hq => by
    rw [List.eq_nil_of_length_eq_zero (by omega : (ofS q ((d, e) :: T)).length = 0)]; rfl
  obtain ⟨a1, a2, a3, a4, a5, a6, a7, a8⟩ := add_ok (c := c) k1 k2 k3 (by omega) k4 k5 (cfr.trans hp) ht hpt hto k6 k7 (by rw [s0.2, cm0]) (by rw [s1.2, cm1]) (fun h0 => hz false (by rw [← cn0]; exact h0)) (fun h1 => hz true (by rw [← cn1]; exact h1)) k8
  have hne : ¬ (c.n0 = 0 ∧ c.n1 = 0) := by
    rw [cn0, cn1]
    cases d
    · rw [ofS_same]; simp; omega
    · intro hh; rw [ofS_same] at hh; simp at hh; omega
  have hkind : ∀ u v, kindOf c u v ≠ 0 := fun u v hk => hne ((kind_zero (by rw [cn0]; omega) (by rw [cn1]; omega)).1 hk)
  refine ⟨⟨t, _, _, a1, a2, a3, hto, a4, a5, a6, a7⟩, ⟨t, by omega, by omega, ?_, ?_⟩, ?_, a8, ?_, ?_, ?_⟩
  · obtain ⟨l', _, h'⟩ := right_back (T := ofS false ((d, e) :: T)) (R := ofS false R) (by rw [← hofs]; exact hr0) hl1
    exact right_more h' (hRpos false)
  · obtain ⟨l', _, h'⟩ := right_back (T := ofS true ((d, e) :: T)) (R := ofS true R) (by rw [← hofs]; exact hr1) hl1
    exact right_more h' (hRpos true)
  · have : Srt (T ++ R) := by rw [htg]; exact srt2
    exact (List.pairwise_append.1 this).2.1
  · refine k9.snoc fun q hq => ?_
    have h0 := k11 (by simp) q hq
    simp [h0, hkind]
  · intro q hq
    rcases List.mem_append.1 hq with hq | hq
    · exact k10 q hq
    · simp at hq
      subst hq
      simp only
      have z0 : 0 ≤ ((seg o p (ofS false ((d, e) :: T)) t).length : Int) := by omega
      have z1 : 0 ≤ ((seg o p (ofS true ((d, e) :: T)) t).length : Int) := by omega
      have i : (e.ins.length : Int) ≤ (seg o p (ofS false ((d, e) :: T)) t).length ∨ (e.ins.length : Int) ≤ (seg o p (ofS true ((d, e) :: T)) t).length := by
        cases d
        · left; rw [ofS_same]; have := seg_ins o t e (ofS false T) p; omega
        · right; rw [ofS_same]; have := seg_ins o t e (ofS true T) p; omega
      rw [s0.2] at z0 i
      rw [s1.2] at z1 i
      rw [cm0, cm1, ht, cfr, hp]
      have hde : (e.pos + e.del : Int) ≤ t := by omega
      rcases e4 with h' | h'
      · omega
      · have : e.ins.length ≠ 0 := fun h0 => h' (List.eq_nil_of_length_eq_zero h0)
        omega
  · intro q hq
    rw [add_last] at hq
    cases hq
    exact ⟨hkind _ _, fun p hp => by rw [a1]; have := hrest p hp; omega⟩
theorem loop_inv {o a b : Ls} : ∀ (n : Nat) (s : St) (l : List (Bool × Ed)), l.length ≤ n → Inv o a b s l → Inv o a b (loop a b s l) []
  | _, s, [], _, h => by rw [loop_nil]; exact h
  | 0, s, _ :: _, hn, _ => by simp at hn
  | n + 1, s, (d, e) :: r, hn, h => by
    rw [loop_cons]
    refine loop_inv n _ _ ?_ (step_ok h)
    have := grow_len ((Cl.zero e.pos).take d e) r
    simp at hn; omega
theorem start_inv (o a b : Ls) : Inv o a b ⟨0, 0, 0, []⟩ (mrg (D o a) (D o b)) := by
  obtain ⟨h0, h1⟩ := ofS_mrg _ (D o a) (D o b) (Nat.le_refl _)
  refine ⟨⟨0, 0, 0, rfl, rfl, rfl, by simp, by simp, by simp, ?_, ?_⟩, ⟨-1, by simp, by simp, ?_, ?_⟩, ?_, ⟨rfl, rfl, rfl⟩, ?_, ?_, ?_⟩
  · rw [h0, D_play, List.drop_zero]
  · rw [h1, D_play, List.drop_zero]
  · rw [h0]; exact D_right o a
  · rw [h1]; exact D_right o b
  · exact mrg_srt o.length _ _ _ (-1) (-1) (Nat.le_refl _) (by simp) (by simp) (D_right o a) (D_right o b)
  · intro i r r' h; simp at h
  · intro r h; cases h
  · intro q h; cases h
/-- P8.3 on lists -/
theorem regs_ok (o a b : Ls) : okF o a b 0 0 0 (regs o a b) = true ∧ Alt (regs o a b) ∧ ∀ r ∈ regs o a b, 1 ≤ r.on + r.an + r.bn := by
  have h := loop_inv _ _ _ (Nat.le_refl _) (start_inv o a b)
  obtain ⟨X, _, _, hx, _, _, hX, _⟩ := h.at_
  obtain ⟨Y, Z, k1, k2, k3, k4, k5, k6, k7, k8, k9, k10, _⟩ := keep_ok h o.length (Nat.le_refl _) (by simp) (by omega) (fun _ => .inl rfl)
  refine ⟨k8.ok k1 ?_ ?_, k9, k10⟩
  · rw [ofS_nil, play, List.drop_length] at k6
    have := congrArg List.length k6
    simp at this; omega
  · rw [ofS_nil, play, List.drop_length] at k7
    have := congrArg List.length k7
    simp at this; omega
end Go.Proofs.Yteehbpnbephojaa.Al
