import PyProof.Rows.All
import Wide.All
import OpenK.AllK
import Wide.FinOn
import HandS.Words
import HandS.List
import HandS.Comp
import HandS.WordsList
import HandS.Wide
import HandS.IsInst
import HandS.Zip
import HandS.Walk
import HandS.TupAny
import HandS.TupMul
import HandS.Defaults
import HandS.Rev
import HandS.Style
import HandS.Flow
import PySem.Challenge.RW_echopanes_k03_rooms_and_panes
set_option Elab.async false
set_option linter.all false
set_option maxRecDepth 100000
set_option maxHeartbeats 4000000
namespace Ep
/-! the mathematics of FRACTIONs -/
theorem gcd_pos {t u : Int} (h : 0 < u) : 0 < Int.gcd t u := Int.gcd_pos_of_ne_zero_right t (by omega)
theorem fr_num {t u : Int} (h : 0 < u) : (Rat.divInt t u).num = t / (Int.gcd t u : Int) := by
  rw [Rat.num_divInt, Int.sign_eq_one_of_pos h, Int.one_mul, Int.gcd_comm]
theorem fr_den {t u : Int} (h : 0 < u) : ((Rat.divInt t u).den : Int) = u / (Int.gcd t u : Int) := by
  rw [Rat.den_divInt, if_neg (by omega), Int.gcd_comm]
  have e : (u.natAbs : Int) = u := by omega
  rw [Int.natCast_ediv, e]
theorem gcd_fmod (a b : Int) (h : b ≠ 0) : Int.gcd b (a.fmod b) = Int.gcd a b := by
  have e : a.fmod b = a - b * (a.fdiv b) := by
    have := Int.mul_fdiv_add_fmod a b
    omega
  rw [e, Int.gcd_comm a b, Int.gcd_sub_mul_left_right]
theorem gcd_emod (a b : Int) (h : b ≠ 0) : Int.gcd b (a % b) = Int.gcd a b := by
  rw [Int.emod_def, Int.gcd_comm a b, Int.gcd_sub_mul_left_right]
/-- numbers of at most b bits -/
def Sz (b : Nat) (q : Rat) : Prop := q.num.natAbs < 2 ^ b ∧ q.den < 2 ^ b
theorem Sz.mono {a b : Nat} {q : Rat} (h : Sz a q) (l : a ≤ b) : Sz b q :=
  ⟨Nat.lt_of_lt_of_le h.1 (Nat.pow_le_pow_right (by decide) l), Nat.lt_of_lt_of_le h.2 (Nat.pow_le_pow_right (by decide) l)⟩
theorem sz_fr {t u : Int} {b : Nat} (h : 0 < u) (ht : t.natAbs < 2 ^ b) (hu : u.natAbs < 2 ^ b) : Sz b (Rat.divInt t u) := by
  have g := gcd_pos (t := t) h
  constructor
  · rw [fr_num h]
    have : (t / (Int.gcd t u : Int)).natAbs ≤ t.natAbs := by
      rw [Int.natAbs_ediv_of_dvd (Int.gcd_dvd_left ..)]
      exact Nat.div_le_self _ _
    omega
  · have e := fr_den (t := t) h
    have : (u / (Int.gcd t u : Int)).natAbs ≤ u.natAbs := by
      rw [Int.natAbs_ediv_of_dvd (Int.gcd_dvd_right ..)]
      exact Nat.div_le_self _ _
    omega
theorem den_pos (q : Rat) : (0 : Int) < (q.den : Int) := by
  have := q.den_nz
  omega
theorem q_add (q r : Rat) : Rat.divInt (q.num * r.den + r.num * q.den) (q.den * r.den) = q + r := by
  rw [Rat.add_def', ← Rat.divInt_ofNat]; rfl
theorem q_sub (q r : Rat) : Rat.divInt (q.num * r.den - r.num * q.den) (q.den * r.den) = q - r := by
  rw [Rat.sub_def', ← Rat.divInt_ofNat]; rfl
theorem q_mul (q r : Rat) : Rat.divInt (q.num * r.num) (q.den * r.den) = q * r := by
  rw [Rat.mul_def', ← Rat.divInt_ofNat]; rfl
theorem q_div (q r : Rat) : Rat.divInt (q.num * r.den) (q.den * r.num) = q / r := by
  rw [Rat.div_def, Rat.inv_def]
  conv => rhs; rw [← Rat.num_divInt_den q]
  rw [Rat.divInt_mul_divInt]
theorem dd_pos (q r : Rat) : (0 : Int) < (q.den : Int) * (r.den : Int) := Int.mul_pos (den_pos q) (den_pos r)
theorem dn_pos (q r : Rat) (h : 0 < r) : (0 : Int) < (q.den : Int) * r.num := Int.mul_pos (den_pos q) (by
  have := Rat.num_nonneg (q := r)
  have h1 : 0 ≤ r.num := this.mpr (Rat.le_of_lt h)
  have h2 : r.num ≠ 0 := fun e => by
    rw [Rat.num_eq_zero] at e
    rw [e] at h
    exact Rat.lt_irrefl h
  omega)
theorem m_lt {i j : Int} {a b : Nat} (ha : i.natAbs < 2 ^ a) (hb : j.natAbs < 2 ^ b) : (i * j).natAbs < 2 ^ (a + b) := by
  rw [Int.natAbs_mul, Nat.pow_add]
  exact Nat.mul_lt_mul'' ha hb
theorem Sz.den {b : Nat} {q : Rat} (h : Sz b q) : (q.den : Int).natAbs < 2 ^ b := by
  have := h.2
  omega
theorem a_lt {i j : Int} {c : Nat} (ha : i.natAbs < 2 ^ c) (hb : j.natAbs < 2 ^ c) : (i + j).natAbs < 2 ^ (c + 1) := by
  have : (i + j).natAbs ≤ i.natAbs + j.natAbs := Int.natAbs_add_le i j
  rw [Nat.pow_succ]
  omega
theorem s_lt {i j : Int} {c : Nat} (ha : i.natAbs < 2 ^ c) (hb : j.natAbs < 2 ^ c) : (i - j).natAbs < 2 ^ (c + 1) := by
  have : (i - j).natAbs ≤ i.natAbs + j.natAbs := Int.natAbs_sub_le i j
  rw [Nat.pow_succ]
  omega
theorem up_lt {n : Nat} {a b : Nat} (h : n < 2 ^ a) (l : a ≤ b) : n < 2 ^ b := Nat.lt_of_lt_of_le h (Nat.pow_le_pow_right (by decide) l)
section
variable {q r : Rat} {a b : Nat} (hq : Sz a q) (hr : Sz b r)
include hq hr
theorem sz_add_t : (q.num * r.den + r.num * q.den).natAbs < 2 ^ (a + b + 1) := a_lt (m_lt hq.1 hr.den) (by rw [Nat.add_comm a b]; exact m_lt hr.1 hq.den)
theorem sz_sub_t : (q.num * r.den - r.num * q.den).natAbs < 2 ^ (a + b + 1) := s_lt (m_lt hq.1 hr.den) (by rw [Nat.add_comm a b]; exact m_lt hr.1 hq.den)
theorem sz_dd : ((q.den : Int) * (r.den : Int)).natAbs < 2 ^ (a + b) := m_lt hq.den hr.den
theorem sz_add : Sz (a + b + 1) (q + r) := by
  rw [← q_add]
  exact sz_fr (dd_pos q r) (sz_add_t hq hr) (up_lt (sz_dd hq hr) (by omega))
theorem sz_sub : Sz (a + b + 1) (q - r) := by
  rw [← q_sub]
  exact sz_fr (dd_pos q r) (sz_sub_t hq hr) (up_lt (sz_dd hq hr) (by omega))
theorem sz_mul : Sz (a + b) (q * r) := by
  rw [← q_mul]
  exact sz_fr (dd_pos q r) (m_lt hq.1 hr.1) (sz_dd hq hr)
theorem sz_div (p : 0 < r) : Sz (a + b) (q / r) := by
  rw [← q_div]
  exact sz_fr (dn_pos q r p) (m_lt hq.1 hr.den) (m_lt hq.den hr.1)
end
theorem gcd_self (q : Rat) : Int.gcd q.num (q.den : Int) = 1 := by
  have := q.reduced
  unfold Nat.Coprime at this
  unfold Int.gcd
  simpa using this
/-! the laws' own identities -/
example (r : Rat) (h : 1 + r ≠ 0) : (1 - r) / (1 + r) = 1 / (1+r) - r / (1 + r) := by grind
theorem share_of {w r : Rat} (h : 1 + r ≠ 0) : w * ((1 - r) / (1 + r)) = w * (1 - r) / (1 + r) := by grind
theorem back_pane {a b : Rat} (ha : 0 < a) (hb : 0 < b) : a * ((1 - (a - b) / (a + b)) / (1 + (a - b) / (a + b))) = b := by
  have h : a + b ≠ 0 := by grind
  have h2 : 1 + (a - b) / (a + b) = 2 * a / (a + b) := by grind
  have h3 : 1 - (a - b) / (a + b) = 2 * b / (a + b) := by grind
  rw [h2, h3]
  grind
theorem back_room {w r : Rat} (hw : 0 < w) (h1 : r < 1) (h2 : -1 < r) : (w - w * ((1 - r) / (1 + r))) / (w + w * ((1 - r) / (1 + r))) = r := by
  have h : 1 + r ≠ 0 := by grind
  have e1 : w - w * ((1 - r) / (1 + r)) = 2 * w * r / (1 + r) := by grind
  have e2 : w + w * ((1 - r) / (1 + r)) = 2 * w / (1 + r) := by grind
  rw [e1, e2]
  grind
/-! rooms and panes -/
def shareQ (r : Rat) : Rat := (1 - r) / (1 + r)
def lastQ : Rat → List Rat → Rat
  | w, [] => w
  | w, r :: rs => lastQ (w * shareQ r) rs
def roomsQ : Rat → List Rat → List Rat
  | w, [] => [w]
  | w, r :: rs => w :: roomsQ (w * shareQ r) rs
def panesQ : List Rat → List Rat
  | a :: b :: r => ((a - b) / (a + b)) :: panesQ (b :: r)
  | _ => []
theorem lastQ_snoc (r : Rat) : ∀ (qs : List Rat) (w : Rat), lastQ w (qs ++ [r]) = lastQ w qs * shareQ r
  | [], w => rfl
  | q :: qs, w => lastQ_snoc r qs (w * shareQ q)
theorem roomsQ_snoc (r : Rat) : ∀ (qs : List Rat) (w : Rat), roomsQ w (qs ++ [r]) = roomsQ w qs ++ [lastQ w qs * shareQ r]
  | [], w => rfl
  | q :: qs, w => by
    show w :: roomsQ (w * shareQ q) (qs ++ [r]) = w :: (roomsQ (w * shareQ q) qs ++ [lastQ (w * shareQ q) qs * shareQ r])
    rw [roomsQ_snoc r qs]
theorem roomsQ_len : ∀ (qs : List Rat) (w : Rat), (roomsQ w qs).length = qs.length + 1
  | [], w => rfl
  | q :: qs, w => congrArg Nat.succ (roomsQ_len qs _)
theorem panesQ_len : ∀ ws : List Rat, (panesQ ws).length = ws.length - 1
  | [] => rfl
  | [_] => rfl
  | a :: b :: r => by
    show (panesQ (b :: r)).length + 1 = (b :: r).length + 1 - 1
    rw [panesQ_len (b :: r)]
    simp
theorem panesQ_get : ∀ (ws : List Rat) (i : Nat) (x y : Rat), ws[i]? = some x → ws[i + 1]? = some y → (panesQ ws)[i]? = some ((x - y) / (x + y))
  | [], _, _, _, h, _ => by simp at h
  | [_], 0, _, _, _, h => by simp at h
  | [_], i + 1, _, _, h, _ => by simp at h
  | a :: b :: r, 0, x, y, h, h2 => by
    have e1 : a = x := Option.some.inj h
    have e2 : b = y := Option.some.inj h2
    rw [← e1, ← e2]
    rfl
  | a :: b :: r, i + 1, x, y, h, h2 => panesQ_get (b :: r) i x y h h2
/-- a pane of at most c bits -/
structure PaneZ (c : Nat) (q : Rat) : Prop where
  lo : -1 < q
  hi : q < 1
  sz : Sz c q
theorem PaneZ.p1 {c : Nat} {q : Rat} (h : PaneZ c q) : 0 < 1 + q := by
  have := h.lo
  grind
theorem PaneZ.m1 {c : Nat} {q : Rat} (h : PaneZ c q) : 0 < 1 - q := by
  have := h.hi
  grind
theorem sz_one : Sz 1 1 := ⟨by decide, by decide⟩
theorem PaneZ.sp {c : Nat} {q : Rat} (h : PaneZ c q) : Sz (c + 2) (1 + q) := (sz_add sz_one h.sz).mono (by omega)
theorem PaneZ.sm {c : Nat} {q : Rat} (h : PaneZ c q) : Sz (c + 2) (1 - q) := (sz_sub sz_one h.sz).mono (by omega)
theorem div_pos {a b : Rat} (ha : 0 < a) (hb : 0 < b) : 0 < a / b := by
  rw [Rat.div_def]
  exact Rat.mul_pos ha (Rat.inv_pos.mpr hb)
theorem PaneZ.share {c : Nat} {q : Rat} (h : PaneZ c q) : 0 < shareQ q ∧ Sz (2 * c + 4) (shareQ q) :=
  ⟨div_pos h.m1 h.p1, (sz_div h.sm h.sp h.p1).mono (by omega)⟩
theorem lastQ_ok {c : Nat} : ∀ (qs : List Rat) (w : Rat) (b : Nat), 0 < w → Sz b w → (∀ q ∈ qs, PaneZ c q) → 0 < lastQ w qs ∧ Sz (b + (2 * c + 4) * qs.length) (lastQ w qs)
  | [], w, b, h, z, _ => ⟨h, z⟩
  | q :: qs, w, b, h, z, hp => by
    have p := (hp q (List.mem_cons_self ..)).share
    have r := lastQ_ok qs (w * shareQ q) (b + (2 * c + 4)) (Rat.mul_pos h p.1) (sz_mul z p.2) (fun x hx => hp x (List.mem_cons_of_mem _ hx))
    refine ⟨r.1, r.2.mono ?_⟩
    rw [List.length_cons, Nat.mul_add]
    omega
theorem roomsQ_ok {c : Nat} : ∀ (qs : List Rat) (w : Rat) (b : Nat), 0 < w → Sz b w → (∀ q ∈ qs, PaneZ c q) → ∀ x ∈ roomsQ w qs, 0 < x ∧ Sz (b + (2 * c + 4) * qs.length) x
  | [], w, b, h, z, _, x, hx => by
    rw [List.mem_singleton.mp hx]
    exact ⟨h, z⟩
  | q :: qs, w, b, h, z, hp, x, hx => by
    rcases List.mem_cons.mp hx with rfl | hx
    · exact ⟨h, z.mono (by omega)⟩
    · have p := (hp q (List.mem_cons_self ..)).share
      have r := roomsQ_ok qs (w * shareQ q) (b + (2 * c + 4)) (Rat.mul_pos h p.1) (sz_mul z p.2) (fun x hx => hp x (List.mem_cons_of_mem _ hx)) x hx
      refine ⟨r.1, r.2.mono ?_⟩
      rw [List.length_cons, Nat.mul_add]
      omega
theorem panes_rooms {c : Nat} : ∀ (qs : List Rat) (w : Rat), 0 < w → (∀ q ∈ qs, PaneZ c q) → panesQ (roomsQ w qs) = qs
  | [], w, _, _ => rfl
  | [q], w, h, hp => by
    have p := hp q (List.mem_cons_self ..)
    show [(w - w * shareQ q) / (w + w * shareQ q)] = [q]
    unfold shareQ
    rw [back_room h p.hi p.lo]
  | q :: q2 :: qs, w, h, hp => by
    have p := hp q (List.mem_cons_self ..)
    have ih := panes_rooms (q2 :: qs) (w * shareQ q) (Rat.mul_pos h p.share.1) (fun x hx => hp x (List.mem_cons_of_mem _ hx))
    show ((w - w * shareQ q) / (w + w * shareQ q)) :: panesQ (roomsQ (w * shareQ q) (q2 :: qs)) = q :: q2 :: qs
    rw [ih]
    congr 1
    unfold shareQ
    exact back_room h p.hi p.lo
theorem rooms_panes : ∀ (w : Rat) (ws : List Rat), (∀ x ∈ w :: ws, 0 < x) → roomsQ w (panesQ (w :: ws)) = w :: ws
  | w, [], _ => rfl
  | w, v :: ws, hp => by
    have h1 := hp w (List.mem_cons_self ..)
    have h2 := hp v (List.mem_cons_of_mem _ (List.mem_cons_self ..))
    have ih := rooms_panes v ws (fun x hx => hp x (List.mem_cons_of_mem _ hx))
    show w :: roomsQ (w * shareQ ((w - v) / (w + v))) (panesQ (v :: ws)) = w :: v :: ws
    unfold shareQ
    rw [back_pane h1 h2, ih]
theorem panesQ_scale (k : Rat) (hk : 0 < k) : ∀ ws : List Rat, (∀ x ∈ ws, 0 < x) → panesQ (ws.map (k * ·)) = panesQ ws
  | [], _ => rfl
  | [_], _ => rfl
  | a :: b :: r, hp => by
    have h1 := hp a (List.mem_cons_self ..)
    have h2 := hp b (List.mem_cons_of_mem _ (List.mem_cons_self ..))
    have ih := panesQ_scale k hk (b :: r) (fun x hx => hp x (List.mem_cons_of_mem _ hx))
    show ((k * a - k * b) / (k * a + k * b)) :: panesQ ((b :: r).map (k * ·)) = ((a - b) / (a + b)) :: panesQ (b :: r)
    rw [ih]
    congr 1
    have : a + b ≠ 0 := by grind
    have e1 : k * a - k * b = k * (a - b) := by grind
    have e2 : k * a + k * b = k * (a + b) := by grind
    rw [e1, e2]
    grind
theorem pane_two {a b : Rat} {c : Nat} (ha : 0 < a) (hb : 0 < b) (za : Sz c a) (zb : Sz c b) : PaneZ (4 * c + 2) ((a - b) / (a + b)) := by
  have hs : 0 < a + b := by grind
  refine ⟨?_, ?_, (sz_div (sz_sub za zb) (sz_add za zb) hs).mono (by omega)⟩
  · rw [Rat.lt_div_iff hs]
    grind
  · rw [Rat.div_lt_iff hs]
    grind
theorem panesQ_ok {c : Nat} : ∀ ws : List Rat, (∀ x ∈ ws, 0 < x ∧ Sz c x) → ∀ q ∈ panesQ ws, PaneZ (4 * c + 2) q
  | [], _, q, h => by cases h
  | [_], _, q, h => by cases h
  | a :: b :: r, hp, q, h => by
    have h1 := hp a (List.mem_cons_self ..)
    have h2 := hp b (List.mem_cons_of_mem _ (List.mem_cons_self ..))
    rcases List.mem_cons.mp h with rfl | h
    · exact pane_two h1.1 h2.1 h1.2 h2.2
    · exact panesQ_ok (b :: r) (fun x hx => hp x (List.mem_cons_of_mem _ hx)) q h
end Ep
namespace Ep
open PySem PySem.Spec PyProof.Rows L2
/-! ### heaps: what a draw changes -/
/-- all but what stands at p is as it was -/
def Chg (p : Addr) (H H' : Hp) : Prop := ∀ b o, b ≠ p → H b = some o → H' b = some o
theorem Chg.refl {p : Addr} {H : Hp} : Chg p H H := fun _ _ _ h => h
theorem Chg.trans {p : Addr} {H H1 H2 : Hp} (a : Chg p H H1) (b : Chg p H1 H2) : Chg p H H2 := fun c o n h => b c o n (a c o n h)
theorem Chg.of_same {p : Addr} {H H' : Hp} (h : Same H H') : Chg p H H' := fun b o _ e => h b o e
theorem same_upd {H : Hp} {p : Addr} {o : HO} (h : H p = none) : Same H (upd H p o) := fun b x e => by
  rw [upd_ne (ne_of_none e h)]
  exact e
theorem chg_upd {H : Hp} {p : Addr} {o : HO} : Chg p H (upd H p o) := fun b x n e => by
  rw [upd_ne n]
  exact e
theorem Chg.free {p : Addr} {H H' : Hp} (c : Chg p H H') {l : Addr} (n : l ≠ p) (h : H' l = none) : H l = none := by
  cases q : H l with
  | none => rfl
  | some o =>
    rw [c l o n q] at h
    cases h
/-- a new thing is laid, then that is changed: nothing old is -/
theorem Same.chg_new {p : Addr} {H H1 H2 : Hp} (a : Same H H1) (n : H p = none) (c : Chg p H1 H2) : Same H H2 := fun b o e => c b o (ne_of_none e n) (a b o e)
theorem Same.tup {K : PySem.W.Frag} {H H' : Hp} {a : Addr} {xs : List V} (e : Same H H') (h : SqT K H a xs) : SqT K H' a xs := by
  rcases h with (h | ⟨o, h⟩) | h
  · exact .inl (.inl (e _ _ h))
  · exact .inl (.inr ⟨o, e _ _ h⟩)
  · exact .inr h
theorem Chg.tup {K : PySem.W.Frag} {p : Addr} {H H' : Hp} {a : Addr} {xs l : List V} (c : Chg p H H') (hp : H p = some (.lst l)) (h : SqT K H a xs) : SqT K H' a xs := by
  rcases h with (h | ⟨o, h⟩) | h
  · exact .inl (.inl (c _ _ (fun e => by subst e; rw [hp] at h; cases h) h))
  · exact .inl (.inr ⟨o, c _ _ (fun e => by subst e; rw [hp] at h; cases h) h⟩)
  · exact .inr h
/-! ### data in the heap -/
mutual
def noL : PyData → Bool
  | .list _ => false
  | .dict _ => false
  | .tuple ds => noLs ds
  | _ => true
def noLs : List PyData → Bool
  | [] => true
  | d :: ds => noL d && noLs ds
end
section
variable {K : PySem.W.Frag} {H H' : Hp}
mutual
theorem dp_same (e : Same H H') : ∀ (d : PyData) (v : V), Dp K H v d → Dp K H' v d
  | .none, _, h => by cases h; exact .non
  | .bool b, _, h => by cases h; exact .bl b
  | .int i, _, h => by cases h; exact .int i
  | .str x, _, h => by cases h; exact .str x
  | .list ds, _, h => by
    cases h with
    | lst hs ha => exact .lst (e.seq hs) (dps_same e ds _ ha)
  | .tuple ds, _, h => by
    cases h with
    | tup hs ha => exact .tup (Same.tup e hs) (dps_same e ds _ ha)
  | .dict _, _, h => by cases h
theorem dps_same (e : Same H H') : ∀ (ds : List PyData) (vs : List V), DpAll K H vs ds → DpAll K H' vs ds
  | [], _, h => by cases h; exact .nil
  | d :: ds, _, h => by
    cases h with
    | cons a b => exact .cons (dp_same e d _ a) (dps_same e ds _ b)
end
mutual
theorem dp_chg {p : Addr} {l : List V} (c : Chg p H H') (hp : H p = some (.lst l)) : ∀ (d : PyData) (v : V), noL d = true → Dp K H v d → Dp K H' v d
  | .none, _, _, h => by cases h; exact .non
  | .bool b, _, _, h => by cases h; exact .bl b
  | .int i, _, _, h => by cases h; exact .int i
  | .str x, _, _, h => by cases h; exact .str x
  | .list ds, _, n, h => by cases n
  | .tuple ds, _, n, h => by
    cases h with
    | tup hs ha => exact .tup (c.tup hp hs) (dps_chg c hp ds _ n ha)
  | .dict _, _, _, h => by cases h
theorem dps_chg {p : Addr} {l : List V} (c : Chg p H H') (hp : H p = some (.lst l)) : ∀ (ds : List PyData) (vs : List V), noLs ds = true → DpAll K H vs ds → DpAll K H' vs ds
  | [], _, _, h => by cases h; exact .nil
  | d :: ds, _, n, h => by
    have n2 : noL d = true ∧ noLs ds = true := by simpa [noLs] using n
    cases h with
    | cons a b => exact .cons (dp_chg c hp d _ n2.1 a) (dps_chg c hp ds _ n2.2 b)
end
theorem dps_len : ∀ {vs : List V} {ds : List PyData}, DpAll K H vs ds → vs.length = ds.length
  | _, _, .nil => rfl
  | _, _, .cons _ t => congrArg Nat.succ (dps_len t)
theorem dps_get : ∀ {vs : List V} {ds : List PyData} {i : Nat} {v : V}, DpAll K H vs ds → vs[i]? = some v → ∃ d, ds[i]? = some d ∧ Dp K H v d
  | _, _, _, _, .nil, e => by simp at e
  | _, _, 0, _, .cons r _, e => by simp at e; subst e; exact ⟨_, rfl, r⟩
  | _, _, i + 1, x, .cons _ t, e => by
    obtain ⟨u, h1, h2⟩ := dps_get (i := i) (v := x) t (by simpa using e)
    exact ⟨u, by simpa using h1, h2⟩
theorem dps_app : ∀ {xs ys : List V} {us ws : List PyData}, DpAll K H xs us → DpAll K H ys ws → DpAll K H (xs ++ ys) (us ++ ws)
  | _, _, _, _, .nil, s => s
  | _, _, _, _, .cons r t, s => .cons r (dps_app t s)
theorem dps_take : ∀ {xs : List V} {us : List PyData} (n : Nat), DpAll K H xs us → DpAll K H (xs.take n) (us.take n)
  | _, _, 0, _ => .nil
  | _, _, _ + 1, .nil => .nil
  | _, _, n + 1, .cons r t => .cons r (dps_take n t)
theorem dps_drop : ∀ {xs : List V} {us : List PyData} (n : Nat), DpAll K H xs us → DpAll K H (xs.drop n) (us.drop n)
  | _, _, 0, r => r
  | _, _, _ + 1, .nil => .nil
  | _, _, n + 1, .cons _ t => dps_drop n t
theorem dps_rev : ∀ {xs : List V} {us : List PyData}, DpAll K H xs us → DpAll K H xs.reverse us.reverse
  | _, _, .nil => .nil
  | _, _, .cons r t => by
    rw [List.reverse_cons, List.reverse_cons]
    exact dps_app (dps_rev t) (.cons r .nil)
end
/-! FRACTIONs and ROWs as data -/
def frD (q : Rat) : PyData := .tuple [.int q.num, .int (q.den : Int)]
def frs (qs : List Rat) : List PyData := qs.map frD
def rowD (qs : List Rat) (w : Int) : PyData := .tuple [.tuple (frs qs), .int w]
theorem noL_fr (q : Rat) : noL (frD q) = true := rfl
theorem noL_frs : ∀ qs : List Rat, noLs (frs qs) = true
  | [] => rfl
  | q :: qs => by
    show (noL (frD q) && noLs (frs qs)) = true
    rw [noL_fr, noL_frs qs]
    rfl
theorem noL_row (qs : List Rat) (w : Int) : noL (rowD qs w) = true := by
  show (noLs (frs qs) && (true && true)) = true
  rw [noL_frs]
  rfl
theorem dp_fr {K : PySem.W.Frag} {H : Hp} {v : V} {q : Rat} (h : Dp K H v (frD q)) : ∃ a, v = .ref a ∧ SqT K H a [.int q.num, .int (q.den : Int)] := by
  cases h with
  | tup hs ha =>
    cases ha with
    | cons a b =>
      cases b with
      | cons c d =>
        cases d
        cases a
        cases c
        exact ⟨_, rfl, hs⟩
theorem dp_fr_mk {K : PySem.W.Frag} {H : Hp} {a : Addr} {q : Rat} (h : SqT K H a [.int q.num, .int (q.den : Int)]) : Dp K H (.ref a) (frD q) := .tup h (.cons (.int _) (.cons (.int _) .nil))
theorem dp_tup {K : PySem.W.Frag} {H : Hp} {v : V} {ds : List PyData} (h : Dp K H v (.tuple ds)) : ∃ a xs, v = .ref a ∧ SqT K H a xs ∧ DpAll K H xs ds := by
  cases h with
  | tup hs ha => exact ⟨_, _, rfl, hs, ha⟩
theorem dp_lst {K : PySem.W.Frag} {H : Hp} {v : V} {ds : List PyData} (h : Dp K H v (.list ds)) : ∃ a xs, v = .ref a ∧ SqL K H a xs ∧ DpAll K H xs ds := by
  cases h with
  | lst hs ha => exact ⟨_, _, rfl, hs, ha⟩
theorem dp_int {K : PySem.W.Frag} {H : Hp} {v : V} {i : Int} (h : Dp K H v (.int i)) : v = .int i := by
  cases h
  rfl
theorem dp_row {K : PySem.W.Frag} {H : Hp} {v : V} {qs : List Rat} {w : Int} (h : Dp K H v (rowD qs w)) : ∃ a b xs, v = .ref a ∧ SqT K H a [.ref b, .int w] ∧ SqT K H b xs ∧ DpAll K H xs (frs qs) := by
  obtain ⟨a, xs, rfl, h1, h2⟩ := dp_tup h
  cases h2 with
  | cons x y =>
    cases y with
    | cons z u =>
      cases u
      obtain ⟨b, ys, rfl, h3, h4⟩ := dp_tup x
      cases z
      exact ⟨a, b, ys, rfl, h1, h3, h4⟩
theorem dp_row_mk {K : PySem.W.Frag} {H : Hp} {a b : Addr} {xs : List V} {qs : List Rat} {w : Int} (h1 : SqT K H a [.ref b, .int w]) (h2 : SqT K H b xs) (h3 : DpAll K H xs (frs qs)) : Dp K H (.ref a) (rowD qs w) :=
  .tup h1 (.cons (.tup h2 h3) (.cons (.int w) .nil))
/-! ### the box of draws -/
structure Bx (H : Hp) (p : Addr) (n : Nat) : Prop where
  ex : ∃ x y z : Int, H p = some (.lst [.int x, .int y, .int z]) ∧ 0 ≤ x ∧ 0 ≤ y ∧ y < 4000000000000000000 ∧ 0 ≤ z ∧ z ≤ n
theorem Bx.at {H : Hp} {p : Addr} {n : Nat} (b : Bx H p n) : ∃ l, H p = some (.lst l) := by
  obtain ⟨x, y, z, h, _⟩ := b.ex
  exact ⟨_, h⟩
theorem Bx.mono {H : Hp} {p : Addr} {n m : Nat} (b : Bx H p n) (h : n ≤ m) : Bx H p m := by
  obtain ⟨x, y, z, a, b, c, d, e, f⟩ := b.ex
  exact ⟨x, y, z, a, b, c, d, e, by omega⟩
theorem Bx.same {H H' : Hp} {p : Addr} {n : Nat} (b : Bx H p n) (e : Same H H') : Bx H' p n := by
  obtain ⟨x, y, z, h, r⟩ := b.ex
  exact ⟨x, y, z, e _ _ h, r⟩
theorem Bx.dp {K : PySem.W.Frag} {H H' : Hp} {p : Addr} {n : Nat} {v : V} {d : PyData} (b : Bx H p n) (c : Chg p H H') (h : Dp K H v d) (nl : noL d = true) : Dp K H' v d := by
  obtain ⟨l, e⟩ := b.at
  exact dp_chg c e d v nl h
theorem Bx.dps {K : PySem.W.Frag} {H H' : Hp} {p : Addr} {n : Nat} {vs : List V} {ds : List PyData} (b : Bx H p n) (c : Chg p H H') (h : DpAll K H vs ds) (nl : noLs ds = true) : DpAll K H' vs ds := by
  obtain ⟨l, e⟩ := b.at
  exact dps_chg c e ds vs nl h

/-! ### panes -/
structure PaneQ (q : Rat) : Prop where
  lo : -1 < q
  hi : q < 1
  sz : Sz 6 q
theorem pane_fr {t u : Int} (h1 : -u < t) (h2 : t < u) (h3 : u ≤ 60) : PaneQ (Rat.divInt t u) := by
  have hu : 0 < u := by omega
  have hq : (0 : Rat) < (u : Rat) := Rat.intCast_pos.mpr hu
  refine ⟨?_, ?_, sz_fr hu (by omega) (by omega)⟩
  · rw [Rat.divInt_eq_div, Rat.lt_div_iff hq]
    have e : (-1 : Rat) * (u : Rat) = ((-u : Int) : Rat) := by
      rw [Rat.intCast_neg]
      grind
    rw [e]
    exact Rat.intCast_lt_intCast.mpr h1
  · rw [Rat.divInt_eq_div, Rat.div_lt_iff hq, Rat.one_mul]
    exact Rat.intCast_lt_intCast.mpr h2
theorem fr_own {t u : Int} (h : 0 < u) (g : Int.gcd t u = 1) : (Rat.divInt t u).num = t ∧ ((Rat.divInt t u).den : Int) = u := by
  rw [fr_num h, fr_den h, g]
  simp
theorem gcd_one_less (u : Int) : Int.gcd (1 - u) u = 1 := by
  have e : (1 : Int) - u = 1 - u * 1 := by omega
  rw [e, Int.gcd_sub_mul_left_left, Int.gcd_one_left]
theorem pick3 {r : Int} (h0 : 0 ≤ r) (h1 : r < 3) : ∃ z : Int, atI [V.int 3, .int 8, .int 59] r = some (.int z) ∧ 0 < z ∧ z ≤ 59 := by
  have h : r = 0 ∨ r = 1 ∨ r = 2 := by omega
  rcases h with rfl | rfl | rfl
  · exact ⟨3, rfl, by decide, by decide⟩
  · exact ⟨8, rfl, by decide, by decide⟩
  · exact ⟨59, rfl, by decide, by decide⟩
theorem dp_fr_lit {K : PySem.W.Frag} {H : Hp} {a : Addr} {t u : Int} (hu : 0 < u) (g : Int.gcd t u = 1) (h : SqT K H a [.int t, .int u]) : Dp K H (.ref a) (frD (Rat.divInt t u)) := by
  obtain ⟨e1, e2⟩ := fr_own hu g
  refine dp_fr_mk ?_
  rw [e1, e2]
  exact h
/-- what a value tells: a pane -/
def IsPane (K : PySem.W.Frag) (H : Hp) (v : V) : Prop := ∃ q, PaneQ q ∧ Dp K H v (frD q)
theorem IsPane.same {K : PySem.W.Frag} {H H' : Hp} {v : V} (h : IsPane K H v) (e : Same H H') : IsPane K H' v := by
  obtain ⟨q, a, b⟩ := h
  exact ⟨q, a, dp_same e _ _ b⟩
theorem pane_lit {K : PySem.W.Frag} {H : Hp} {a : Addr} {t u : Int} (g : Int.gcd t u = 1) (h1 : -u < t) (h2 : t < u) (h3 : u ≤ 60) (h : SqT K H a [.int t, .int u]) : IsPane K H (.ref a) :=
  ⟨_, pane_fr h1 h2 h3, dp_fr_lit (by omega) g h⟩
theorem upd_new_ne {H : Hp} {p l : Addr} {o u : HO} (h : H p = some o) (n : H l = none) : (upd H l u) p = some o := by
  rw [upd_ne (ne_of_none h n)]
  exact h
/-- what is said of a list that is laid anew amid a comprehension's turns stays where a new item is put to it -/
theorem dps_put {K : PySem.W.Frag} {H : Hp} {D : Addr} {acc acc2 : List V} {vs : List V} {ds : List PyData} (h : H D = some (.lst acc)) (n : noLs ds = true) (d : DpAll K H vs ds) : DpAll K (upd H D (.lst acc2)) vs ds := dps_chg chg_upd h ds vs n d
theorem dp_put {K : PySem.W.Frag} {H : Hp} {D : Addr} {acc acc2 : List V} {v : V} {d : PyData} (h : H D = some (.lst acc)) (n : noL d = true) (x : Dp K H v d) : Dp K (upd H D (.lst acc2)) v d := dp_chg chg_upd h d v n x
theorem Bx.other {H : Hp} {p D : Addr} {n : Nat} {o : HO} (b : Bx H p n) (h : p ≠ D) : Bx (upd H D o) p n := by
  obtain ⟨x, y, z, e, r⟩ := b.ex
  exact ⟨x, y, z, by rw [upd_ne h]; exact e, r⟩
/-- a thing that was new is changed -/
theorem Chg.new_upd {p D : Addr} {H H1 : Hp} {o : HO} (c : Chg p H H1) (n : H D = none) : Chg p H (upd H1 D o) := fun b x nb e => by
  rw [upd_ne (ne_of_none e n)]
  exact c b x nb e
theorem Same.new_upd {D : Addr} {H H1 : Hp} {o : HO} (c : Same H H1) (n : H D = none) : Same H (upd H1 D o) := fun b x e => by
  rw [upd_ne (ne_of_none e n)]
  exact c b x e
theorem frs_app (a b : List Rat) : frs (a ++ b) = frs a ++ frs b := List.map_append
theorem dps_snoc {K : PySem.W.Frag} {H : Hp} {vs : List V} {qs : List Rat} {v : V} {q : Rat} (a : DpAll K H vs (frs qs)) (b : Dp K H v (frD q)) : DpAll K H (vs ++ [v]) (frs (qs ++ [q])) := by
  rw [frs_app]
  exact dps_app a (.cons b .nil)
theorem ty_tup {K : PySem.W.Frag} {H : Hp} {a : Addr} {xs : List V} (h : SqT K H a xs) : TyX K H (.ref a) (.type "tuple") := by
  rcases h with (h | ⟨o, h⟩) | ⟨o, its, n, h, c, _⟩
  · exact .base (.tup h)
  · exact .fTuple h
  · exact .kTuple h c
theorem ty_lst {K : PySem.W.Frag} {H : Hp} {a : Addr} {xs : List V} (h : SqL K H a xs) : TyX K H (.ref a) (.type "list") := by
  rcases h with (h | ⟨o, h⟩) | ⟨o, its, n, h, c, _⟩
  · exact .base (.lst h)
  · exact .base (.frz h)
  · exact .kList h c
theorem walk_zipT {K : PySem.W.Frag} {a b : Addr} {xs ys : List V} {n : Nat} (hn : n = min xs.length ys.length) : Walk (RZ.ItzT K a b) n (fun H => SqT K H a xs ∧ SqT K H b ys) (YPair (fun i => xs[i]?) (fun i => ys[i]?)) := by
  subst hn
  refine ⟨fun i _ hi q => ?_, fun _ q => ⟨xs, ys, q.1, q.2, by omega⟩, fun i H v H' _ q y => ?_⟩
  · have h1 : i < xs.length := by omega
    have h2 : i < ys.length := by omega
    exact ⟨xs, ys, xs[i], ys[i], q.1, q.2, by simp [h1], by simp [h2]⟩
  · obtain ⟨T, x, z, h1, h2, h3, h4, h5⟩ := y
    exact ⟨T, x, z, h1, h2, h3, h4 xs q.1, h5 ys q.2⟩
theorem PaneQ.z {q : Rat} (h : PaneQ q) : PaneZ 6 q := ⟨h.lo, h.hi, h.sz⟩
/-! ### calls by names alone -/
section
variable {X : Cx} {CX : CXT} {k : Nat} {f : Addr} {fd : FuncData} {ps ks : List Str} {sp : Sp} {E : XK} {x : Str} {p pos : Pos} {kws : List Keyword} {tk : TA} {g : List Value → List Value → List Value} {gV : List V → List V → List V}
theorem pe_callN0 (F : FnOk X.prog X.w X.K X.mg X.base CX k f fd ps sp) (hr : Room k X.A) (hg : Gl X x) (hm : X.mg x = some (.ref f)) (hk : PySem.W.keepIn X.K (.ref f) = true) (hb : KBn X.K fd ps 0 ks g gV) (hx : Passes CX X E)
    (hkw : PK X kws tk) (hall : (backToKw pos (keywordEach kws X.env)).all (·.1.isSome) = true := by rfl) (hks : (backToKw pos (keywordEach kws X.env)).filterMap (·.1) = ks := by rfl)
    (hdb : (x == ("__debug__" : Str)) = false := by decide)
    (hpl : ((backTo pos (starEach [] X.env)).any (·.1) || (backToKw pos (keywordEach kws X.env)).any (·.1.isNone)) = false := by rfl) :
    PE X (.Call (.Name x p) [] kws pos) (tCallN 0 ks.length sp gV E tNil tk) := by
  refine ⟨fun pins s σ H Q I h => ?_⟩
  refine wpAny_Call_Name_kw (ld_glob I hg hm ?_ hdb)
  refine PySem.W.callWith_KW0 (h₀ := X.base) I.ok.mod.kin hk hall (thn (hkw.run pos pins s σ H _ I h) fun ws s2 ⟨zs, H2, I2, rz, l1, l2, q2⟩ => ⟨I2.kIn, ?_⟩) hpl
  rw [hks]
  exact run_fnN F hr hb hx I2 .nil rz l1 l2 q2
end
section
variable {K : PySem.W.Frag} {f : Addr} {fd : FuncData} {ps : List Str}
/-- a def without defaults, some of its parameters handed in by their names -/
theorem Fun.kb {x qual : Str} {st : Stmt} (F : Fun K x qual st f fd) (n : Nat) (ks : List Str) (g : {α : Type} → List α → List α → List α)
    (hrel : ∀ {vs zs : List V} {us ws : List Value}, Vals vs us → Vals zs ws → Vals (g vs zs) (g us ws))
    (h : ∀ (kV doc pm : Value) (an : Option Addr) (cdv ct : Value) (us ws : List Value), us.length = n → ws.length = ks.length → bindArgs (PySem.W.fnOf x qual (defArgs st) (defBody st) (defScope st) .none kV doc pm an cdv ct) ⟨us, ks.zip ws⟩ = pure (ps.zip (g us ws))) :
    KBn K fd ps n ks (fun us ws => g us ws) (fun vs zs => g vs zs) := by
  obtain ⟨oc, od, kV, doc, pm, an, cdv, ct, osl, rfl, lk, hcd⟩ := F.ex
  exact ⟨fun s us ws _ l1 l2 => .of_eq (h kV doc pm an cdv ct us ws l1 l2), fun r1 r2 => hrel r1 r2⟩
/-- a def with keyword-only defaults alone; ms: those that lack -/
theorem FunD.kb {x qual : Str} {params : Arguments} {body : List Stmt} {scope : Scope} {kws : List (Str × V)} (F : FunD K x qual params body scope [] kws f fd) (n : Nat) (ks : List Str) (ms : List (Str × V)) (g : {α : Type} → List α → List α → List α → List α)
    (hk : kws ≠ []) (hms : ∀ q ∈ ms, q ∈ kws)
    (hrel : ∀ {vs mz zs : List V} {us mv ws : List Value}, Vals vs us → Vals mz mv → Vals zs ws → Vals (g vs mz zs) (g us mv ws))
    (h : ∀ (D : Addr) (doc pm : Value) (an : Option Addr) (cdv ct : Value) (us mv ws : List Value), us.length = n → mv.length = ms.length → ws.length = ks.length →
      KwChain D ((ms.map (·.1)).zip mv) (bindArgs (PySem.W.fnOf x qual params body scope .none (.ref D) doc pm an cdv ct) ⟨us, ks.zip ws⟩) (ps.zip (g us mv ws))) :
    ∃ mv : List Value, KBn K fd ps n ks (fun us ws => g us mv ws) (fun vs zs => g vs (ms.map (·.2)) zs) := by
  obtain ⟨oc, od, dV, kV, doc, pm, an, cdv, ct, osl, rfl, lk, hcd, hD, hK⟩ := F.ex
  rcases hD with ⟨_, rfl⟩ | ⟨e, _⟩
  · rcases hK with e | ⟨D, rfl, hq⟩
    · exact absurd e hk
    · obtain ⟨mv, hl, rk, hks⟩ := kwd_vals (ms := ms) fun q hm => hq q (hms q hm)
      refine ⟨mv, ⟨fun s us ws X l1 l2 => BindsTo.of_looks fun M => KwChain.looks X hks (h D doc pm an cdv ct us mv ws l1 hl l2), fun r1 r2 => hrel r1 rk r2⟩⟩
  · exact absurd rfl e
end
/-! ### a callee, in short -/
structure Cal (P : Program) (w : World) (K : PySem.W.Frag) (mg : Str → Option Value) (base : Heap) (k : Nat) (x : Str) (ps : List Str) (sp : Sp) (f : Addr) (fd : FuncData) : Prop where
  kp : PySem.W.keepIn K (.ref f) = true
  ok : FnOk P w K mg base CX0 k f fd ps sp
  bd : Binds K fd ps []
  at_ : mg x = some (.ref f)
theorem pe_c {X : Cx} {k : Nat} {x : Str} {ps : List Str} {sp : Sp} {f : Addr} {fd : FuncData} {p pos : Pos} {e : Expr} {es : List Expr} {t : TA} (c : Cal X.prog X.w X.K X.mg X.base k x ps sp f fd) (hr : Room k X.A) (hg : Gl X x) (ha : PA X (e :: es) t)
    (hdb : (x == ("__debug__" : Str)) = false := by decide) (he : starEach (e :: es) X.env = (false, eval e X.env) :: starEach es X.env := by rfl) (hpl : (backTo pos (starEach es X.env)).any (·.1) = false := by rfl) :
    PE X (.Call (.Name x p) (e :: es) [] pos) (tCall sp [] E0 t) := pe_call c.ok hr hg c.at_ c.kp c.bd .nil pass0 ha hdb he hpl
/-! ### a list of FRACTIONs -/
def Lq (K : PySem.W.Frag) (H : Hp) (L : Addr) (qs : List Rat) : Prop := ∃ us, H L = some (.lst us) ∧ DpAll K H us (frs qs)
section
variable {K : PySem.W.Frag} {H H' : Hp} {L p : Addr} {qs : List Rat}
theorem Lq.same (h : Lq K H L qs) (e : Same H H') : Lq K H' L qs := by
  obtain ⟨us, a, b⟩ := h
  exact ⟨us, e _ _ a, dps_same e _ _ b⟩
theorem Lq.chg {l : List V} (h : Lq K H L qs) (c : Chg p H H') (hp : H p = some (.lst l)) (n : L ≠ p) : Lq K H' L qs := by
  obtain ⟨us, a, b⟩ := h
  exact ⟨us, c _ _ n a, dps_chg c hp _ _ (noL_frs qs) b⟩
theorem Lq.dp (h : Lq K H L qs) : Dp K H (.ref L) (.list (frs qs)) := by
  obtain ⟨us, a, b⟩ := h
  exact .lst (SqL.of a) b
theorem Lq.ne (h : Lq K H L qs) {M : Addr} (n : H M = none) : L ≠ M := by
  obtain ⟨us, a, b⟩ := h
  exact ne_of_none a n
theorem Bx.lq {n : Nat} (b : Bx H p n) (c : Chg p H H') (h : Lq K H L qs) (ne : L ≠ p) : Lq K H' L qs := by
  obtain ⟨l, e⟩ := b.at
  exact h.chg c e ne
theorem Bx.ne {n : Nat} (b : Bx H p n) {M : Addr} (h : H M = none) : M ≠ p := by
  obtain ⟨l, e⟩ := b.at
  exact (ne_of_none e h).symm
end
/-! ### things laid anew -/
section
variable {K : PySem.W.Frag} {H : Hp} {a b : Addr}
theorem new_fr {t u : Int} (n : H a = none) (hu : 0 < u) (g : Int.gcd t u = 1) : Dp K (upd H a (.tup [.int t, .int u])) (.ref a) (frD (Rat.divInt t u)) := dp_fr_lit hu g (SqT.of upd_same)
theorem new_q {t u : Int} (n : H a = none) (q : Rat) (h1 : q.num = t) (h2 : (q.den : Int) = u) : Dp K (upd H a (.tup [.int t, .int u])) (.ref a) (frD q) := by
  subst h1 h2
  exact dp_fr_mk (SqT.of upd_same)
theorem new_row {xs : List V} {qs : List Rat} {w : Int} (n : H a = none) (hb : SqT K H b xs) (d : DpAll K H xs (frs qs)) : Dp K (upd H a (.tup [.ref b, .int w])) (.ref a) (rowD qs w) :=
  dp_row_mk (SqT.of upd_same) (Same.tup (same_upd n) hb) (dps_same (same_upd n) _ _ d)
theorem new_rowD {v : V} {qs : List Rat} {w : Int} (n : H a = none) (d : Dp K H v (.tuple (frs qs))) : Dp K (upd H a (.tup [v, .int w])) (.ref a) (rowD qs w) :=
  .tup (SqT.of upd_same) (.cons (dp_same (same_upd n) _ _ d) (.cons (.int w) .nil))
theorem new_tup {xs : List V} {ds : List PyData} (n : H a = none) (d : DpAll K H xs ds) : Dp K (upd H a (.tup xs)) (.ref a) (.tuple ds) := .tup (SqT.of upd_same) (dps_same (same_upd n) _ _ d)
theorem new_lst {xs : List V} {ds : List PyData} (n : H a = none) (d : DpAll K H xs ds) : Dp K (upd H a (.lst xs)) (.ref a) (.list ds) := .lst (SqL.of upd_same) (dps_same (same_upd n) _ _ d)
theorem same2 {o1 o2 : HO} (n1 : H a = none) (n2 : (upd H a o1) b = none) : Same H (upd (upd H a o1) b o2) := Same.trans (same_upd n1) (same_upd n2)
theorem same3 {c : Addr} {o1 o2 o3 : HO} (n1 : H a = none) (n2 : (upd H a o1) b = none) (n3 : (upd (upd H a o1) b o2) c = none) : Same H (upd (upd (upd H a o1) b o2) c o3) := Same.trans (same2 n1 n2) (same_upd n3)
theorem Same.new {H1 : Hp} {o : HO} (s : Same H H1) (n : H1 a = none) : Same H (upd H1 a o) := s.trans (same_upd n)
end
end Ep
namespace Ep
open PySem PySem.Spec PyProof.Rows L2
/-! ### cells of the script, the box, a draw -/
def topS (i : Nat) : Stmt := PySem.Challenge.pw_echopanes_k03_rooms_and_panes.main.body.getD i (.Pass ⟨0, 0, 0, 0⟩)
abbrev sCell : Stmt := topS 12
abbrev sBox : Stmt := topS 13
abbrev sTake : Stmt := topS 14
abbrev sOf : Stmt := topS 15
theorem scCell : FnScope ["_law_script", "_law_k"] ["_law_script", "_law_k"] (defScope sCell) := ⟨rfl, rfl, rfl, by decide +kernel, rfl, by decide +kernel, by decide +kernel⟩
theorem scBox : FnScope ["_law_script", "_law_k", "_law_core"] ["_law_script", "_law_k"] (defScope sBox) := ⟨rfl, rfl, rfl, by decide +kernel, rfl, by decide +kernel, by decide +kernel⟩
theorem scTake : FnScope ["_law_box_here", "_law_size", "_law_found", "_law_once", "_law_twice"] ["_law_box_here", "_law_size"] (defScope sTake) := ⟨rfl, rfl, rfl, by decide +kernel, rfl, by decide +kernel, by decide +kernel⟩
theorem scOf : FnScope ["_law_box_here", "_law_some"] ["_law_box_here", "_law_some"] (defScope sOf) := ⟨rfl, rfl, rfl, by decide +kernel, rfl, by decide +kernel, by decide +kernel⟩
def spCell (K : PySem.W.Frag) : Sp := fun vs H Q _ => ∃ (a : Addr) (k : Int) (ns : List Int), vs = [.ref a, .int k] ∧ SqL K H a (ns.map V.int) ∧ 0 ≤ k ∧ ∀ c : Int, Q (.int c) H
def spBox (K : PySem.W.Frag) : Sp := fun vs H Q _ => ∃ (a : Addr) (k : Int) (ns : List Int), vs = [.ref a, .int k] ∧ SqL K H a (ns.map V.int) ∧ 0 ≤ k ∧ k ≤ 63 ∧ ∀ (p : Addr) (H' : Hp), H p = none → Same H H' → Bx H' p 0 → Q (.ref p) H'
def spTake : Sp := fun vs H Q _ => ∃ (p : Addr) (z : Int) (n : Nat), vs = [.ref p, .int z] ∧ Bx H p n ∧ n < 1000000 ∧ 0 < z ∧ z < 1000000 ∧
  ∀ (r : Int) (H' : Hp), 0 ≤ r → r < z → Chg p H H' → Bx H' p (n + 1) → Q (.int r) H'
def spOf (K : PySem.W.Frag) : Sp := fun vs H Q _ => ∃ (p l : Addr) (xs : List V) (n : Nat), vs = [.ref p, .ref l] ∧ Bx H p n ∧ n < 1000000 ∧ H l = some (.lst xs) ∧ l ≠ p ∧ xs ≠ [] ∧ xs.length < 1000 ∧
  ∀ (v : V) (H' : Hp), v ∈ xs → Chg p H H' → Bx H' p (n + 1) → Q v H'
section
variable {P : Program} {w : World} {K : PySem.W.Frag} {mg : Str → Option Value} {base : Heap}
theorem ok_cell {f : Addr} {fd : FuncData} {k : Nat} (F : Fun K "_law_cell_at" "_law_cell_at" sCell f fd) (ml : mg "len" = none) : FnOk P w K mg base CX0 (k + 1) f fd ["_law_script", "_law_k"] (spCell K) := by
  refine F.ok scCell (fun vs H Q E h => ?_) (fun cdv A outer s H vs Q E hr h => ?_)
  · obtain ⟨a, k, ns, rfl, _⟩ := h
    rfl
  · obtain ⟨a, k, ns, rfl, hS, hk, q⟩ := h
    refine ⟨_, pss_cons (ps_if (pt_cmpR op_lt (pv 1) (pe_callB call_len_seq (by rfl) ml PySem.boot_len (pa_cons (pv 0) pa_nil)) (nomark _)) (pss_one (ps_ret (pe_ix ix_list (pv 0) (pv 1) (fun _ _ => rfl)))) pss_nil) (pss_one (ps_ret pe_int)), ?_⟩
    refine ⟨.int k, rfl, .ref a, rfl, a, _, rfl, .inl hS, _, _, rfl, rfl, _, rfl, ite2 (fun e => ?_) (fun e => ?_)⟩
    · have e1 : k < ((ns.map V.int).length : Int) := of_decide_eq_true e
      rw [List.length_map] at e1
      have hlt : k.toNat < ns.length := by omega
      refine ⟨.ref a, rfl, .int k, rfl, a, _, _, .int ns[k.toNat], rfl, rfl, hS, ?_, q _⟩
      refine at_of (j := k.toNat) (by omega) ?_
      rw [List.getElem?_map, List.getElem?_eq_getElem hlt]
      rfl
    · exact q 0
theorem ok_box {f fC : Addr} {fd fdC : FuncData} {k : Nat} (F : Fun K "_law_box" "_law_box" sBox f fd) (FC : Fun K "_law_cell_at" "_law_cell_at" sCell fC fdC) (bC : Binds K fdC ["_law_script", "_law_k"] []) (gC : mg "_law_cell_at" = some (.ref fC))
    (ml : mg "len" = none) (ma : mg "abs" = none) (mi : mg "int" = none) : FnOk P w K mg base CX0 (k + 2) f fd ["_law_script", "_law_k"] (spBox K) := by
  have GC : FnOk P w K mg base CX0 (k + 1) fC fdC ["_law_script", "_law_k"] (spCell K) := ok_cell FC ml
  refine F.ok scBox (fun vs H Q E h => ?_) (fun cdv A outer s H vs Q E hr h => ?_)
  · obtain ⟨a, k, ns, rfl, _⟩ := h
    rfl
  · obtain ⟨a, k, ns, rfl, hS, hk, hk2, q⟩ := h
    refine ⟨_, pss_cons (ps_set (i := 2) scBox.nd rfl (.inl rfl) (pe_call GC hr (by rfl) gC FC.kp bC .nil pass0 (pa_cons (pv 0) (pa_cons (pv 1) pa_nil))))
      (pss_one (ps_ret (pe_lst (pa_cons (pe_op op_mul (pe_callB call_abs (by rfl) ma (by decide +kernel) (pa_cons (pv 2) pa_nil)) (pe_callTy call_int1 (by rfl) mi PyProof.Rows.boot_int (pa_cons (pe_cmpR op_ge (pe_callB call_abs (by rfl) ma (by decide +kernel) (pa_cons (pv 2) pa_nil)) (pe_op op_pow pe_int pe_int) (nomark _)) pa_nil)))
        (pa_cons (pe_op op_add (pe_op op_add (pe_op op_mod (pv 2) pe_int) (pe_op op_mul pe_int (pv 1))) pe_int) (pa_cons pe_int pa_nil)))))), ?_⟩
    refine ⟨.ref a, rfl, .int k, rfl, a, k, ns, rfl, hS, hk, fun c => ?_⟩
    refine ⟨.int c, rfl, c, rfl, .int c, rfl, c, rfl, 10, 18, rfl, rfl, ⟨by decide, by decide, by decide⟩, _, _, rfl, rfl, .inr ⟨_, rfl, _, _, rfl, rfl, .inr ?_, ?_⟩⟩
    · split <;> split <;> decide
    · refine ⟨.int c, rfl, _, _, rfl, rfl, (by decide : (0 : Int) < 2305843009213693951), .int k, rfl, _, _, rfl, rfl, .inl ⟨by decide, by decide⟩, _, _, rfl, rfl, _, _, rfl, rfl, (by decide : 3 ≤ sizeLine), fun p hp => ?_⟩
      refine q p _ hp (same_upd hp) ⟨_, _, _, upd_same, ?_, ?_, ?_, Int.le_refl _, Int.le_refl _⟩
      · split <;> split <;> omega
      · omega
      · omega
theorem ok_take {f : Addr} {fd : FuncData} {k : Nat} (F : Fun K "_law_take" "_law_take" sTake f fd) : FnOk P w K mg base CX0 (k + 1) f fd ["_law_box_here", "_law_size"] spTake := by
  refine F.ok scTake (fun vs H Q E h => ?_) (fun cdv A outer s H vs Q E hr h => ?_)
  · obtain ⟨p, z, n, rfl, _⟩ := h
    rfl
  · obtain ⟨p, z, n, rfl, hb, hn, hz, hz2, q⟩ := h
    obtain ⟨x, y, c, hp, hx, hy, hy2, hc, hcn⟩ := hb.ex
    refine ⟨_, pss_cons (ps_if (pt_cmpR op_gt (pe_ix ix_list (pv 0) pe_int (fun _ _ => rfl)) pe_int (nomark _))
        (pss_cons (ps_set (i := 2) scTake.nd rfl (.inl rfl) (pe_op op_mod (pe_ix ix_list (pv 0) pe_int (fun _ _ => rfl)) (pv 1)))
        (pss_cons (ps_asg (pe_op op_fdiv (pe_ix ix_list (pv 0) pe_int (fun _ _ => rfl)) (pv 1)) (pg_sub (pv 0) pe_int set_list))
        (pss_one (ps_ret (pv 2))))) pss_nil)
      (pss_cons (ps_asg (pe_op op_add (pe_ix ix_list (pv 0) pe_int (fun _ _ => rfl)) pe_int) (pg_sub (pv 0) pe_int set_list))
      (pss_cons (ps_set (i := 3) scTake.nd rfl (.inl rfl) (pe_op op_mod (pe_op op_mul (pe_op op_add (pe_ix ix_list (pv 0) pe_int (fun _ _ => rfl)) (pe_op op_mul pe_int (pe_ix ix_list (pv 0) pe_int (fun _ _ => rfl)))) (pe_op op_add pe_int (pe_ix ix_list (pv 0) pe_int (fun _ _ => rfl)))) pe_int))
      (pss_cons (ps_set (i := 4) scTake.nd rfl (.inl rfl) (pe_op op_mod (pe_op op_mul (pe_op op_add (pe_op op_add (pv 3) (pe_ix ix_list (pv 0) pe_int (fun _ _ => rfl))) (pe_op op_fdiv (pe_ix ix_list (pv 0) pe_int (fun _ _ => rfl)) pe_int)) (pe_op op_add (pe_op op_mod (pv 3) pe_int) pe_int)) pe_int))
      (pss_one (ps_ret (pe_op op_mod (pe_op op_fdiv (pe_op op_mod (pe_op op_add (pe_op op_mul (pv 4) pe_int) (pv 3)) pe_int) pe_int) (pv 1))))))), ?_⟩
    refine ⟨.ref p, rfl, p, _, 0, _, rfl, rfl, SqL.of hp, atI_nat (j := 0) rfl, _, _, rfl, rfl, _, rfl, ite2 (fun e => ?_) (fun e => ?_)⟩
    · -- the great number
      refine ⟨.ref p, rfl, p, _, 0, _, rfl, rfl, SqL.of hp, atI_nat (j := 0) rfl, .int z, rfl, _, _, rfl, rfl, hz, ?_⟩
      refine ⟨.ref p, rfl, p, _, 0, _, rfl, rfl, SqL.of hp, atI_nat (j := 0) rfl, .int z, rfl, _, _, rfl, rfl, ⟨hz, by omega⟩, ?_⟩
      refine ⟨.ref p, rfl, p, _, 0, 0, rfl, rfl, hp, rfl, ?_⟩
      refine ⟨_, rfl, q _ _ (Int.emod_nonneg _ (by omega)) (Int.emod_lt_of_pos _ hz) chg_upd ⟨_, _, _, upd_same, Int.ediv_nonneg hx (by omega), hy, hy2, hc, by omega⟩⟩
    · refine ⟨.ref p, rfl, p, _, 2, _, rfl, rfl, SqL.of hp, atI_nat (j := 2) rfl, _, _, rfl, rfl, .ref p, rfl, p, _, 2, 2, rfl, rfl, hp, rfl, ?_⟩
      have hp2 : (upd H p (.lst [.int x, .int y, .int (c + 1)])) p = some (.lst [.int x, .int y, .int (c + 1)]) := upd_same
      refine ⟨.ref p, rfl, p, _, 1, _, rfl, rfl, SqL.of hp2, atI_nat (j := 1) rfl, .ref p, rfl, p, _, 2, _, rfl, rfl, SqL.of hp2, atI_nat (j := 2) rfl, _, _, rfl, rfl, .inl ⟨by decide, by decide⟩, _, _, rfl, rfl,
        .ref p, rfl, p, _, 2, _, rfl, rfl, SqL.of hp2, atI_nat (j := 2) rfl, _, _, rfl, rfl, _, _, rfl, rfl, .inl ⟨by omega, by omega⟩, _, _, rfl, rfl, (by decide : (0 : Int) < 2147483647), ?_⟩
      generalize e1 : (y + 48271 * (c + 1)) * (39373 + (c + 1)) % 2147483647 = o
      have ho : 0 ≤ o ∧ o < 2147483647 := by omega
      refine ⟨_, rfl, .ref p, rfl, p, _, 2, _, rfl, rfl, SqL.of hp2, atI_nat (j := 2) rfl, _, _, rfl, rfl, .ref p, rfl, p, _, 1, _, rfl, rfl, SqL.of hp2, atI_nat (j := 1) rfl, _, _, rfl, rfl, ⟨by decide, by decide⟩, _, _, rfl, rfl,
        _, rfl, _, _, rfl, rfl, (by decide : (0 : Int) < 40009), _, _, rfl, rfl, _, _, rfl, rfl, .inl ⟨by omega, by omega⟩, _, _, rfl, rfl, (by decide : (0 : Int) < 2147483629), ?_⟩
      generalize e2 : (o + (c + 1) + y / 1000003) * (o % 40009 + 7) % 2147483629 = o2
      have ho2 : 0 ≤ o2 ∧ o2 < 2147483629 := by omega
      refine ⟨_, rfl, _, _, rfl, rfl, .inl ⟨by omega, by omega⟩, _, rfl, _, _, rfl, rfl, _, _, rfl, rfl, (by decide : (0 : Int) < 2147483587), _, _, rfl, rfl, ⟨by decide, by decide⟩, .int z, rfl, _, _, rfl, rfl, hz, ?_⟩
      exact q _ _ (Int.emod_nonneg _ (by omega)) (Int.emod_lt_of_pos _ hz) chg_upd ⟨_, _, _, hp2, hx, hy, hy2, by omega, by omega⟩
theorem ok_of {f fT : Addr} {fd fdT : FuncData} {k : Nat} (F : Fun K "_law_of" "_law_of" sOf f fd) (FT : Fun K "_law_take" "_law_take" sTake fT fdT) (bT : Binds K fdT ["_law_box_here", "_law_size"] []) (gT : mg "_law_take" = some (.ref fT))
    (ml : mg "len" = none) : FnOk P w K mg base CX0 (k + 2) f fd ["_law_box_here", "_law_some"] (spOf K) := by
  have GT : FnOk P w K mg base CX0 (k + 1) fT fdT ["_law_box_here", "_law_size"] spTake := ok_take FT
  refine F.ok scOf (fun vs H Q E h => ?_) (fun cdv A outer s H vs Q E hr h => ?_)
  · obtain ⟨p, l, xs, n, rfl, _⟩ := h
    rfl
  · obtain ⟨p, l, xs, n, rfl, hb, hn, hl, hlp, hne, hlen, q⟩ := h
    have hpos : 0 < xs.length := List.length_pos_iff.mpr hne
    refine ⟨_, pss_one (ps_ret (pe_ix ix_list (pv 1) (pe_call GT hr (by rfl) gT FT.kp bT .nil pass0 (pa_cons (pv 0) (pa_cons (pe_callB call_len_seq (by rfl) ml PySem.boot_len (pa_cons (pv 1) pa_nil)) pa_nil))) (fun _ _ => rfl))), ?_⟩
    refine ⟨.ref l, rfl, .ref p, rfl, .ref l, rfl, l, _, rfl, .inl (SqL.of hl), p, _, n, rfl, hb, hn, by omega, by omega, fun r H' h0 h1 c b => ?_⟩
    have hlt : r.toNat < xs.length := by omega
    refine ⟨l, _, _, xs[r.toNat], rfl, rfl, SqL.of (c _ _ hlp hl), at_of (j := r.toNat) (by omega) (List.getElem?_eq_getElem hlt), q _ _ (List.getElem_mem hlt) c b⟩
end
/-! ### FRACTIONs by the program and by the law's own sums -/
abbrev sFrac : Stmt := topS 17
theorem scFrac : FnScope ["_law_top", "_law_under", "_law_big", "_law_small", "_law_sign"] ["_law_top", "_law_under"] (defScope sFrac) := ⟨rfl, rfl, rfl, by decide +kernel, rfl, by decide +kernel, by decide +kernel⟩
/-- a FRACTION of two whole numbers is told, as a new pair -/
def spFrac (K : PySem.W.Frag) : Sp := fun vs H Q _ => ∃ (t u : Int) (b : Nat), vs = [.int t, .int u] ∧ 0 < u ∧ t.natAbs < 2 ^ b ∧ u.natAbs < 2 ^ b ∧ 0 < b ∧ b ≤ 9000 ∧
  ∀ (v : V) (H' : Hp), Same H H' → Dp K H' v (frD (Rat.divInt t u)) → Q v H'
section
variable {P : Program} {w : World} {K : PySem.W.Frag} {mg : Str → Option Value} {base : Heap}
theorem abs_gcd (a b : Int) : Int.gcd (if a < 0 then -a else a) (if b < 0 then -b else b) = Int.gcd a b := by
  unfold Int.gcd
  congr 1 <;> split <;> omega
theorem g_le {t u : Int} {b : Nat} (hu : 0 < u) (h : u.natAbs < 2 ^ b) : (Int.gcd t u : Int).natAbs < 2 ^ b := by
  have : Int.gcd t u ≤ u.natAbs := Int.gcd_le_natAbs_right t (by omega)
  omega
theorem ok_frac {f : Addr} {fd : FuncData} {k : Nat} (F : Fun K "_law_frac" "_law_frac" sFrac f fd) (ma : mg "abs" = none) : FnOk P w K mg base CX0 (k + 1) f fd ["_law_top", "_law_under"] (spFrac K) := by
  refine F.ok scFrac (fun vs H Q E h => ?_) (fun cdv A outer s H vs Q E hr h => ?_)
  · obtain ⟨t, u, b, rfl, _⟩ := h
    rfl
  · obtain ⟨t, u, b, rfl, hu, ht, hub, hb0, hb9, q⟩ := h
    refine ⟨_, pss_cons (ps_par (by rfl) scFrac.nd (i := 2) (j := 3) rfl rfl (by decide) rfl rfl (pa_cons (pe_callB call_abs (by rfl) ma (by decide +kernel) (pa_cons (pv 0) pa_nil)) (pa_cons (pe_callB call_abs (by rfl) ma (by decide +kernel) (pa_cons (pv 1) pa_nil)) pa_nil)) (by rfl))
      (pss_cons (ps_while PassesOwn.never (pt_cmpR op_gt (pv 3) pe_int (nomark _)) (pss_one (ps_par (by rfl) scFrac.nd (i := 2) (j := 3) rfl rfl (by decide) rfl rfl (pa_cons (pv 3) (pa_cons (pe_op op_mod (pv 2) (pv 3)) pa_nil)) (by rfl))))
      (pss_cons (ps_set (i := 4) scFrac.nd rfl (.inl rfl) (pe_ifExp (pt_cmpR op_gt (pv 1) pe_int (nomark _)) pe_int (pe_un un_neg pe_int)))
      (pss_one (ps_ret (pe_tup (pa_cons (pe_op op_fdivW (pe_op op_mul (pv 4) (pv 0)) (pv 2)) (pa_cons (pe_op op_fdivW (pe_callB call_abs (by rfl) ma (by decide +kernel) (pa_cons (pv 1) pa_nil)) (pv 2)) pa_nil))))))), ?_⟩
    refine ⟨.int t, rfl, t, rfl, .int u, rfl, u, rfl, _, _, rfl, ?_⟩
    refine ⟨fun m σ H1 => ∃ x y : Int, σ = [some (.int t), some (.int u), some (.int x), some (.int y), none] ∧ 0 ≤ x ∧ 0 ≤ y ∧ Int.gcd x y = Int.gcd t u ∧ H1 = H ∧ m = y.toNat,
      ⟨_, _, _, rfl, ?_, ?_, abs_gcd t u, rfl, rfl⟩, ?_⟩
    · split <;> omega
    · split <;> omega
    · rintro m σ H1 ⟨x, y, rfl, hx, hy, hg, rfl, rfl⟩
      refine ⟨.int y, rfl, _, _, rfl, rfl, _, rfl, ite2 (fun e => ?_) (fun e => ?_)⟩
      · have e1 : 0 < y := of_decide_eq_true e
        have m1 := Int.emod_nonneg x (show y ≠ 0 by omega)
        have m2 := Int.emod_lt_of_pos x e1
        refine ⟨fun σ' H' => ∃ x' y' : Int, σ' = [some (.int t), some (.int u), some (.int x'), some (.int y'), none] ∧ 0 ≤ x' ∧ 0 ≤ y' ∧ Int.gcd x' y' = Int.gcd t u ∧ H' = H1 ∧ y' < y, fun σ' H' hN => ?_, ?_⟩
        · obtain ⟨x', y', e2, h1, h2, h3, h4, h5⟩ := hN
          exact ⟨y'.toNat, by omega, x', y', e2, h1, h2, h3, h4, rfl⟩
        · refine ⟨.int y, rfl, .int x, rfl, .int y, rfl, _, _, rfl, rfl, e1, _, _, rfl, y, x % y, rfl, hy, m1, ?_, rfl, m2⟩
          rw [gcd_emod x y (by omega)]
          exact hg
      · have e1 : ¬ 0 < y := fun z => e (decide_eq_true z)
        have y0 : y = 0 := by omega
        subst y0
        have ex : x = (Int.gcd t u : Int) := by
          rw [← hg, Int.gcd_zero_right]
          omega
        subst ex
        have hgp := gcd_pos (t := t) hu
        have hg1 := g_le (t := t) hu hub
        refine ⟨.int u, rfl, _, _, rfl, rfl, _, rfl, ite2 (fun _ => ?_) (fun z => absurd (decide_eq_true hu) z)⟩
        refine ⟨_, rfl, .int t, rfl, _, _, rfl, rfl, .inl ⟨by decide, by decide⟩, _, rfl, _, _, rfl, rfl, wide_div (by omega) hg1 hb0 hb9, .int u, rfl, u, rfl, _, rfl, _, _, rfl, rfl, wide_div (by omega) hg1 hb0 hb9, (by decide : 2 ≤ sizeLine), fun p hp => ?_⟩
        refine q _ _ (same_upd hp) (dp_fr_mk (SqT.of ?_))
        rw [upd_same, if_neg (by omega), fr_num hu, fr_den hu, Int.one_mul]
end
abbrev sCommon : Stmt := topS 2
abbrev sFraction : Stmt := topS 3
theorem scCommon : FnScope ["one", "other"] ["one", "other"] (defScope sCommon) := ⟨rfl, rfl, rfl, by decide +kernel, rfl, by decide +kernel, by decide +kernel⟩
theorem scFraction : FnScope ["top", "bottom", "part"] ["top", "bottom"] (defScope sFraction) := ⟨rfl, rfl, rfl, by decide +kernel, rfl, by decide +kernel, by decide +kernel⟩
def spCommon : Sp := fun vs H Q _ => ∃ (t u : Int), vs = [.int t, .int u] ∧ Q (.int (Int.gcd t u : Int)) H
/-- of two FRACTIONs a third one, as a new pair: r says which, C what is asked, z how many bits it has -/
def spTwo (K : PySem.W.Frag) (r : Rat → Rat → Rat) (C : Rat → Prop) : Sp := fun vs H Q _ => ∃ (x y : V) (q1 q2 : Rat) (a b : Nat), vs = [x, y] ∧ Dp K H x (frD q1) ∧ Dp K H y (frD q2) ∧ Sz a q1 ∧ Sz b q2 ∧ a + b < 9000 ∧ C q2 ∧
  ∀ (v : V) (H' : Hp), Same H H' → Dp K H' v (frD (r q1 q2)) → Q v H'
section
variable {P : Program} {w : World} {K : PySem.W.Frag} {mg : Str → Option Value} {base : Heap}
theorem fmod_small (x : Int) {y : Int} (h : y ≠ 0) : (x.fmod y).natAbs < y.natAbs := by
  rw [Int.fmod_eq_emod]
  have a1 := Int.emod_nonneg x h
  have a2 := Int.emod_lt x h
  split
  · omega
  · rename_i z
    have z2 : ¬ y ∣ x := fun w => z (Or.inr w)
    have z3 : x % y ≠ 0 := fun w => z2 (Int.dvd_of_emod_eq_zero w)
    omega
theorem ok_common {f : Addr} {fd : FuncData} {k : Nat} (F : Fun K "common_part" "common_part" sCommon f fd) (ma : mg "abs" = none) : FnOk P w K mg base CX0 (k + 1) f fd ["one", "other"] spCommon := by
  refine F.ok scCommon (fun vs H Q E h => ?_) (fun cdv A outer s H vs Q E hr h => ?_)
  · obtain ⟨t, u, rfl, _⟩ := h
    rfl
  · obtain ⟨t, u, rfl, q⟩ := h
    refine ⟨_, pss_cons (ps_while PassesOwn.never (pt_truth (pv 1) (by intro _; rfl)) (pss_one (ps_par (by rfl) scCommon.nd (i := 0) (j := 1) rfl rfl (by decide) rfl rfl (pa_cons (pv 1) (pa_cons (pe_op op_modN (pv 0) (pv 1)) pa_nil)) (by rfl))))
      (pss_one (ps_ret (pe_callB call_abs (by rfl) ma (by decide +kernel) (pa_cons (pv 0) pa_nil)))), ?_⟩
    refine ⟨fun m σ H1 => ∃ x y : Int, σ = [some (.int x), some (.int y)] ∧ Int.gcd x y = Int.gcd t u ∧ H1 = H ∧ m = y.natAbs, ⟨_, t, u, rfl, rfl, rfl, rfl⟩, ?_⟩
    rintro m σ H1 ⟨x, y, rfl, hg, rfl, rfl⟩
    refine ⟨.int y, rfl, _, rfl, ite2 (fun e => ?_) (fun e => ?_)⟩
    · have y0 : y ≠ 0 := by simpa using e
      refine ⟨fun σ' H' => ∃ x' y' : Int, σ' = [some (.int x'), some (.int y')] ∧ Int.gcd x' y' = Int.gcd t u ∧ H' = H1 ∧ y'.natAbs < y.natAbs, fun σ' H' hN => ?_, ?_⟩
      · obtain ⟨x', y', e2, h1, h2, h3⟩ := hN
        exact ⟨_, h3, x', y', e2, h1, h2, rfl⟩
      · refine ⟨.int y, rfl, .int x, rfl, .int y, rfl, _, _, rfl, rfl, y0, _, _, rfl, y, x.fmod y, rfl, ?_, rfl, ?_⟩
        · rw [gcd_fmod x y y0]
          exact hg
        · exact fmod_small x y0
    · have y0 : y = 0 := by simpa using e
      subst y0
      refine ⟨.int x, rfl, x, rfl, ?_⟩
      have ex : (if x < 0 then -x else x) = (Int.gcd t u : Int) := by
        rw [← hg, Int.gcd_zero_right]
        split <;> omega
      rw [ex]
      exact q
theorem ok_fraction {f fC : Addr} {fd fdC : FuncData} {k : Nat} (F : Fun K "fraction" "fraction" sFraction f fd) (FC : Fun K "common_part" "common_part" sCommon fC fdC) (bC : Binds K fdC ["one", "other"] []) (gC : mg "common_part" = some (.ref fC))
    (ma : mg "abs" = none) : FnOk P w K mg base CX0 (k + 2) f fd ["top", "bottom"] (spFrac K) := by
  have GC : FnOk P w K mg base CX0 (k + 1) fC fdC ["one", "other"] spCommon := ok_common FC ma
  refine F.ok scFraction (fun vs H Q E h => ?_) (fun cdv A outer s H vs Q E hr h => ?_)
  · obtain ⟨t, u, b, rfl, _⟩ := h
    rfl
  · obtain ⟨t, u, b, rfl, hu, ht, hub, hb0, hb9, q⟩ := h
    refine ⟨_, pss_cons (ps_set (i := 2) scFraction.nd rfl (.inl rfl) (pe_call GC hr (by rfl) gC FC.kp bC .nil pass0 (pa_cons (pv 0) (pa_cons (pv 1) pa_nil))))
      (pss_cons (ps_if (pt_cmpR op_lt (pv 1) pe_int (nomark _)) (pss_one (ps_set (i := 2) scFraction.nd rfl (.inl rfl) (pe_un un_neg (pv 2)))) pss_nil)
      (pss_one (ps_ret (pe_tup (pa_cons (pe_op op_fdivW (pv 0) (pv 2)) (pa_cons (pe_op op_fdivW (pv 1) (pv 2)) pa_nil)))))), ?_⟩
    have hgp := gcd_pos (t := t) hu
    have hg1 := g_le (t := t) hu hub
    refine ⟨.int t, rfl, .int u, rfl, t, u, rfl, .int u, rfl, _, _, rfl, rfl, _, rfl, ite2 (fun e => ?_) (fun e => ?_)⟩
    · have e1 : u < 0 := of_decide_eq_true e
      omega
    · refine ⟨.int t, rfl, _, rfl, _, _, rfl, rfl, wide_div (by omega) hg1 hb0 hb9, .int u, rfl, _, rfl, _, _, rfl, rfl, wide_div (by omega) hg1 hb0 hb9, (by decide : 2 ≤ sizeLine), fun p hp => ?_⟩
      refine q _ _ (same_upd hp) (dp_fr_mk (SqT.of ?_))
      rw [upd_same, fr_num hu, fr_den hu]
end
section
variable {P : Program} {w : World} {K : PySem.W.Frag} {mg : Str → Option Value} {base : Heap}
abbrev s_plus : Stmt := topS 4
theorem sc_plus : FnScope ["one", "other"] ["one", "other"] (defScope s_plus) := ⟨rfl, rfl, rfl, by decide +kernel, rfl, by decide +kernel, by decide +kernel⟩
theorem ok_plus {f fC : Addr} {fd fdC : FuncData} {k : Nat} (F : Fun K "plus" "plus" s_plus f fd) (kp : PySem.W.keepIn K (.ref fC) = true) (G : FnOk P w K mg base CX0 k fC fdC ["top", "bottom"] (spFrac K)) (bC : Binds K fdC ["top", "bottom"] []) (gC : mg "fraction" = some (.ref fC)) :
    FnOk P w K mg base CX0 (k + 1) f fd ["one", "other"] (spTwo K (fun q1 q2 => q1 + q2) (fun r => True)) := by
  refine F.ok sc_plus (fun vs H Q E h => ?_) (fun cdv A outer s H vs Q E hr h => ?_)
  · obtain ⟨x, y, q1, q2, a, b, rfl, _⟩ := h
    rfl
  · obtain ⟨x, y, q1, q2, a, b, rfl, hx, hy, z1, z2, hz, hc, q⟩ := h
    obtain ⟨p1, rfl, h1⟩ := dp_fr hx
    obtain ⟨p2, rfl, h2⟩ := dp_fr hy
    refine ⟨_, pss_one (ps_ret (pe_call G hr (by rfl) gC kp bC .nil pass0 (pa_cons (pe_op op_add (pe_op op_mulW (pe_ix ix_tup (pv 0) pe_int (fun _ _ => rfl)) (pe_ix ix_tup (pv 1) pe_int (fun _ _ => rfl))) (pe_op op_mulW (pe_ix ix_tup (pv 1) pe_int (fun _ _ => rfl)) (pe_ix ix_tup (pv 0) pe_int (fun _ _ => rfl)))) (pa_cons (pe_op op_mulW (pe_ix ix_tup (pv 0) pe_int (fun _ _ => rfl)) (pe_ix ix_tup (pv 1) pe_int (fun _ _ => rfl))) pa_nil)))), ?_⟩
    refine ⟨.ref p1, rfl, p1, _, 0, _, rfl, rfl, h1, atI_nat (j := 0) rfl, .ref p2, rfl, p2, _, 1, _, rfl, rfl, h2, atI_nat (j := 1) rfl, _, _, rfl, rfl, wide_mul (up_lt z1.1 (Nat.le_add_right a 1)) (up_lt z2.den (Nat.le_add_right b 1)) (by omega) (by omega) (by omega), .ref p2, rfl, p2, _, 0, _, rfl, rfl, h2, atI_nat (j := 0) rfl, .ref p1, rfl, p1, _, 1, _, rfl, rfl, h1, atI_nat (j := 1) rfl, _, _, rfl, rfl, wide_mul (up_lt z2.1 (Nat.le_add_right b 1)) (up_lt z1.den (Nat.le_add_right a 1)) (by omega) (by omega) (by omega), _, _, rfl, rfl, .ref p1, rfl, p1, _, 1, _, rfl, rfl, h1, atI_nat (j := 1) rfl, .ref p2, rfl, p2, _, 1, _, rfl, rfl, h2, atI_nat (j := 1) rfl, _, _, rfl, rfl, wide_mul (up_lt z1.den (Nat.le_add_right a 1)) (up_lt z2.den (Nat.le_add_right b 1)) (by omega) (by omega) (by omega), _, _, a + b + 1, rfl, dd_pos q1 q2, up_lt (sz_add_t z1 z2) (Nat.le_refl _), up_lt (sz_dd z1 z2) (by omega), by omega, by omega, fun v H' sm d => q v H' sm ?_⟩
    rw [q_add] at d
    exact d
abbrev s_minus : Stmt := topS 5
theorem sc_minus : FnScope ["one", "other"] ["one", "other"] (defScope s_minus) := ⟨rfl, rfl, rfl, by decide +kernel, rfl, by decide +kernel, by decide +kernel⟩
theorem ok_minus {f fC : Addr} {fd fdC : FuncData} {k : Nat} (F : Fun K "minus" "minus" s_minus f fd) (kp : PySem.W.keepIn K (.ref fC) = true) (G : FnOk P w K mg base CX0 k fC fdC ["top", "bottom"] (spFrac K)) (bC : Binds K fdC ["top", "bottom"] []) (gC : mg "fraction" = some (.ref fC)) :
    FnOk P w K mg base CX0 (k + 1) f fd ["one", "other"] (spTwo K (fun q1 q2 => q1 - q2) (fun r => True)) := by
  refine F.ok sc_minus (fun vs H Q E h => ?_) (fun cdv A outer s H vs Q E hr h => ?_)
  · obtain ⟨x, y, q1, q2, a, b, rfl, _⟩ := h
    rfl
  · obtain ⟨x, y, q1, q2, a, b, rfl, hx, hy, z1, z2, hz, hc, q⟩ := h
    obtain ⟨p1, rfl, h1⟩ := dp_fr hx
    obtain ⟨p2, rfl, h2⟩ := dp_fr hy
    refine ⟨_, pss_one (ps_ret (pe_call G hr (by rfl) gC kp bC .nil pass0 (pa_cons (pe_op op_sub (pe_op op_mulW (pe_ix ix_tup (pv 0) pe_int (fun _ _ => rfl)) (pe_ix ix_tup (pv 1) pe_int (fun _ _ => rfl))) (pe_op op_mulW (pe_ix ix_tup (pv 1) pe_int (fun _ _ => rfl)) (pe_ix ix_tup (pv 0) pe_int (fun _ _ => rfl)))) (pa_cons (pe_op op_mulW (pe_ix ix_tup (pv 0) pe_int (fun _ _ => rfl)) (pe_ix ix_tup (pv 1) pe_int (fun _ _ => rfl))) pa_nil)))), ?_⟩
    refine ⟨.ref p1, rfl, p1, _, 0, _, rfl, rfl, h1, atI_nat (j := 0) rfl, .ref p2, rfl, p2, _, 1, _, rfl, rfl, h2, atI_nat (j := 1) rfl, _, _, rfl, rfl, wide_mul (up_lt z1.1 (Nat.le_add_right a 1)) (up_lt z2.den (Nat.le_add_right b 1)) (by omega) (by omega) (by omega), .ref p2, rfl, p2, _, 0, _, rfl, rfl, h2, atI_nat (j := 0) rfl, .ref p1, rfl, p1, _, 1, _, rfl, rfl, h1, atI_nat (j := 1) rfl, _, _, rfl, rfl, wide_mul (up_lt z2.1 (Nat.le_add_right b 1)) (up_lt z1.den (Nat.le_add_right a 1)) (by omega) (by omega) (by omega), _, _, rfl, rfl, .ref p1, rfl, p1, _, 1, _, rfl, rfl, h1, atI_nat (j := 1) rfl, .ref p2, rfl, p2, _, 1, _, rfl, rfl, h2, atI_nat (j := 1) rfl, _, _, rfl, rfl, wide_mul (up_lt z1.den (Nat.le_add_right a 1)) (up_lt z2.den (Nat.le_add_right b 1)) (by omega) (by omega) (by omega), _, _, a + b + 1, rfl, dd_pos q1 q2, up_lt (sz_sub_t z1 z2) (Nat.le_refl _), up_lt (sz_dd z1 z2) (by omega), by omega, by omega, fun v H' sm d => q v H' sm ?_⟩
    rw [q_sub] at d
    exact d
abbrev s_times : Stmt := topS 6
theorem sc_times : FnScope ["one", "other"] ["one", "other"] (defScope s_times) := ⟨rfl, rfl, rfl, by decide +kernel, rfl, by decide +kernel, by decide +kernel⟩
theorem ok_times {f fC : Addr} {fd fdC : FuncData} {k : Nat} (F : Fun K "times" "times" s_times f fd) (kp : PySem.W.keepIn K (.ref fC) = true) (G : FnOk P w K mg base CX0 k fC fdC ["top", "bottom"] (spFrac K)) (bC : Binds K fdC ["top", "bottom"] []) (gC : mg "fraction" = some (.ref fC)) :
    FnOk P w K mg base CX0 (k + 1) f fd ["one", "other"] (spTwo K (fun q1 q2 => q1 * q2) (fun r => True)) := by
  refine F.ok sc_times (fun vs H Q E h => ?_) (fun cdv A outer s H vs Q E hr h => ?_)
  · obtain ⟨x, y, q1, q2, a, b, rfl, _⟩ := h
    rfl
  · obtain ⟨x, y, q1, q2, a, b, rfl, hx, hy, z1, z2, hz, hc, q⟩ := h
    obtain ⟨p1, rfl, h1⟩ := dp_fr hx
    obtain ⟨p2, rfl, h2⟩ := dp_fr hy
    refine ⟨_, pss_one (ps_ret (pe_call G hr (by rfl) gC kp bC .nil pass0 (pa_cons (pe_op op_mulW (pe_ix ix_tup (pv 0) pe_int (fun _ _ => rfl)) (pe_ix ix_tup (pv 1) pe_int (fun _ _ => rfl))) (pa_cons (pe_op op_mulW (pe_ix ix_tup (pv 0) pe_int (fun _ _ => rfl)) (pe_ix ix_tup (pv 1) pe_int (fun _ _ => rfl))) pa_nil)))), ?_⟩
    refine ⟨.ref p1, rfl, p1, _, 0, _, rfl, rfl, h1, atI_nat (j := 0) rfl, .ref p2, rfl, p2, _, 0, _, rfl, rfl, h2, atI_nat (j := 0) rfl, _, _, rfl, rfl, wide_mul (up_lt z1.1 (Nat.le_add_right a 1)) (up_lt z2.1 (Nat.le_add_right b 1)) (by omega) (by omega) (by omega), .ref p1, rfl, p1, _, 1, _, rfl, rfl, h1, atI_nat (j := 1) rfl, .ref p2, rfl, p2, _, 1, _, rfl, rfl, h2, atI_nat (j := 1) rfl, _, _, rfl, rfl, wide_mul (up_lt z1.den (Nat.le_add_right a 1)) (up_lt z2.den (Nat.le_add_right b 1)) (by omega) (by omega) (by omega), _, _, a + b + 1, rfl, dd_pos q1 q2, up_lt (m_lt z1.1 z2.1) (by omega), up_lt (sz_dd z1 z2) (by omega), by omega, by omega, fun v H' sm d => q v H' sm ?_⟩
    rw [q_mul] at d
    exact d
abbrev s_over : Stmt := topS 7
theorem sc_over : FnScope ["one", "other"] ["one", "other"] (defScope s_over) := ⟨rfl, rfl, rfl, by decide +kernel, rfl, by decide +kernel, by decide +kernel⟩
theorem ok_over {f fC : Addr} {fd fdC : FuncData} {k : Nat} (F : Fun K "over" "over" s_over f fd) (kp : PySem.W.keepIn K (.ref fC) = true) (G : FnOk P w K mg base CX0 k fC fdC ["top", "bottom"] (spFrac K)) (bC : Binds K fdC ["top", "bottom"] []) (gC : mg "fraction" = some (.ref fC)) :
    FnOk P w K mg base CX0 (k + 1) f fd ["one", "other"] (spTwo K (fun q1 q2 => q1 / q2) (fun r => 0 < r)) := by
  refine F.ok sc_over (fun vs H Q E h => ?_) (fun cdv A outer s H vs Q E hr h => ?_)
  · obtain ⟨x, y, q1, q2, a, b, rfl, _⟩ := h
    rfl
  · obtain ⟨x, y, q1, q2, a, b, rfl, hx, hy, z1, z2, hz, hc, q⟩ := h
    obtain ⟨p1, rfl, h1⟩ := dp_fr hx
    obtain ⟨p2, rfl, h2⟩ := dp_fr hy
    refine ⟨_, pss_one (ps_ret (pe_call G hr (by rfl) gC kp bC .nil pass0 (pa_cons (pe_op op_mulW (pe_ix ix_tup (pv 0) pe_int (fun _ _ => rfl)) (pe_ix ix_tup (pv 1) pe_int (fun _ _ => rfl))) (pa_cons (pe_op op_mulW (pe_ix ix_tup (pv 0) pe_int (fun _ _ => rfl)) (pe_ix ix_tup (pv 1) pe_int (fun _ _ => rfl))) pa_nil)))), ?_⟩
    refine ⟨.ref p1, rfl, p1, _, 0, _, rfl, rfl, h1, atI_nat (j := 0) rfl, .ref p2, rfl, p2, _, 1, _, rfl, rfl, h2, atI_nat (j := 1) rfl, _, _, rfl, rfl, wide_mul (up_lt z1.1 (Nat.le_add_right a 1)) (up_lt z2.den (Nat.le_add_right b 1)) (by omega) (by omega) (by omega), .ref p1, rfl, p1, _, 1, _, rfl, rfl, h1, atI_nat (j := 1) rfl, .ref p2, rfl, p2, _, 0, _, rfl, rfl, h2, atI_nat (j := 0) rfl, _, _, rfl, rfl, wide_mul (up_lt z1.den (Nat.le_add_right a 1)) (up_lt z2.1 (Nat.le_add_right b 1)) (by omega) (by omega) (by omega), _, _, a + b + 1, rfl, dn_pos q1 q2 hc, up_lt (m_lt z1.1 z2.den) (by omega), up_lt (m_lt z1.den z2.1) (by omega), by omega, by omega, fun v H' sm d => q v H' sm ?_⟩
    rw [q_div] at d
    exact d
abbrev s__law_plus : Stmt := topS 18
theorem sc__law_plus : FnScope ["_law_one", "_law_other"] ["_law_one", "_law_other"] (defScope s__law_plus) := ⟨rfl, rfl, rfl, by decide +kernel, rfl, by decide +kernel, by decide +kernel⟩
theorem ok__law_plus {f fC : Addr} {fd fdC : FuncData} {k : Nat} (F : Fun K "_law_plus" "_law_plus" s__law_plus f fd) (kp : PySem.W.keepIn K (.ref fC) = true) (G : FnOk P w K mg base CX0 k fC fdC ["_law_top", "_law_under"] (spFrac K)) (bC : Binds K fdC ["_law_top", "_law_under"] []) (gC : mg "_law_frac" = some (.ref fC)) :
    FnOk P w K mg base CX0 (k + 1) f fd ["_law_one", "_law_other"] (spTwo K (fun q1 q2 => q1 + q2) (fun r => True)) := by
  refine F.ok sc__law_plus (fun vs H Q E h => ?_) (fun cdv A outer s H vs Q E hr h => ?_)
  · obtain ⟨x, y, q1, q2, a, b, rfl, _⟩ := h
    rfl
  · obtain ⟨x, y, q1, q2, a, b, rfl, hx, hy, z1, z2, hz, hc, q⟩ := h
    obtain ⟨p1, rfl, h1⟩ := dp_fr hx
    obtain ⟨p2, rfl, h2⟩ := dp_fr hy
    refine ⟨_, pss_one (ps_ret (pe_call G hr (by rfl) gC kp bC .nil pass0 (pa_cons (pe_op op_add (pe_op op_mulW (pe_ix ix_tup (pv 0) pe_int (fun _ _ => rfl)) (pe_ix ix_tup (pv 1) pe_int (fun _ _ => rfl))) (pe_op op_mulW (pe_ix ix_tup (pv 1) pe_int (fun _ _ => rfl)) (pe_ix ix_tup (pv 0) pe_int (fun _ _ => rfl)))) (pa_cons (pe_op op_mulW (pe_ix ix_tup (pv 0) pe_int (fun _ _ => rfl)) (pe_ix ix_tup (pv 1) pe_int (fun _ _ => rfl))) pa_nil)))), ?_⟩
    refine ⟨.ref p1, rfl, p1, _, 0, _, rfl, rfl, h1, atI_nat (j := 0) rfl, .ref p2, rfl, p2, _, 1, _, rfl, rfl, h2, atI_nat (j := 1) rfl, _, _, rfl, rfl, wide_mul (up_lt z1.1 (Nat.le_add_right a 1)) (up_lt z2.den (Nat.le_add_right b 1)) (by omega) (by omega) (by omega), .ref p2, rfl, p2, _, 0, _, rfl, rfl, h2, atI_nat (j := 0) rfl, .ref p1, rfl, p1, _, 1, _, rfl, rfl, h1, atI_nat (j := 1) rfl, _, _, rfl, rfl, wide_mul (up_lt z2.1 (Nat.le_add_right b 1)) (up_lt z1.den (Nat.le_add_right a 1)) (by omega) (by omega) (by omega), _, _, rfl, rfl, .ref p1, rfl, p1, _, 1, _, rfl, rfl, h1, atI_nat (j := 1) rfl, .ref p2, rfl, p2, _, 1, _, rfl, rfl, h2, atI_nat (j := 1) rfl, _, _, rfl, rfl, wide_mul (up_lt z1.den (Nat.le_add_right a 1)) (up_lt z2.den (Nat.le_add_right b 1)) (by omega) (by omega) (by omega), _, _, a + b + 1, rfl, dd_pos q1 q2, up_lt (sz_add_t z1 z2) (Nat.le_refl _), up_lt (sz_dd z1 z2) (by omega), by omega, by omega, fun v H' sm d => q v H' sm ?_⟩
    rw [q_add] at d
    exact d
abbrev s__law_less : Stmt := topS 19
theorem sc__law_less : FnScope ["_law_one", "_law_other"] ["_law_one", "_law_other"] (defScope s__law_less) := ⟨rfl, rfl, rfl, by decide +kernel, rfl, by decide +kernel, by decide +kernel⟩
theorem ok__law_less {f fC : Addr} {fd fdC : FuncData} {k : Nat} (F : Fun K "_law_less" "_law_less" s__law_less f fd) (kp : PySem.W.keepIn K (.ref fC) = true) (G : FnOk P w K mg base CX0 k fC fdC ["_law_top", "_law_under"] (spFrac K)) (bC : Binds K fdC ["_law_top", "_law_under"] []) (gC : mg "_law_frac" = some (.ref fC)) :
    FnOk P w K mg base CX0 (k + 1) f fd ["_law_one", "_law_other"] (spTwo K (fun q1 q2 => q1 - q2) (fun r => True)) := by
  refine F.ok sc__law_less (fun vs H Q E h => ?_) (fun cdv A outer s H vs Q E hr h => ?_)
  · obtain ⟨x, y, q1, q2, a, b, rfl, _⟩ := h
    rfl
  · obtain ⟨x, y, q1, q2, a, b, rfl, hx, hy, z1, z2, hz, hc, q⟩ := h
    obtain ⟨p1, rfl, h1⟩ := dp_fr hx
    obtain ⟨p2, rfl, h2⟩ := dp_fr hy
    refine ⟨_, pss_one (ps_ret (pe_call G hr (by rfl) gC kp bC .nil pass0 (pa_cons (pe_op op_sub (pe_op op_mulW (pe_ix ix_tup (pv 0) pe_int (fun _ _ => rfl)) (pe_ix ix_tup (pv 1) pe_int (fun _ _ => rfl))) (pe_op op_mulW (pe_ix ix_tup (pv 1) pe_int (fun _ _ => rfl)) (pe_ix ix_tup (pv 0) pe_int (fun _ _ => rfl)))) (pa_cons (pe_op op_mulW (pe_ix ix_tup (pv 0) pe_int (fun _ _ => rfl)) (pe_ix ix_tup (pv 1) pe_int (fun _ _ => rfl))) pa_nil)))), ?_⟩
    refine ⟨.ref p1, rfl, p1, _, 0, _, rfl, rfl, h1, atI_nat (j := 0) rfl, .ref p2, rfl, p2, _, 1, _, rfl, rfl, h2, atI_nat (j := 1) rfl, _, _, rfl, rfl, wide_mul (up_lt z1.1 (Nat.le_add_right a 1)) (up_lt z2.den (Nat.le_add_right b 1)) (by omega) (by omega) (by omega), .ref p2, rfl, p2, _, 0, _, rfl, rfl, h2, atI_nat (j := 0) rfl, .ref p1, rfl, p1, _, 1, _, rfl, rfl, h1, atI_nat (j := 1) rfl, _, _, rfl, rfl, wide_mul (up_lt z2.1 (Nat.le_add_right b 1)) (up_lt z1.den (Nat.le_add_right a 1)) (by omega) (by omega) (by omega), _, _, rfl, rfl, .ref p1, rfl, p1, _, 1, _, rfl, rfl, h1, atI_nat (j := 1) rfl, .ref p2, rfl, p2, _, 1, _, rfl, rfl, h2, atI_nat (j := 1) rfl, _, _, rfl, rfl, wide_mul (up_lt z1.den (Nat.le_add_right a 1)) (up_lt z2.den (Nat.le_add_right b 1)) (by omega) (by omega) (by omega), _, _, a + b + 1, rfl, dd_pos q1 q2, up_lt (sz_sub_t z1 z2) (Nat.le_refl _), up_lt (sz_dd z1 z2) (by omega), by omega, by omega, fun v H' sm d => q v H' sm ?_⟩
    rw [q_sub] at d
    exact d
abbrev s__law_times : Stmt := topS 20
theorem sc__law_times : FnScope ["_law_one", "_law_other"] ["_law_one", "_law_other"] (defScope s__law_times) := ⟨rfl, rfl, rfl, by decide +kernel, rfl, by decide +kernel, by decide +kernel⟩
theorem ok__law_times {f fC : Addr} {fd fdC : FuncData} {k : Nat} (F : Fun K "_law_times" "_law_times" s__law_times f fd) (kp : PySem.W.keepIn K (.ref fC) = true) (G : FnOk P w K mg base CX0 k fC fdC ["_law_top", "_law_under"] (spFrac K)) (bC : Binds K fdC ["_law_top", "_law_under"] []) (gC : mg "_law_frac" = some (.ref fC)) :
    FnOk P w K mg base CX0 (k + 1) f fd ["_law_one", "_law_other"] (spTwo K (fun q1 q2 => q1 * q2) (fun r => True)) := by
  refine F.ok sc__law_times (fun vs H Q E h => ?_) (fun cdv A outer s H vs Q E hr h => ?_)
  · obtain ⟨x, y, q1, q2, a, b, rfl, _⟩ := h
    rfl
  · obtain ⟨x, y, q1, q2, a, b, rfl, hx, hy, z1, z2, hz, hc, q⟩ := h
    obtain ⟨p1, rfl, h1⟩ := dp_fr hx
    obtain ⟨p2, rfl, h2⟩ := dp_fr hy
    refine ⟨_, pss_one (ps_ret (pe_call G hr (by rfl) gC kp bC .nil pass0 (pa_cons (pe_op op_mulW (pe_ix ix_tup (pv 0) pe_int (fun _ _ => rfl)) (pe_ix ix_tup (pv 1) pe_int (fun _ _ => rfl))) (pa_cons (pe_op op_mulW (pe_ix ix_tup (pv 0) pe_int (fun _ _ => rfl)) (pe_ix ix_tup (pv 1) pe_int (fun _ _ => rfl))) pa_nil)))), ?_⟩
    refine ⟨.ref p1, rfl, p1, _, 0, _, rfl, rfl, h1, atI_nat (j := 0) rfl, .ref p2, rfl, p2, _, 0, _, rfl, rfl, h2, atI_nat (j := 0) rfl, _, _, rfl, rfl, wide_mul (up_lt z1.1 (Nat.le_add_right a 1)) (up_lt z2.1 (Nat.le_add_right b 1)) (by omega) (by omega) (by omega), .ref p1, rfl, p1, _, 1, _, rfl, rfl, h1, atI_nat (j := 1) rfl, .ref p2, rfl, p2, _, 1, _, rfl, rfl, h2, atI_nat (j := 1) rfl, _, _, rfl, rfl, wide_mul (up_lt z1.den (Nat.le_add_right a 1)) (up_lt z2.den (Nat.le_add_right b 1)) (by omega) (by omega) (by omega), _, _, a + b + 1, rfl, dd_pos q1 q2, up_lt (m_lt z1.1 z2.1) (by omega), up_lt (sz_dd z1 z2) (by omega), by omega, by omega, fun v H' sm d => q v H' sm ?_⟩
    rw [q_mul] at d
    exact d
abbrev s__law_over : Stmt := topS 21
theorem sc__law_over : FnScope ["_law_one", "_law_other"] ["_law_one", "_law_other"] (defScope s__law_over) := ⟨rfl, rfl, rfl, by decide +kernel, rfl, by decide +kernel, by decide +kernel⟩
theorem ok__law_over {f fC : Addr} {fd fdC : FuncData} {k : Nat} (F : Fun K "_law_over" "_law_over" s__law_over f fd) (kp : PySem.W.keepIn K (.ref fC) = true) (G : FnOk P w K mg base CX0 k fC fdC ["_law_top", "_law_under"] (spFrac K)) (bC : Binds K fdC ["_law_top", "_law_under"] []) (gC : mg "_law_frac" = some (.ref fC)) :
    FnOk P w K mg base CX0 (k + 1) f fd ["_law_one", "_law_other"] (spTwo K (fun q1 q2 => q1 / q2) (fun r => 0 < r)) := by
  refine F.ok sc__law_over (fun vs H Q E h => ?_) (fun cdv A outer s H vs Q E hr h => ?_)
  · obtain ⟨x, y, q1, q2, a, b, rfl, _⟩ := h
    rfl
  · obtain ⟨x, y, q1, q2, a, b, rfl, hx, hy, z1, z2, hz, hc, q⟩ := h
    obtain ⟨p1, rfl, h1⟩ := dp_fr hx
    obtain ⟨p2, rfl, h2⟩ := dp_fr hy
    refine ⟨_, pss_one (ps_ret (pe_call G hr (by rfl) gC kp bC .nil pass0 (pa_cons (pe_op op_mulW (pe_ix ix_tup (pv 0) pe_int (fun _ _ => rfl)) (pe_ix ix_tup (pv 1) pe_int (fun _ _ => rfl))) (pa_cons (pe_op op_mulW (pe_ix ix_tup (pv 0) pe_int (fun _ _ => rfl)) (pe_ix ix_tup (pv 1) pe_int (fun _ _ => rfl))) pa_nil)))), ?_⟩
    refine ⟨.ref p1, rfl, p1, _, 0, _, rfl, rfl, h1, atI_nat (j := 0) rfl, .ref p2, rfl, p2, _, 1, _, rfl, rfl, h2, atI_nat (j := 1) rfl, _, _, rfl, rfl, wide_mul (up_lt z1.1 (Nat.le_add_right a 1)) (up_lt z2.den (Nat.le_add_right b 1)) (by omega) (by omega) (by omega), .ref p1, rfl, p1, _, 1, _, rfl, rfl, h1, atI_nat (j := 1) rfl, .ref p2, rfl, p2, _, 0, _, rfl, rfl, h2, atI_nat (j := 0) rfl, _, _, rfl, rfl, wide_mul (up_lt z1.den (Nat.le_add_right a 1)) (up_lt z2.1 (Nat.le_add_right b 1)) (by omega) (by omega) (by omega), _, _, a + b + 1, rfl, dn_pos q1 q2 hc, up_lt (m_lt z1.1 z2.den) (by omega), up_lt (m_lt z1.den z2.1) (by omega), by omega, by omega, fun v H' sm d => q v H' sm ?_⟩
    rw [q_div] at d
    exact d
end
/-! ### a drawn pane, a drawn row, a drawn weight -/
abbrev sPane : Stmt := topS 22
abbrev sRow : Stmt := topS 23
theorem scPane : FnScope ["_law_box_here", "_law_under", "_law_any_one"] ["_law_box_here"] (defScope sPane) := ⟨rfl, rfl, rfl, by decide +kernel, rfl, by decide +kernel, by decide +kernel⟩
theorem scRow : FnScope ["_law_box_here", "_law_most", "_law_panes", "_law_turn"] ["_law_box_here", "_law_most"] (defScope sRow) := ⟨rfl, rfl, rfl, by decide +kernel, rfl, by decide +kernel, by decide +kernel⟩
def spPane (K : PySem.W.Frag) : Sp := fun vs H Q _ => ∃ (p : Addr) (n : Nat), vs = [.ref p] ∧ Bx H p n ∧ n < 900000 ∧
  ∀ (v : V) (H' : Hp) (q : Rat), PaneQ q → Chg p H H' → Bx H' p (n + 4) → Dp K H' v (frD q) → Q v H'
def WallI (x : Int) : Prop := x = 0 ∨ x = 1 ∨ x = -1
def spRow (K : PySem.W.Frag) : Sp := fun vs H Q _ => ∃ (p : Addr) (m n : Nat), vs = [.ref p, .int m] ∧ Bx H p n ∧ n < 500000 ∧ m ≤ 100 ∧
  ∀ (v : V) (H' : Hp) (qs : List Rat) (x : Int), (∀ q ∈ qs, PaneQ q) → qs.length ≤ m → WallI x → Chg p H H' → Bx H' p (n + 4 * m + 2) → Dp K H' v (rowD qs x) → Q v H'
section
variable {P : Program} {w : World} {K : PySem.W.Frag} {mg : Str → Option Value} {base : Heap}
theorem mem8 {K : PySem.W.Frag} {H : Hp} {a b c d e f g h v : V} (i1 : IsPane K H a) (i2 : IsPane K H b) (i3 : IsPane K H c) (i4 : IsPane K H d) (i5 : IsPane K H e) (i6 : IsPane K H f) (i7 : IsPane K H g) (i8 : IsPane K H h) (hm : v ∈ [a, b, c, d, e, f, g, h]) : IsPane K H v := by
  simp only [List.mem_cons, List.not_mem_nil, or_false] at hm
  rcases hm with rfl | rfl | rfl | rfl | rfl | rfl | rfl | rfl <;> assumption
theorem ok_pane {f fT fO fC : Addr} {fd fdT fdO fdC : FuncData} {k : Nat} (F : Fun K "_law_pane" "_law_pane" sPane f fd)
    (FT : Fun K "_law_take" "_law_take" sTake fT fdT) (bT : Binds K fdT ["_law_box_here", "_law_size"] []) (gT : mg "_law_take" = some (.ref fT))
    (FO : Fun K "_law_of" "_law_of" sOf fO fdO) (bO : Binds K fdO ["_law_box_here", "_law_some"] []) (gO : mg "_law_of" = some (.ref fO))
    (FC : Fun K "_law_frac" "_law_frac" sFrac fC fdC) (bC : Binds K fdC ["_law_top", "_law_under"] []) (gC : mg "_law_frac" = some (.ref fC))
    (ml : mg "len" = none) (ma : mg "abs" = none) : FnOk P w K mg base CX0 (k + 3) f fd ["_law_box_here"] (spPane K) := by
  have GT : FnOk P w K mg base CX0 (k + 2) fT fdT ["_law_box_here", "_law_size"] spTake := ok_take FT
  have GO : FnOk P w K mg base CX0 (k + 2) fO fdO ["_law_box_here", "_law_some"] (spOf K) := ok_of FO FT bT gT ml
  have GC : FnOk P w K mg base CX0 (k + 2) fC fdC ["_law_top", "_law_under"] (spFrac K) := ok_frac FC ma
  refine F.ok scPane (fun vs H Q E h => ?_) (fun cdv A outer s H vs Q E hr h => ?_)
  · obtain ⟨p, n, rfl, _⟩ := h
    rfl
  · obtain ⟨p, n, rfl, hb, hn, q⟩ := h
    refine ⟨_, pss_cons (ps_set (i := 1) scPane.nd rfl (.inl rfl) (pe_op op_add pe_int (pe_call GT hr (by rfl) gT FT.kp bT .nil pass0 (pa_cons (pv 0) (pa_cons (pe_ix ix_list (pe_lst (pa_cons pe_int (pa_cons pe_int (pa_cons pe_int pa_nil)))) (pe_call GT hr (by rfl) gT FT.kp bT .nil pass0 (pa_cons (pv 0) (pa_cons pe_int pa_nil))) (fun _ _ => rfl)) pa_nil)))))
      (pss_cons (ps_set (i := 2) scPane.nd rfl (.inl rfl) (pe_call GC hr (by rfl) gC FC.kp bC .nil pass0 (pa_cons (pe_op op_add (pe_op op_sub (pe_call GT hr (by rfl) gT FT.kp bT .nil pass0 (pa_cons (pv 0) (pa_cons (pe_op op_sub (pe_op op_mul pe_int (pv 1)) pe_int) pa_nil))) (pv 1)) pe_int) (pa_cons (pv 1) pa_nil))))
      (pss_one (ps_ret (pe_call GO hr (by rfl) gO FO.kp bO .nil pass0 (pa_cons (pv 0) (pa_cons (pe_lst (pa_cons (pv 2) (pa_cons (pv 2) (pa_cons (pv 2) (pa_cons (pe_tup (pa_cons pe_int (pa_cons pe_int pa_nil))) (pa_cons (pe_tup (pa_cons (pe_un un_neg pe_int) (pa_cons pe_int pa_nil))) (pa_cons (pe_tup (pa_cons pe_int (pa_cons pe_int pa_nil))) (pa_cons (pe_tup (pa_cons pe_int (pa_cons pe_int pa_nil))) (pa_cons (pe_tup (pa_cons (pe_op op_sub pe_int (pv 1)) (pa_cons (pv 1) pa_nil))) pa_nil))))))))) pa_nil)))))), ?_⟩
    -- under
    refine ⟨.ref p, rfl, (by decide : 3 ≤ sizeLine), fun l hl => ?_⟩
    have b0 := hb.same (same_upd (o := .lst [.int 3, .int 8, .int 59]) hl)
    have nlp : l ≠ p := by
      obtain ⟨x, e⟩ := hb.at
      exact (ne_of_none e hl).symm
    refine ⟨.ref p, rfl, p, 3, n, rfl, b0, by omega, by decide, by decide, fun r H1 h0 h3 c1 b1 => ?_⟩
    obtain ⟨z, hz, hz1, hz2⟩ := pick3 h0 h3
    refine ⟨l, _, _, _, rfl, rfl, SqL.of (c1 _ _ nlp upd_same), hz, p, z, n + 1, rfl, b1, by omega, hz1, by omega, fun r2 H2 h20 h2z c2 b2 => ?_⟩
    have C2 : Chg p H H2 := (Chg.of_same (same_upd hl)).trans (c1.trans c2)
    refine ⟨_, _, rfl, rfl, ?_⟩
    -- any one
    refine ⟨.ref p, rfl, _, rfl, _, _, rfl, rfl, .inl ⟨by decide, by decide⟩, _, _, rfl, rfl, p, _, n + 2, rfl, b2, by omega, by omega, by omega, fun r3 H3 h30 h3z c3 b3 => ?_⟩
    refine ⟨_, rfl, _, _, rfl, rfl, _, _, rfl, rfl, _, rfl, _, _, 6, rfl, by omega, by omega, by omega, by decide, by decide, fun v H4 s4 d4 => ?_⟩
    have P0 : PaneQ (Rat.divInt (r3 - (2 + r2) + 1) (2 + r2)) := pane_fr (by omega) (by omega) (by omega)
    have i0 : IsPane K H4 v := ⟨_, P0, d4⟩
    have b4 : Bx H4 p (n + 3) := b3.same s4
    have C4 : Chg p H H4 := C2.trans (c3.trans (Chg.of_same s4))
    -- the menu
    refine ⟨.ref p, rfl, v, rfl, v, rfl, v, rfl, (by decide : 2 ≤ sizeLine), fun a1 n1 => ⟨1, rfl, (by decide : 2 ≤ sizeLine), fun a2 n2 => ⟨(by decide : 2 ≤ sizeLine), fun a3 n3 => ⟨(by decide : 2 ≤ sizeLine), fun a4 n4 => ⟨_, rfl, _, _, rfl, rfl, _, rfl, (by decide : 2 ≤ sizeLine), fun a5 n5 => ⟨(by decide : 8 ≤ sizeLine), fun l2 nl2 => ?_⟩⟩⟩⟩⟩⟩
    have S1 := same_upd (o := .tup [.int 1, .int 2]) n1
    have S2 := same_upd (o := .tup [.int (-1), .int 2]) n2
    have S3 := same_upd (o := .tup [.int 1, .int 3]) n3
    have S4 := same_upd (o := .tup [.int 0, .int 1]) n4
    have S5 := same_upd (o := .tup [.int (1 - (2 + r2)), .int (2 + r2)]) n5
    have S6 := same_upd (o := .lst [v, v, v, .ref a1, .ref a2, .ref a3, .ref a4, .ref a5]) nl2
    have i1 := (((((pane_lit (K := K) (by decide) (by decide) (by decide) (by decide) (SqT.of (upd_same (H := H4) (a := a1) (o := .tup [.int 1, .int 2])))).same S2).same S3).same S4).same S5).same S6
    have i2 := ((((pane_lit (K := K) (by decide) (by decide) (by decide) (by decide) (SqT.of (upd_same (a := a2) (o := .tup [.int (-1), .int 2])))).same S3).same S4).same S5).same S6
    have i3 := (((pane_lit (K := K) (by decide) (by decide) (by decide) (by decide) (SqT.of (upd_same (a := a3) (o := .tup [.int 1, .int 3])))).same S4).same S5).same S6
    have i4 := ((pane_lit (K := K) (by decide) (by decide) (by decide) (by decide) (SqT.of (upd_same (a := a4) (o := .tup [.int 0, .int 1])))).same S5).same S6
    have i5 := (pane_lit (K := K) (gcd_one_less (2 + r2)) (by omega) (by omega) (by omega) (SqT.of (upd_same (a := a5) (o := .tup [.int (1 - (2 + r2)), .int (2 + r2)])))).same S6
    have SS := ((((S1.trans S2).trans S3).trans S4).trans S5).trans S6
    have i0' := i0.same SS
    have b5 := b4.same SS
    have nl2p : l2 ≠ p := by
      obtain ⟨x, e⟩ := (b4.same ((((S1.trans S2).trans S3).trans S4).trans S5)).at
      exact (ne_of_none e nl2).symm
    refine ⟨p, l2, _, n + 3, rfl, b5, by omega, upd_same, nl2p, by simp, (by decide : 8 < 1000), fun v2 H5 hm c5 b6 => ?_⟩
    obtain ⟨q2, pq, dq⟩ := mem8 i0' i0' i0' i1 i2 i3 i4 i5 hm
    exact q v2 H5 q2 pq (C4.trans ((Chg.of_same SS).trans c5)) b6 (b5.dp c5 dq (noL_fr q2))
theorem ok_row {f fT fO fP : Addr} {fd fdT fdO fdP : FuncData} {k : Nat} (F : Fun K "_law_row" "_law_row" sRow f fd)
    (kT : PySem.W.keepIn K (.ref fT) = true) (GT : FnOk P w K mg base CX0 (k + 3) fT fdT ["_law_box_here", "_law_size"] spTake) (bT : Binds K fdT ["_law_box_here", "_law_size"] []) (gT : mg "_law_take" = some (.ref fT))
    (kO : PySem.W.keepIn K (.ref fO) = true) (GO : FnOk P w K mg base CX0 (k + 3) fO fdO ["_law_box_here", "_law_some"] (spOf K)) (bO : Binds K fdO ["_law_box_here", "_law_some"] []) (gO : mg "_law_of" = some (.ref fO))
    (kP : PySem.W.keepIn K (.ref fP) = true) (GP : FnOk P w K mg base CX0 (k + 3) fP fdP ["_law_box_here"] (spPane K)) (bP : Binds K fdP ["_law_box_here"] []) (gP : mg "_law_pane" = some (.ref fP))
    (mr : mg "range" = none) (mt : mg "tuple" = none) : FnOk P w K mg base CX0 (k + 4) f fd ["_law_box_here", "_law_most"] (spRow K) := by
  refine F.ok scRow (fun vs H Q E h => ?_) (fun cdv A outer s H vs Q E hr h => ?_)
  · obtain ⟨p, m, n, rfl, _⟩ := h
    rfl
  · obtain ⟨p, m, n, rfl, hb, hn, hm, q⟩ := h
    refine ⟨_, pss_cons (ps_set (i := 2) scRow.nd rfl (.inl rfl) (pe_callTy call_tuple_of (by rfl) mt PyProof.Rows.boot_tuple (pa_cons
        (pe_lc (own := [("_law_turn", 3)]) (g := gName 3) (tt := tYes) rfl scRow.nd (pi_range1 (by rfl) mr (pa_cons (pe_call GT hr (by rfl) gT kT bT .nil pass0 (pa_cons (pv 0) (pa_cons (pe_op op_add (pv 1) pe_int) pa_nil))) pa_nil))
          (blkOk_by (N := ["_law_box_here", "_law_most", "_law_panes", "_law_turn"]) (sc := defScope sRow) (by decide +kernel)) (fun _ _ _ _ _ => pg_name (i := 3) scRow.nd rfl (Or.inl rfl)) (fun _ _ _ _ _ => pts_nil)
          (fun _ _ _ _ _ => pe_call GP hr (by rfl) gP kP bP .nil pass0 (pa_cons (pv 0) pa_nil))) pa_nil)))
      (pss_one (ps_ret (pe_tup (pa_cons (pv 2) (pa_cons (pe_call GO hr (by rfl) gO kO bO .nil pass0 (pa_cons (pv 0) (pa_cons (pe_lst (pa_cons pe_int (pa_cons pe_int (pa_cons pe_int (pa_cons pe_int (pa_cons pe_int (pa_cons (pe_un un_neg pe_int) pa_nil))))))) pa_nil))) pa_nil))))), ?_⟩
    refine ⟨.ref p, rfl, _, rfl, _, _, rfl, rfl, p, _, n, rfl, hb, by omega, by omega, by omega, fun r H1 h0 h1 c1 b1 => ?_⟩
    refine ⟨r, rfl, by omega, by omega, fun D nD => lc_it walk_range (fun i H2 => ∃ (vs : List V) (qs : List Rat), Chg p H H2 ∧ Bx H2 p (n + 1 + 4 * i) ∧ H2 D = some (.lst vs) ∧ DpAll K H2 vs (frs qs) ∧ (∀ q ∈ qs, PaneQ q) ∧ qs.length = i) ?_ (fun _ _ _ _ => trivial) ?_ ?_⟩
    · refine ⟨[], [], c1.trans (Chg.of_same (same_upd nD)), b1.same (same_upd nD), upd_same, .nil, by simp, rfl⟩
    · rintro i x H2 H2' hi ⟨vs, qs, C2, B2, hD, dD, pq, hl⟩ ⟨rfl, rfl⟩
      refine ⟨rfl, .ref p, rfl, p, _, rfl, B2, by omega, fun v H3 q2 pq2 c3 b3 d3 => ?_⟩
      have nDp : D ≠ p := by
        obtain ⟨x, e⟩ := b1.at
        exact (ne_of_none e nD).symm
      have nDH : H D = none := c1.free nDp nD
      have hD3 : H3 D = some (.lst vs) := c3 _ _ nDp hD
      refine ⟨vs, hD3, ?_, vs ++ [v], qs ++ [q2], (C2.trans c3).new_upd nDH, (b3.other nDp.symm).mono (by omega), upd_same, ?_, ?_, ?_⟩
      · rw [dps_len dD]
        unfold frs
        rw [List.length_map]
        exact small1000 (by omega)
      · refine dps_put hD3 (noL_frs _) (dps_snoc (B2.dps c3 dD (noL_frs _)) d3)
      · intro q5 h5
        rcases List.mem_append.mp h5 with h5 | h5
        · exact pq _ h5
        · rw [List.mem_singleton.mp h5]
          exact pq2
      · rw [List.length_append, hl]
        rfl
    · rintro H2 ⟨vs, qs, C2, B2, hD, dD, pq, hl⟩
      refine ⟨D, vs, rfl, .inl ⟨SqL.of hD, fun t nt => ?_⟩⟩
      have St := same_upd (o := .tup vs) nt
      -- (panes, a drawn wall)
      refine ⟨_, rfl, .ref p, rfl, 1, rfl, (by decide : 6 ≤ sizeLine), fun l nl => ?_⟩
      have Sl := same_upd (o := .lst [.int 0, .int 0, .int 0, .int 0, .int 1, .int (-1)]) nl
      have b5 := B2.same (St.trans Sl)
      have nlp : l ≠ p := by
        obtain ⟨x, e⟩ := (B2.same St).at
        exact (ne_of_none e nl).symm
      refine ⟨p, l, _, _, rfl, b5, by omega, upd_same, nlp, by simp, by decide, fun v H5 hv c5 b6 => ?_⟩
      have hw : ∃ x : Int, v = .int x ∧ WallI x := by
        simp only [List.mem_cons, List.not_mem_nil, or_false] at hv
        rcases hv with rfl | rfl | rfl | rfl | rfl | rfl
        · exact ⟨_, rfl, .inl rfl⟩
        · exact ⟨_, rfl, .inl rfl⟩
        · exact ⟨_, rfl, .inl rfl⟩
        · exact ⟨_, rfl, .inl rfl⟩
        · exact ⟨_, rfl, .inr (.inl rfl)⟩
        · exact ⟨_, rfl, .inr (.inr rfl)⟩
      obtain ⟨x, rfl, hx⟩ := hw
      have dT : Dp K _ (.ref t) (.tuple (frs qs)) := .tup (SqT.of (upd_same (H := H2) (a := t) (o := .tup vs))) (dps_same St _ _ dD)
      have dT5 := b5.dp c5 (dp_same Sl _ _ dT) (show noL (.tuple (frs qs)) = true from noL_frs qs)
      refine ⟨(by decide : 2 ≤ sizeLine), fun t2 nt2 => ?_⟩
      have S6 := same_upd (o := .tup [.ref t, .int x]) nt2
      refine q _ _ qs x pq (by omega) hx (C2.trans ((Chg.of_same (St.trans Sl)).trans (c5.trans (Chg.of_same S6)))) ((b6.same S6).mono (by omega)) ?_
      exact .tup (SqT.of upd_same) (.cons (dp_same S6 _ _ dT5) (.cons (.int x) .nil))
end
/-! ### what is alike is told so -/
abbrev sSame : Stmt := topS 16
theorem scSame : FnScope ["_law_found", "_law_due", "_law_one", "_law_two"] ["_law_found", "_law_due"] (defScope sSame) := ⟨rfl, rfl, rfl, by decide +kernel, rfl, by decide +kernel, by decide +kernel⟩
/-- data less than d deep, no list or tuple of more than 1000 -/
def okD : Nat → PyData → Bool
  | 0, _ => false
  | d + 1, .list ds => decide (ds.length ≤ 1000) && ds.all (okD d)
  | d + 1, .tuple ds => decide (ds.length ≤ 1000) && ds.all (okD d)
  | _ + 1, .dict _ => false
  | _ + 1, _ => true
/-- two things that are the same data: True -/
def spSame (K : PySem.W.Frag) (d : Nat) : Sp := fun vs H Q _ => ∃ (x y : V) (D : PyData), vs = [x, y] ∧ Dp K H x D ∧ Dp K H y D ∧ okD d D = true ∧ ∀ H' : Hp, Same H H' → Q (.bl true) H'
theorem ok_list {d : Nat} {ds : List PyData} (h : okD (d + 1) (.list ds) = true) : ds.length ≤ 1000 ∧ ∀ x ∈ ds, okD d x = true := by
  unfold okD at h
  simpa using h
theorem ok_tuple {d : Nat} {ds : List PyData} (h : okD (d + 1) (.tuple ds) = true) : ds.length ≤ 1000 ∧ ∀ x ∈ ds, okD d x = true := by
  unfold okD at h
  simpa using h
theorem all_true (n : Nat) : (List.replicate n true).all id = true := by
  induction n with
  | zero => rfl
  | succ n ih =>
    rw [List.replicate_succ, List.all_cons, ih]
    rfl
theorem rep_snoc (n : Nat) : (List.replicate n true).map V.bl ++ [V.bl true] = (List.replicate (n + 1) true).map V.bl := by
  rw [List.replicate_succ', List.map_append]
  rfl
section
variable {P : Program} {w : World} {K : PySem.W.Frag} {mg : Str → Option Value} {base : Heap}
theorem ok_same {f : Addr} {fd : FuncData} (F : Fun K "_law_same" "_law_same" sSame f fd) (b : Binds K fd ["_law_found", "_law_due"] []) (g : mg "_law_same" = some (.ref f))
    (mI : mg "isinstance" = none) (mdict : mg "dict" = none) (mlist : mg "list" = none) (mtuple : mg "tuple" = none) (ml : mg "len" = none) (mall : mg "all" = none) (mz : mg "zip" = none) (mbool : mg "bool" = none) (mstr : mg "str" = none) (mint : mg "int" = none) :
    ∀ d : Nat, FnOk P w K mg base CX0 d f fd ["_law_found", "_law_due"] (spSame K d)
  | 0 => ⟨fun vs H Q E h => by obtain ⟨x, y, D, rfl, _⟩ := h; rfl, fun A outer s H args us vs Q E _ _ _ _ h => by
      obtain ⟨x, y, D, _, _, _, h0, _⟩ := h
      cases h0⟩
  | d + 1 => by
    have G := ok_same F b g mI mdict mlist mtuple ml mall mz mbool mstr mint d
    refine F.ok scSame (fun vs H Q E h => ?_) (fun cdv A outer s H vs Q E hr h => ?_)
    · obtain ⟨x, y, D, rfl, _⟩ := h
      rfl
    · obtain ⟨x, y, D, rfl, hx, hy, hd, q⟩ := h
      refine ⟨_, pss_cons (ps_if (pt_val (pe_callB call_isi (by rfl) mI PyProof.Rows.boot_isinstance (pa_cons (pv 1) (pa_cons (pe_bltn (v := .ty "dict") (by rfl) mdict PyProof.Rows.boot_dict rfl) pa_nil)))) pss_never pss_nil)
        (pss_cons (ps_if (pt_val (pe_callB call_isiT (by rfl) mI PyProof.Rows.boot_isinstance (pa_cons (pv 1) (pa_cons (pe_tup (pa_cons (pe_bltn (v := .ty "list") (by rfl) mlist PyProof.Rows.boot_list rfl) (pa_cons (pe_bltn (v := .ty "tuple") (by rfl) mtuple PyProof.Rows.boot_tuple rfl) pa_nil))) pa_nil))))
          (pss_cons (ps_if (PW.pt (pw_or (pt_cmpR op_ne (pe_callB call_isi (by rfl) mI PyProof.Rows.boot_isinstance (pa_cons (pv 0) (pa_cons (pe_bltn (v := .ty "list") (by rfl) mlist PyProof.Rows.boot_list rfl) pa_nil))) (pe_callB call_isi (by rfl) mI PyProof.Rows.boot_isinstance (pa_cons (pv 1) (pa_cons (pe_bltn (v := .ty "list") (by rfl) mlist PyProof.Rows.boot_list rfl) pa_nil))) (nomark _))
              (pw_or1 (pt_cmpR op_ne (pe_callB call_isi (by rfl) mI PyProof.Rows.boot_isinstance (pa_cons (pv 0) (pa_cons (pe_bltn (v := .ty "tuple") (by rfl) mtuple PyProof.Rows.boot_tuple rfl) pa_nil))) (pe_callB call_isi (by rfl) mI PyProof.Rows.boot_isinstance (pa_cons (pv 1) (pa_cons (pe_bltn (v := .ty "tuple") (by rfl) mtuple PyProof.Rows.boot_tuple rfl) pa_nil))) (nomark _))))) pss_never pss_nil)
          (pss_one (ps_ret (pe_and (pe_cmpR op_eq (pe_callB call_len_seq (by rfl) ml PySem.boot_len (pa_cons (pv 0) pa_nil)) (pe_callB call_len_seq (by rfl) ml PySem.boot_len (pa_cons (pv 1) pa_nil)) (nomark _))
            (pe_one (pe_callB (cr_all rfl) (by rfl) mall (by decide +kernel) (pa_cons
              (pe_lc (own := [("_law_one", 2), ("_law_two", 3)]) (g := gTup K 2 (gCons (gName 2) (gCons (gName 3) gNil))) (tt := tYes) rfl scSame.nd (RZ.pi_zipA (by rfl) mz (pa_cons (pv 0) (pa_cons (pv 1) pa_nil)))
                (blkOk_by (N := ["_law_found", "_law_due", "_law_one", "_law_two"]) (sc := defScope sSame) (by decide +kernel))
                (fun _ _ _ _ _ => pg_tup rfl (pgs_cons (pg_name (i := 2) scSame.nd rfl (.inl rfl)) (pgs_cons (pg_name (i := 3) scSame.nd rfl (.inl rfl)) pgs_nil))) (fun _ _ _ _ _ => pts_nil)
                (fun _ _ _ _ _ => pe_call G hr (by rfl) g F.kp b .nil pass0 (pa_cons (pv 2) (pa_cons (pv 3) pa_nil)))) pa_nil))))))) pss_nil)
        (pss_cons (ps_if (PW.pt (pw_or (pt_cmpR op_isN (pv 1) pe_non (nomark _)) (pw_or1 (pt_val (pe_callB call_isiT (by rfl) mI PyProof.Rows.boot_isinstance (pa_cons (pv 1) (pa_cons (pe_tup (pa_cons (pe_bltn (v := .ty "bool") (by rfl) mbool PyProof.Rows.boot_bool rfl) (pa_cons (pe_bltn (v := .ty "str") (by rfl) mstr PyProof.Rows.boot_str rfl) pa_nil))) pa_nil)))))))
          (pss_one (ps_ret (pe_and (pe_cmpR op_eq (pv 0) (pv 1) (nomark _)) (pe_and (pe_cmpR op_eq (pe_callB call_isi (by rfl) mI PyProof.Rows.boot_isinstance (pa_cons (pv 0) (pa_cons (pe_bltn (v := .ty "bool") (by rfl) mbool PyProof.Rows.boot_bool rfl) pa_nil))) (pe_callB call_isi (by rfl) mI PyProof.Rows.boot_isinstance (pa_cons (pv 1) (pa_cons (pe_bltn (v := .ty "bool") (by rfl) mbool PyProof.Rows.boot_bool rfl) pa_nil))) (nomark _))
            (pe_one (pe_cmpR op_eq (pe_cmpR op_isN (pv 0) pe_non (nomark _)) (pe_cmpR op_isN (pv 1) pe_non (nomark _)) (nomark _))))))) pss_nil)
        (pss_one (ps_ret (pe_and (pe_callB call_isi (by rfl) mI PyProof.Rows.boot_isinstance (pa_cons (pv 0) (pa_cons (pe_bltn (v := .ty "int") (by rfl) mint PyProof.Rows.boot_int rfl) pa_nil)))
          (pe_and (pe_not (pe_callB call_isi (by rfl) mI PyProof.Rows.boot_isinstance (pa_cons (pv 0) (pa_cons (pe_bltn (v := .ty "bool") (by rfl) mbool PyProof.Rows.boot_bool rfl) pa_nil)))) (pe_one (pe_cmpR op_eq (pv 0) (pv 1) (nomark _))))))))), ?_⟩
      cases D with
      | dict kvs => cases hx
      | none =>
        cases hx
        cases hy
        refine ⟨_, rfl, _, _, _, _, _, rfl, .ty _, .base .non, kit_ty (by decide +kernel), _, rfl, iteF ?_⟩
        refine ⟨_, rfl, (by decide : 2 ≤ sizeLine), fun t nt => ⟨_, t, _, _, _, _, rfl, upd_same, .cons (.ty _) (.cons (.ty _) .nil), .base .non, kitAny_cons (kit_ty (r := false) (by decide +kernel)) (fun _ => kitAny_cons (kit_ty (r := false) (by decide +kernel)) (fun _ => kitAny_nil) (fun z => nomatch z)) (fun z => nomatch z), _, rfl, iteF ?_⟩⟩
        refine ⟨_, rfl, rfl, _, rfl, iteT (iteT ?_)⟩
        refine ⟨_, rfl, _, rfl, rfl, _, rfl, iteT ?_⟩
        refine ⟨_, rfl, _, _, _, _, _, rfl, .ty _, .base .non, kit_ty (r := false) (by decide +kernel), _, rfl, _, _, _, _, _, rfl, .ty _, .base .non, kit_ty (r := false) (by decide +kernel), rfl, _, rfl, iteT ?_⟩
        exact ⟨_, rfl, rfl, _, rfl, rfl, rfl, q _ (same_upd nt)⟩
      | bool v =>
        cases hx
        cases hy
        refine ⟨_, rfl, _, _, _, _, _, rfl, .ty _, .base (.bl v), kit_ty (by decide +kernel), _, rfl, iteF ?_⟩
        refine ⟨_, rfl, (by decide : 2 ≤ sizeLine), fun t nt => ⟨_, t, _, _, _, _, rfl, upd_same, .cons (.ty _) (.cons (.ty _) .nil), .base (.bl v), kitAny_cons (kit_ty (r := false) (by decide +kernel)) (fun _ => kitAny_cons (kit_ty (r := false) (by decide +kernel)) (fun _ => kitAny_nil) (fun z => nomatch z)) (fun z => nomatch z), _, rfl, iteF ?_⟩⟩
        refine ⟨_, rfl, rfl, _, rfl, iteF ?_⟩
        refine ⟨_, rfl, (by decide : 2 ≤ sizeLine), fun t2 nt2 => ⟨_, t2, _, _, _, _, rfl, upd_same, .cons (.ty _) (.cons (.ty _) .nil), .base (.bl v), kitAny_cons (r := true) (kit_ty (r := true) (by decide +kernel)) (fun z => nomatch z) (fun z => rfl), _, rfl, iteT ?_⟩⟩
        refine ⟨_, rfl, _, rfl, rfl, _, congrArg V.bl (decide_eq_true rfl), iteT ?_⟩
        refine ⟨_, rfl, _, _, _, _, _, rfl, .ty _, .base (.bl v), kit_ty (r := true) (by decide +kernel), _, rfl, _, _, _, _, _, rfl, .ty _, .base (.bl v), kit_ty (r := true) (by decide +kernel), rfl, _, rfl, iteT ?_⟩
        exact ⟨_, rfl, rfl, _, rfl, rfl, rfl, q _ ((same_upd nt).trans (same_upd nt2))⟩
      | str v =>
        cases hx
        cases hy
        refine ⟨_, rfl, _, _, _, _, _, rfl, .ty _, .base (.str v), kit_ty (by decide +kernel), _, rfl, iteF ?_⟩
        refine ⟨_, rfl, (by decide : 2 ≤ sizeLine), fun t nt => ⟨_, t, _, _, _, _, rfl, upd_same, .cons (.ty _) (.cons (.ty _) .nil), .base (.str v), kitAny_cons (kit_ty (r := false) (by decide +kernel)) (fun _ => kitAny_cons (kit_ty (r := false) (by decide +kernel)) (fun _ => kitAny_nil) (fun z => nomatch z)) (fun z => nomatch z), _, rfl, iteF ?_⟩⟩
        refine ⟨_, rfl, rfl, _, rfl, iteF ?_⟩
        refine ⟨_, rfl, (by decide : 2 ≤ sizeLine), fun t2 nt2 => ⟨_, t2, _, _, _, _, rfl, upd_same, .cons (.ty _) (.cons (.ty _) .nil), .base (.str v), kitAny_cons (r := true) (kit_ty (r := false) (by decide +kernel)) (fun _ => kitAny_cons (kit_ty (r := true) (by decide +kernel)) (fun z => nomatch z) (fun _ => rfl)) (fun z => nomatch z), _, rfl, iteT ?_⟩⟩
        refine ⟨_, rfl, _, rfl, rfl, _, congrArg V.bl (decide_eq_true rfl), iteT ?_⟩
        refine ⟨_, rfl, _, _, _, _, _, rfl, .ty _, .base (.str v), kit_ty (r := false) (by decide +kernel), _, rfl, _, _, _, _, _, rfl, .ty _, .base (.str v), kit_ty (r := false) (by decide +kernel), rfl, _, rfl, iteT ?_⟩
        exact ⟨_, rfl, rfl, _, rfl, rfl, rfl, q _ ((same_upd nt).trans (same_upd nt2))⟩
      | int v =>
        cases hx
        cases hy
        refine ⟨_, rfl, _, _, _, _, _, rfl, .ty _, .base (.int v), kit_ty (by decide +kernel), _, rfl, iteF ?_⟩
        refine ⟨_, rfl, (by decide : 2 ≤ sizeLine), fun t nt => ⟨_, t, _, _, _, _, rfl, upd_same, .cons (.ty _) (.cons (.ty _) .nil), .base (.int v), kitAny_cons (kit_ty (r := false) (by decide +kernel)) (fun _ => kitAny_cons (kit_ty (r := false) (by decide +kernel)) (fun _ => kitAny_nil) (fun z => nomatch z)) (fun z => nomatch z), _, rfl, iteF ?_⟩⟩
        refine ⟨_, rfl, rfl, _, rfl, iteF ?_⟩
        refine ⟨_, rfl, (by decide : 2 ≤ sizeLine), fun t2 nt2 => ⟨_, t2, _, _, _, _, rfl, upd_same, .cons (.ty _) (.cons (.ty _) .nil), .base (.int v), kitAny_cons (kit_ty (r := false) (by decide +kernel)) (fun _ => kitAny_cons (kit_ty (r := false) (by decide +kernel)) (fun _ => kitAny_nil) (fun z => nomatch z)) (fun z => nomatch z), _, rfl, iteF ?_⟩⟩
        refine ⟨_, rfl, _, _, _, _, _, rfl, .ty _, .base (.int v), kit_ty (by decide +kernel), _, rfl, iteT ?_⟩
        refine ⟨_, rfl, _, _, _, _, _, rfl, .ty _, .base (.int v), kit_ty (r := false) (by decide +kernel), _, rfl, _, rfl, iteT ?_⟩
        refine ⟨_, rfl, _, rfl, rfl, ?_⟩
        rw [decide_eq_true rfl]
        exact q _ ((same_upd nt).trans (same_upd nt2))
      | list ds =>
        obtain ⟨a1, xs, rfl, h1, e1⟩ := dp_lst hx
        obtain ⟨a2, ys, rfl, h2, e2⟩ := dp_lst hy
        obtain ⟨hlen, hmem⟩ := ok_list hd
        refine ⟨_, rfl, _, _, _, _, _, rfl, .ty _, ty_lst h2, kit_ty (by decide +kernel), _, rfl, iteF ?_⟩
        refine ⟨_, rfl, (by decide : 2 ≤ sizeLine), fun t nt => ?_⟩
        have S := same_upd (o := .tup [V.ty "list", V.ty "tuple"]) nt
        have g1 := S.seq h1
        have g2 := S.seq h2
        refine ⟨_, t, _, _, _, _, rfl, upd_same, .cons (.ty _) (.cons (.ty _) .nil), ty_lst g2, kitAny_cons (r := true) (kit_ty (r := true) (by decide +kernel)) (fun z => nomatch z) (fun _ => rfl), _, rfl, iteT ?_⟩
        refine ⟨_, rfl, _, _, _, _, _, rfl, .ty _, ty_lst g1, kit_ty (r := true) (by decide +kernel), _, rfl, _, _, _, _, _, rfl, .ty _, ty_lst g2, kit_ty (r := true) (by decide +kernel), rfl, _, rfl, iteF ?_⟩
        refine ⟨_, rfl, _, _, _, _, _, rfl, .ty _, ty_lst g1, kit_ty (r := false) (by decide +kernel), _, rfl, _, _, _, _, _, rfl, .ty _, ty_lst g2, kit_ty (r := false) (by decide +kernel), rfl, _, rfl, iteF ?_⟩
        have hl : xs.length = ys.length := (dps_len e1).trans (dps_len e2).symm
        have hx9 : xs.length ≤ 1000 := by
          rw [dps_len e1]
          exact hlen
        refine ⟨_, rfl, _, _, rfl, (.inl g1), _, rfl, _, _, rfl, (.inl g2), rfl, _, congrArg V.bl (decide_eq_true (congrArg V.int (congrArg Int.ofNat hl))), iteT ?_⟩
        refine ⟨_, rfl, _, rfl, _, _, xs, ys, rfl, .inl ⟨g1, g2, fun L nL => lc_it (walk_zip (xs := xs) (ys := ys) (n := xs.length) (by omega)) (fun i H2 => Same H H2 ∧ H2 L = some (.lst ((List.replicate i true).map V.bl))) ⟨S.trans (same_upd nL), upd_same⟩ (fun i H2 _ p => ⟨Same.seq p.1 h1, Same.seq p.1 h2⟩) ?_ ?_⟩⟩
        · rintro i v H2 H3 hi ⟨s2, hL⟩ ⟨T, x, y, rfl, nT, rfl, ex, ey⟩
          refine ⟨T, _, rfl, SqT.of upd_same, rfl, x, [y], rfl, y, [], rfl, rfl, rfl, x, rfl, y, rfl, ?_⟩
          obtain ⟨D1, f1, k1⟩ := dps_get e1 ex
          obtain ⟨D2, f2, k2⟩ := dps_get e2 ey
          have eD : D1 = D2 := Option.some.inj (f1.symm.trans f2)
          subst eD
          have S3 := s2.trans (same_upd (o := .tup [x, y]) nT)
          refine ⟨x, y, D1, rfl, dp_same S3 _ _ k1, dp_same S3 _ _ k2, hmem _ (List.mem_of_getElem? f1), fun H4 s4 => ?_⟩
          have hL4 : H4 L = some (.lst ((List.replicate i true).map V.bl)) := s4 _ _ (same_upd nT _ _ hL)
          have nLH : H L = none := S.free nL
          refine ⟨_, hL4, ?_, Same.new_upd (S3.trans s4) nLH, ?_⟩
          · rw [List.length_map, List.length_replicate]
            exact small1000 (by omega)
          · rw [upd_same, rep_snoc]
        · rintro H2 ⟨s2, hL⟩
          refine ⟨L, List.replicate xs.length true, rfl, SqL.of hL, ?_⟩
          rw [all_true]
          exact q _ s2
      | tuple ds =>
        obtain ⟨a1, xs, rfl, h1, e1⟩ := dp_tup hx
        obtain ⟨a2, ys, rfl, h2, e2⟩ := dp_tup hy
        obtain ⟨hlen, hmem⟩ := ok_tuple hd
        refine ⟨_, rfl, _, _, _, _, _, rfl, .ty _, ty_tup h2, kit_ty (by decide +kernel), _, rfl, iteF ?_⟩
        refine ⟨_, rfl, (by decide : 2 ≤ sizeLine), fun t nt => ?_⟩
        have S := same_upd (o := .tup [V.ty "list", V.ty "tuple"]) nt
        have g1 := Same.tup S h1
        have g2 := Same.tup S h2
        refine ⟨_, t, _, _, _, _, rfl, upd_same, .cons (.ty _) (.cons (.ty _) .nil), ty_tup g2, kitAny_cons (r := true) (kit_ty (r := false) (by decide +kernel)) (fun _ => kitAny_cons (kit_ty (r := true) (by decide +kernel)) (fun z => nomatch z) (fun _ => rfl)) (fun z => nomatch z), _, rfl, iteT ?_⟩
        refine ⟨_, rfl, _, _, _, _, _, rfl, .ty _, ty_tup g1, kit_ty (r := false) (by decide +kernel), _, rfl, _, _, _, _, _, rfl, .ty _, ty_tup g2, kit_ty (r := false) (by decide +kernel), rfl, _, rfl, iteF ?_⟩
        refine ⟨_, rfl, _, _, _, _, _, rfl, .ty _, ty_tup g1, kit_ty (r := true) (by decide +kernel), _, rfl, _, _, _, _, _, rfl, .ty _, ty_tup g2, kit_ty (r := true) (by decide +kernel), rfl, _, rfl, iteF ?_⟩
        have hl : xs.length = ys.length := (dps_len e1).trans (dps_len e2).symm
        have hx9 : xs.length ≤ 1000 := by
          rw [dps_len e1]
          exact hlen
        refine ⟨_, rfl, _, _, rfl, (.inr g1), _, rfl, _, _, rfl, (.inr g2), rfl, _, congrArg V.bl (decide_eq_true (congrArg V.int (congrArg Int.ofNat hl))), iteT ?_⟩
        refine ⟨_, rfl, _, rfl, _, _, xs, ys, rfl, .inr ⟨g1, g2, fun L nL => lc_it (walk_zipT (xs := xs) (ys := ys) (n := xs.length) (by omega)) (fun i H2 => Same H H2 ∧ H2 L = some (.lst ((List.replicate i true).map V.bl))) ⟨S.trans (same_upd nL), upd_same⟩ (fun i H2 _ p => ⟨Same.tup p.1 h1, Same.tup p.1 h2⟩) ?_ ?_⟩⟩
        · rintro i v H2 H3 hi ⟨s2, hL⟩ ⟨T, x, y, rfl, nT, rfl, ex, ey⟩
          refine ⟨T, _, rfl, SqT.of upd_same, rfl, x, [y], rfl, y, [], rfl, rfl, rfl, x, rfl, y, rfl, ?_⟩
          obtain ⟨D1, f1, k1⟩ := dps_get e1 ex
          obtain ⟨D2, f2, k2⟩ := dps_get e2 ey
          have eD : D1 = D2 := Option.some.inj (f1.symm.trans f2)
          subst eD
          have S3 := s2.trans (same_upd (o := .tup [x, y]) nT)
          refine ⟨x, y, D1, rfl, dp_same S3 _ _ k1, dp_same S3 _ _ k2, hmem _ (List.mem_of_getElem? f1), fun H4 s4 => ?_⟩
          have hL4 : H4 L = some (.lst ((List.replicate i true).map V.bl)) := s4 _ _ (same_upd nT _ _ hL)
          have nLH : H L = none := S.free nL
          refine ⟨_, hL4, ?_, Same.new_upd (S3.trans s4) nLH, ?_⟩
          · rw [List.length_map, List.length_replicate]
            exact small1000 (by omega)
          · rw [upd_same, rep_snoc]
        · rintro H2 ⟨s2, hL⟩
          refine ⟨L, List.replicate xs.length true, rfl, SqL.of hL, ?_⟩
          rw [all_true]
          exact q _ s2
end
/-! ### the program's rooms -/
abbrev sRoomsOf : Stmt := topS 9
abbrev sRowOf : Stmt := topS 10
theorem scRoomsOf : FnScope ["row", "first", "weights", "pane", "share"] ["row", "first"] (defScope sRoomsOf) := ⟨rfl, rfl, rfl, by decide +kernel, rfl, by decide +kernel, by decide +kernel⟩
theorem scRowOf : FnScope ["rooms", "wall", "panes", "one", "other"] ["rooms", "wall"] (defScope sRowOf) := ⟨rfl, rfl, rfl, by decide +kernel, rfl, by decide +kernel, by decide +kernel⟩
/-- the rooms' weights are told, as a new list -/
def spRoomsOf (K : PySem.W.Frag) : Sp := fun vs H Q _ => ∃ (r v : V) (qs : List Rat) (x : Int) (q0 : Rat) (b c : Nat), vs = [r, v] ∧ Dp K H r (rowD qs x) ∧ Dp K H v (frD q0) ∧ 0 < q0 ∧ Sz b q0 ∧ (∀ q ∈ qs, PaneZ c q) ∧ qs.length ≤ 100 ∧ b + (2 * c + 4) * (qs.length + 1) < 9000 ∧
  ∀ (L : Addr) (us : List V) (H' : Hp), Same H H' → H L = none → H' L = some (.lst us) → DpAll K H' us (frs (roomsQ q0 qs)) → Q (.ref L) H'
def spRowOf (K : PySem.W.Frag) : Sp := fun vs H Q _ => ∃ (r : V) (ws : List Rat) (x : Int) (b : Nat), vs = [r, .int x] ∧ (Dp K H r (.list (frs ws)) ∨ Dp K H r (.tuple (frs ws))) ∧ (∀ q ∈ ws, 0 < q ∧ Sz b q) ∧ ws.length ≤ 100 ∧ 4 * b + 2 < 9000 ∧
  ∀ (v : V) (H' : Hp), Same H H' → Dp K H' v (rowD (panesQ ws) x) → Q v H'
theorem frs_len (qs : List Rat) : (frs qs).length = qs.length := List.length_map ..
theorem frs_get {qs : List Rat} {i : Nat} {d : PyData} (h : (frs qs)[i]? = some d) : ∃ q, qs[i]? = some q ∧ d = frD q := by
  unfold frs at h
  rw [List.getElem?_map] at h
  cases e : qs[i]? with
  | none =>
    rw [e] at h
    cases h
  | some q =>
    rw [e] at h
    exact ⟨q, rfl, (Option.some.inj h).symm⟩
section
variable {P : Program} {w : World} {K : PySem.W.Frag} {mg : Str → Option Value} {base : Heap}
theorem ok_roomsOf {f fO fM fP fT aO : Addr} {fd fdO fdM fdP fdT : FuncData} {kws : List (Str × V)} {k : Nat} (F : FunD K "rooms_of" "rooms_of" (defArgs sRoomsOf) (defBody sRoomsOf) (defScope sRoomsOf) [] kws f fd)
    (kO : PySem.W.keepIn K (.ref fO) = true) (GO : FnOk P w K mg base CX0 k fO fdO ["one", "other"] (spTwo K (fun q1 q2 => q1 / q2) (fun r => 0 < r))) (bO : Binds K fdO ["one", "other"] []) (gO : mg "over" = some (.ref fO))
    (kM : PySem.W.keepIn K (.ref fM) = true) (GM : FnOk P w K mg base CX0 k fM fdM ["one", "other"] (spTwo K (fun q1 q2 => q1 - q2) (fun r => True))) (bM : Binds K fdM ["one", "other"] []) (gM : mg "minus" = some (.ref fM))
    (kP : PySem.W.keepIn K (.ref fP) = true) (GP : FnOk P w K mg base CX0 k fP fdP ["one", "other"] (spTwo K (fun q1 q2 => q1 + q2) (fun r => True))) (bP : Binds K fdP ["one", "other"] []) (gP : mg "plus" = some (.ref fP))
    (kT : PySem.W.keepIn K (.ref fT) = true) (GT : FnOk P w K mg base CX0 k fT fdT ["one", "other"] (spTwo K (fun q1 q2 => q1 * q2) (fun r => True))) (bT : Binds K fdT ["one", "other"] []) (gT : mg "times" = some (.ref fT))
    (g1 : mg "ONE" = some (.ref aO)) (t1 : ∀ H : Hp, Dp K H (.ref aO) (frD 1)) : FnOk P w K mg base CX0 (k + 1) f fd ["row", "first"] (spRoomsOf K) := by
  refine F.ok scRoomsOf (fun vs H Q E h => ?_) (fun cdv A outer s H vs Q E hr h => ?_)
  · obtain ⟨r, v, qs, x, q0, b, c, rfl, _⟩ := h
    rfl
  · obtain ⟨r, v, qs, x, q0, b, c, rfl, hR, hV, hq0, hz0, hp, hlen, hbits, q⟩ := h
    obtain ⟨a, a2, xs, rfl, ha, ha2, hxs⟩ := dp_row hR
    refine ⟨_, PSs.nox (pss_cons (ps_set (i := 2) scRoomsOf.nd rfl (.inl rfl) (pe_lst (pa_cons (pv 1) pa_nil)))
      (pss_cons (ps_for PassesOwn.never rfl (pi_tup (pe_ix ix_tup (pv 0) pe_int (fun _ _ => rfl))) (pg_name (i := 3) scRoomsOf.nd rfl (.inl rfl))
        (pss_cons (ps_set (i := 4) scRoomsOf.nd rfl (.inl rfl) (pe_call GO hr (by rfl) gO kO bO .nil pass0 (pa_cons (pe_call GM hr (by rfl) gM kM bM .nil pass0 (pa_cons (pe_glob (v := .ref aO) (by rfl) g1 rfl) (pa_cons (pv 3) pa_nil))) (pa_cons (pe_call GP hr (by rfl) gP kP bP .nil pass0 (pa_cons (pe_glob (v := .ref aO) (by rfl) g1 rfl) (pa_cons (pv 3) pa_nil))) pa_nil))))
        (pss_one (ps_expr (pe_bm PySem.F.plainAttrs_list PySem.F.slot_list_append PySem.F.type_list_append mt_append (pv 2) (pa_cons (pe_call GT hr (by rfl) gT kT bT .nil pass0 (pa_cons (pe_ix ix_list (pv 2) (pe_un un_neg pe_int) (fun _ _ => rfl)) (pa_cons (pv 4) pa_nil))) pa_nil))))))
      (pss_one (ps_ret (pv 2))))), ?_⟩
    refine ⟨v, rfl, (by decide : 1 ≤ sizeLine), fun L nL => ?_⟩
    have S0 := same_upd (o := .lst [v]) nL
    refine ⟨.ref a, rfl, a, _, 0, .ref a2, rfl, rfl, Same.tup S0 ha, atI_nat (j := 0) rfl, a2, rfl, ⟨_, Same.tup S0 ha2⟩, ?_⟩
    refine for_it (walk_tup (xs := xs)) (fun i σ H2 => ∃ (us : List V) (u : V) (e1 e2 : Option V) (ls : List Rat), σ = [some (.ref a), some v, some (.ref L), e1, e2] ∧ Same H H2 ∧ H2 L = some (.lst (us ++ [u])) ∧ DpAll K H2 us (frs ls) ∧ Dp K H2 u (frD (lastQ q0 (qs.take i))) ∧ ls ++ [lastQ q0 (qs.take i)] = roomsQ q0 (qs.take i))
      ⟨[], v, none, none, [], rfl, S0, upd_same, .nil, dp_same S0 _ _ hV, rfl⟩ (fun i σ H2 _ hW => ?_) ?_ ?_
    · obtain ⟨us, u, e1, e2, ls, rfl, s2, _⟩ := hW
      exact Same.tup s2 ha2
    · rintro i y σ H2 H2' hi ⟨us, u, e1, e2, ls, rfl, s2, hL, dU, du, hls⟩ ⟨rfl, hy⟩
      obtain ⟨d, hd, dy⟩ := dps_get hxs hy
      obtain ⟨r, hr1, rfl⟩ := frs_get hd
      have hiq : i < qs.length := by
        rw [dps_len hxs, frs_len] at hi
        exact hi
      have pr := hp r (List.mem_of_getElem? hr1)
      have tk : qs.take (i + 1) = qs.take i ++ [r] := by rw [List.take_add_one, hr1]; rfl
      have lk := lastQ_ok (c := c) (qs.take i) q0 b hq0 hz0 (fun z hz => hp z (List.mem_of_mem_take hz))
      have ltk : (qs.take i).length = i := by rw [List.length_take]; omega
      rw [ltk] at lk
      have hmul : (2 * c + 4) * (i + 1) ≤ (2 * c + 4) * (qs.length + 1) := Nat.mul_le_mul_left _ (by omega)
      have hmul2 : (2 * c + 4) * (i + 1) = (2 * c + 4) * i + (2 * c + 4) := by rw [Nat.mul_add, Nat.mul_one]
      refine ⟨_, rfl, ⟨.ref aO, y, 1, r, 1, c, rfl, t1 _, dp_same s2 _ _ dy, sz_one, pr.sz, by omega, trivial, fun m H3 s3 dm => ?_⟩⟩
      refine ⟨_, rfl, ⟨.ref aO, y, 1, r, 1, c, rfl, t1 _, dp_same (s2.trans s3) _ _ dy, sz_one, pr.sz, by omega, trivial, fun n H4 s4 dn => ?_⟩⟩
      refine ⟨m, n, _, _, c + 2, c + 2, rfl, dp_same s4 _ _ dm, dn, pr.sm, pr.sp, by omega, pr.p1, fun z H5 s5 dz => ?_⟩
      have S5 := s2.trans (s3.trans (s4.trans s5))
      have hL5 : H5 L = some (.lst (us ++ [u])) := (s3.trans (s4.trans s5)) _ _ hL
      refine ⟨.ref L, rfl, .inl ⟨rfl, _, SqL.of hL5⟩, .ref L, rfl, 1, rfl, L, _, -1, u, rfl, rfl, SqL.of hL5, atI_last _ _, z, rfl, ⟨u, z, _, shareQ r, b + (2 * c + 4) * i, 2 * c + 4, rfl, dp_same (s3.trans (s4.trans s5)) _ _ du, dz, lk.2, pr.share.2, by omega, trivial, fun t H6 s6 dt => ?_⟩⟩
      have hL6 : H6 L = some (.lst (us ++ [u])) := s6 _ _ hL5
      refine ⟨L, _, t, rfl, rfl, hL6, ?_, us ++ [u], t, some y, some z, ls ++ [lastQ q0 (qs.take i)], rfl, ?_, upd_same, ?_, ?_, ?_⟩
      · rw [List.length_append, dps_len dU, frs_len]
        have := congrArg List.length hls
        rw [List.length_append, roomsQ_len, ltk] at this
        exact small1000 (by simp at this ⊢; omega)
      · exact Same.new_upd (S5.trans s6) nL
      · exact dps_put hL6 (noL_frs _) (dps_snoc (dps_same (s3.trans (s4.trans (s5.trans s6))) _ _ dU) (dp_same (s3.trans (s4.trans (s5.trans s6))) _ _ du))
      · rw [tk, lastQ_snoc]
        exact dp_put hL6 (noL_fr _) dt
      · rw [tk, lastQ_snoc, roomsQ_snoc, hls]
    · rintro σ H2 ⟨us, u, e1, e2, ls, rfl, s2, hL, dU, du, hls⟩
      have e : xs.length = qs.length := by rw [dps_len hxs, frs_len]
      rw [e, List.take_length] at du hls
      refine ⟨_, rfl, q L (us ++ [u]) H2 s2 nL hL ?_⟩
      rw [← hls]
      exact dps_snoc dU du
theorem cut_one (xs : List V) : cutV xs (some 1) none = xs.drop 1 := by
  unfold cutV
  rw [show HT.sIx xs.length 0 (some 1) = min 1 xs.length from HT.sIx_nat xs.length 0 1, HT.sIx_none]
  cases xs with
  | nil => rfl
  | cons x r =>
    rw [show min 1 (x :: r).length = 1 by
      rw [List.length_cons]
      omega]
    show (List.take ((x :: r).length - 1) r) = r
    rw [List.length_cons, Nat.add_sub_cancel]
    exact List.take_length
end
section
variable {P : Program} {w : World} {K : PySem.W.Frag} {mg : Str → Option Value} {base : Heap}
theorem frs_at {qs : List Rat} {i : Nat} {q : Rat} (h : qs[i]? = some q) : (frs qs)[i]? = some (frD q) := by
  unfold frs
  rw [List.getElem?_map, h]
  rfl
theorem panes_take {ws : List Rat} {i : Nat} {x y : Rat} (h1 : ws[i]? = some x) (h2 : ws[i + 1]? = some y) : (panesQ ws).take (i + 1) = (panesQ ws).take i ++ [(x - y) / (x + y)] := by
  rw [List.take_add_one, panesQ_get ws i x y h1 h2]
  rfl
theorem ok_rowOf {f fO fM fP : Addr} {fd fdO fdM fdP : FuncData} {kws : List (Str × V)} {k : Nat} (F : FunD K "row_of" "row_of" (defArgs sRowOf) (defBody sRowOf) (defScope sRowOf) [] kws f fd)
    (kO : PySem.W.keepIn K (.ref fO) = true) (GO : FnOk P w K mg base CX0 k fO fdO ["one", "other"] (spTwo K (fun q1 q2 => q1 / q2) (fun r => 0 < r))) (bO : Binds K fdO ["one", "other"] []) (gO : mg "over" = some (.ref fO))
    (kM : PySem.W.keepIn K (.ref fM) = true) (GM : FnOk P w K mg base CX0 k fM fdM ["one", "other"] (spTwo K (fun q1 q2 => q1 - q2) (fun r => True))) (bM : Binds K fdM ["one", "other"] []) (gM : mg "minus" = some (.ref fM))
    (kP : PySem.W.keepIn K (.ref fP) = true) (GP : FnOk P w K mg base CX0 k fP fdP ["one", "other"] (spTwo K (fun q1 q2 => q1 + q2) (fun r => True))) (bP : Binds K fdP ["one", "other"] []) (gP : mg "plus" = some (.ref fP))
    (mz : mg "zip" = none) (mt : mg "tuple" = none) : FnOk P w K mg base CX0 (k + 1) f fd ["rooms", "wall"] (spRowOf K) := by
  refine F.ok scRowOf (fun vs H Q E h => ?_) (fun cdv A outer s H vs Q E hr h => ?_)
  · obtain ⟨r, ws, x, b, rfl, _⟩ := h
    rfl
  · obtain ⟨r, ws, x, b, rfl, hR, hp, hlen, hbits, q⟩ := h
    -- one turn of the comprehension, whatever is walked
    have turn : ∀ (B : Hp) (i : Nat) (L : Addr) (H2 : Hp) (vs : List V) (u1 u2 : V) (T : Addr) (q1 q2 : Rat) (Qd : V → Hp → Prop), i < 100 → B L = none → Same B H2 → H2 L = some (.lst vs) → DpAll K H2 vs (frs ((panesQ ws).take i)) → vs.length = i → H2 T = none → ws[i]? = some q1 → ws[i + 1]? = some q2 → Dp K B u1 (frD q1) → Dp K B u2 (frD q2) →
        (∀ (v : V) (H3 : Hp), H3 L = some (.lst vs) → DpAll K (upd H3 L (.lst (vs ++ [v]))) (vs ++ [v]) (frs ((panesQ ws).take (i + 1))) → Same B (upd H3 L (.lst (vs ++ [v]))) → Qd v H3) →
        tCall (spTwo K (fun q1 q2 => q1 / q2) (fun r => 0 < r)) [] E0 (tCons (tCall (spTwo K (fun q1 q2 => q1 - q2) (fun r => True)) [] E0 (tCons (tVar 3) (tCons (tVar 4) tNil))) (tCons (tCall (spTwo K (fun q1 q2 => q1 + q2) (fun r => True)) [] E0 (tCons (tVar 3) (tCons (tVar 4) tNil))) tNil))
          [some r, some (.int x), none, some u1, some u2] (upd H2 T (.tup [u1, u2])) Qd := by
      intro B i L H2 vs u1 u2 T q1 q2 Qd hi nL s2 hL dD hl nT e1 e2 d1 d2 done
      have S3 := s2.trans (same_upd (o := .tup [u1, u2]) nT)
      have p1 := hp q1 (List.mem_of_getElem? e1)
      have p2 := hp q2 (List.mem_of_getElem? e2)
      have pos : 0 < q1 + q2 := by
        have a1 := p1.1
        have a2 := p2.1
        grind
      refine ⟨u1, rfl, u2, rfl, ⟨u1, u2, q1, q2, b, b, rfl, dp_same S3 _ _ d1, dp_same S3 _ _ d2, p1.2, p2.2, by omega, trivial, fun m H4 s4 dm => ?_⟩⟩
      refine ⟨u1, rfl, u2, rfl, ⟨u1, u2, q1, q2, b, b, rfl, dp_same (S3.trans s4) _ _ d1, dp_same (S3.trans s4) _ _ d2, p1.2, p2.2, by omega, trivial, fun n H5 s5 dn => ?_⟩⟩
      refine ⟨m, n, _, _, b + b + 1, b + b + 1, rfl, dp_same s5 _ _ dm, dn, sz_sub p1.2 p2.2, sz_add p1.2 p2.2, by omega, pos, fun v H6 s6 dv => ?_⟩
      have S6 := S3.trans (s4.trans (s5.trans s6))
      have t6 := (same_upd (o := .tup [u1, u2]) nT).trans (s4.trans (s5.trans s6))
      have hL6 : H6 L = some (.lst vs) := t6 _ _ hL
      refine done v H6 hL6 ?_ (Same.new_upd S6 nL)
      rw [panes_take e1 e2]
      exact dps_put hL6 (noL_frs _) (dps_snoc (dps_same t6 _ _ dD) dv)
    rcases hR with hR | hR
    · obtain ⟨a, us, rfl, ha, hu⟩ := dp_lst hR
      have hul : us.length = ws.length := by rw [dps_len hu, frs_len]
      refine ⟨_, PSs.nox (pss_cons (ps_setLc (i := 2) (own := [("one", 3), ("other", 4)]) (g := gTup K 2 (gCons (gName 3) (gCons (gName 4) gNil))) (tt := tYes) rfl scRowOf.nd rfl rfl (sw_true rfl rfl rfl (by decide +kernel))
          (RZ.pi_zipA (by rfl) mz (pa_cons (pv 0) (pa_cons (pe_slice sl_list (pv 0) (po_some pe_int) po_none) pa_nil)))
          (blkOk_by (N := ["rooms", "wall", "panes", "one", "other"]) (sc := defScope sRowOf) (by decide +kernel))
          (fun _ _ _ _ _ => pg_tup rfl (pgs_cons (pg_name (i := 3) scRowOf.nd rfl (.inl rfl)) (pgs_cons (pg_name (i := 4) scRowOf.nd rfl (.inl rfl)) pgs_nil))) (fun _ _ _ _ _ => pts_nil)
          (fun _ _ _ _ _ => pe_call GO hr (by rfl) gO kO bO .nil pass0 (pa_cons (pe_call GM hr (by rfl) gM kM bM .nil pass0 (pa_cons (pv 3) (pa_cons (pv 4) pa_nil))) (pa_cons (pe_call GP hr (by rfl) gP kP bP .nil pass0 (pa_cons (pv 3) (pa_cons (pv 4) pa_nil))) pa_nil))))
        (pss_one (ps_ret (pe_tup (pa_cons (pe_callTy call_tuple_of (by rfl) mt PyProof.Rows.boot_tuple (pa_cons (pv 2) pa_nil)) (pa_cons (pv 1) pa_nil)))))), ?_⟩
      refine ⟨.ref a, rfl, .ref a, rfl, 1, rfl, a, us, rfl, ha, fun c nc => ?_⟩
      rw [cut_one]
      have S1 := same_upd (o := .lst (us.drop 1)) nc
      refine ⟨a, c, us, us.drop 1, rfl, .inl ⟨Same.seq S1 ha, (SqL.of upd_same), fun L nL => lc_it (walk_zip (xs := us) (ys := us.drop 1) (n := ws.length - 1) (by rw [List.length_drop]; omega)) (fun i H2 => ∃ vs : List V, Same _ H2 ∧ H2 L = some (.lst vs) ∧ DpAll K H2 vs (frs ((panesQ ws).take i)) ∧ vs.length = i) ⟨[], same_upd nL, upd_same, .nil, rfl⟩ ?_ ?_ ?_⟩⟩
      · rintro i H2 _ ⟨vs, s2, _⟩
        exact ⟨Same.seq s2 (Same.seq S1 ha), Same.seq s2 (SqL.of upd_same)⟩
      · rintro i y H2 H2' hi ⟨vs, s2, hL, dD, hl⟩ ⟨T, u1, u2, rfl, nT, rfl, e1, e2⟩
        replace e2 : (us.drop 1)[i]? = some u2 := e2
        rw [List.getElem?_drop, Nat.add_comm 1 i] at e2
        obtain ⟨D1, f1, k1⟩ := dps_get hu e1
        obtain ⟨q1, g1, rfl⟩ := frs_get f1
        obtain ⟨D2, f2, k2⟩ := dps_get hu e2
        obtain ⟨q2, g2, rfl⟩ := frs_get f2
        refine ⟨T, _, rfl, SqT.of upd_same, rfl, u1, [u2], rfl, u2, [], rfl, rfl, rfl, ?_⟩
        refine turn _ i L H2 vs u1 u2 T q1 q2 _ (by omega) nL s2 hL dD hl nT g1 g2 (dp_same S1 _ _ k1) (dp_same S1 _ _ k2) (fun v H3 hL3 dv sv => ?_)
        exact ⟨vs, hL3, small1000 (by omega), vs ++ [v], sv, upd_same, dv, by rw [List.length_append, hl]; rfl⟩
      · rintro H2 ⟨vs, s2, hL, dD, hl⟩
        rw [show (panesQ ws).take (ws.length - 1) = panesQ ws from List.take_of_length_le (by rw [panesQ_len]; exact Nat.le_refl _)] at dD
        refine ⟨_, rfl, L, vs, rfl, .inl ⟨SqL.of hL, fun t nt => ⟨_, rfl, (by decide : 2 ≤ sizeLine), fun t2 nt2 => ?_⟩⟩⟩
        have St := same_upd (o := .tup vs) nt
        have St2 := same_upd (o := .tup [.ref t, .int x]) nt2
        refine q _ _ (Same.trans S1 (s2.trans (St.trans St2))) (dp_row_mk (SqT.of upd_same) (Same.tup St2 (SqT.of upd_same)) (dps_same (St.trans St2) _ _ dD))
    · obtain ⟨a, us, rfl, ha, hu⟩ := dp_tup hR
      have hul : us.length = ws.length := by rw [dps_len hu, frs_len]
      refine ⟨_, PSs.nox (pss_cons (ps_setLc (i := 2) (own := [("one", 3), ("other", 4)]) (g := gTup K 2 (gCons (gName 3) (gCons (gName 4) gNil))) (tt := tYes) rfl scRowOf.nd rfl rfl (sw_true rfl rfl rfl (by decide +kernel))
          (RZ.pi_zipA (by rfl) mz (pa_cons (pv 0) (pa_cons (pe_slice sl_tupA (pv 0) (po_some pe_int) po_none) pa_nil)))
          (blkOk_by (N := ["rooms", "wall", "panes", "one", "other"]) (sc := defScope sRowOf) (by decide +kernel))
          (fun _ _ _ _ _ => pg_tup rfl (pgs_cons (pg_name (i := 3) scRowOf.nd rfl (.inl rfl)) (pgs_cons (pg_name (i := 4) scRowOf.nd rfl (.inl rfl)) pgs_nil))) (fun _ _ _ _ _ => pts_nil)
          (fun _ _ _ _ _ => pe_call GO hr (by rfl) gO kO bO .nil pass0 (pa_cons (pe_call GM hr (by rfl) gM kM bM .nil pass0 (pa_cons (pv 3) (pa_cons (pv 4) pa_nil))) (pa_cons (pe_call GP hr (by rfl) gP kP bP .nil pass0 (pa_cons (pv 3) (pa_cons (pv 4) pa_nil))) pa_nil))))
        (pss_one (ps_ret (pe_tup (pa_cons (pe_callTy call_tuple_of (by rfl) mt PyProof.Rows.boot_tuple (pa_cons (pv 2) pa_nil)) (pa_cons (pv 1) pa_nil)))))), ?_⟩
      refine ⟨.ref a, rfl, .ref a, rfl, 1, rfl, a, us, rfl, ha, fun hw => ?_, fun hw c nc => ?_⟩
      · have h0 : us = [] := by
          have e := hw.1
          rw [show HT.sIx us.length 0 (some 1) = min 1 us.length from HT.sIx_nat us.length 0 1] at e
          exact List.eq_nil_of_length_eq_zero (by omega)
        have hd : SqT K H a (us.drop 1) := by
          rw [h0]
          rw [h0] at ha
          exact ha
        have S1 := Same.refl H
        refine ⟨a, a, us, us.drop 1, rfl, .inr ⟨Same.tup S1 ha, hd, fun L nL => lc_it (walk_zipT (xs := us) (ys := us.drop 1) (n := ws.length - 1) (by rw [List.length_drop]; omega)) (fun i H2 => ∃ vs : List V, Same _ H2 ∧ H2 L = some (.lst vs) ∧ DpAll K H2 vs (frs ((panesQ ws).take i)) ∧ vs.length = i) ⟨[], same_upd nL, upd_same, .nil, rfl⟩ ?_ ?_ ?_⟩⟩
        · rintro i H2 _ ⟨vs, s2, _⟩
          exact ⟨Same.tup s2 (Same.tup S1 ha), Same.tup s2 hd⟩
        · rintro i y H2 H2' hi ⟨vs, s2, hL, dD, hl⟩ ⟨T, u1, u2, rfl, nT, rfl, e1, e2⟩
          replace e2 : (us.drop 1)[i]? = some u2 := e2
          rw [List.getElem?_drop, Nat.add_comm 1 i] at e2
          obtain ⟨D1, f1, k1⟩ := dps_get hu e1
          obtain ⟨q1, g1, rfl⟩ := frs_get f1
          obtain ⟨D2, f2, k2⟩ := dps_get hu e2
          obtain ⟨q2, g2, rfl⟩ := frs_get f2
          refine ⟨T, _, rfl, SqT.of upd_same, rfl, u1, [u2], rfl, u2, [], rfl, rfl, rfl, ?_⟩
          refine turn _ i L H2 vs u1 u2 T q1 q2 _ (by omega) nL s2 hL dD hl nT g1 g2 (dp_same S1 _ _ k1) (dp_same S1 _ _ k2) (fun v H3 hL3 dv sv => ?_)
          exact ⟨vs, hL3, small1000 (by omega), vs ++ [v], sv, upd_same, dv, by rw [List.length_append, hl]; rfl⟩
        · rintro H2 ⟨vs, s2, hL, dD, hl⟩
          rw [show (panesQ ws).take (ws.length - 1) = panesQ ws from List.take_of_length_le (by rw [panesQ_len]; exact Nat.le_refl _)] at dD
          refine ⟨_, rfl, L, vs, rfl, .inl ⟨SqL.of hL, fun t nt => ⟨_, rfl, (by decide : 2 ≤ sizeLine), fun t2 nt2 => ?_⟩⟩⟩
          have St := same_upd (o := .tup vs) nt
          have St2 := same_upd (o := .tup [.ref t, .int x]) nt2
          refine q _ _ (Same.trans S1 (s2.trans (St.trans St2))) (dp_row_mk (SqT.of upd_same) (Same.tup St2 (SqT.of upd_same)) (dps_same (St.trans St2) _ _ dD))
      · rw [cut_one]
        have S1 := same_upd (o := .tup (us.drop 1)) nc
        refine ⟨a, c, us, us.drop 1, rfl, .inr ⟨Same.tup S1 ha, (SqT.of upd_same), fun L nL => lc_it (walk_zipT (xs := us) (ys := us.drop 1) (n := ws.length - 1) (by rw [List.length_drop]; omega)) (fun i H2 => ∃ vs : List V, Same _ H2 ∧ H2 L = some (.lst vs) ∧ DpAll K H2 vs (frs ((panesQ ws).take i)) ∧ vs.length = i) ⟨[], same_upd nL, upd_same, .nil, rfl⟩ ?_ ?_ ?_⟩⟩
        · rintro i H2 _ ⟨vs, s2, _⟩
          exact ⟨Same.tup s2 (Same.tup S1 ha), Same.tup s2 (SqT.of upd_same)⟩
        · rintro i y H2 H2' hi ⟨vs, s2, hL, dD, hl⟩ ⟨T, u1, u2, rfl, nT, rfl, e1, e2⟩
          replace e2 : (us.drop 1)[i]? = some u2 := e2
          rw [List.getElem?_drop, Nat.add_comm 1 i] at e2
          obtain ⟨D1, f1, k1⟩ := dps_get hu e1
          obtain ⟨q1, g1, rfl⟩ := frs_get f1
          obtain ⟨D2, f2, k2⟩ := dps_get hu e2
          obtain ⟨q2, g2, rfl⟩ := frs_get f2
          refine ⟨T, _, rfl, SqT.of upd_same, rfl, u1, [u2], rfl, u2, [], rfl, rfl, rfl, ?_⟩
          refine turn _ i L H2 vs u1 u2 T q1 q2 _ (by omega) nL s2 hL dD hl nT g1 g2 (dp_same S1 _ _ k1) (dp_same S1 _ _ k2) (fun v H3 hL3 dv sv => ?_)
          exact ⟨vs, hL3, small1000 (by omega), vs ++ [v], sv, upd_same, dv, by rw [List.length_append, hl]; rfl⟩
        · rintro H2 ⟨vs, s2, hL, dD, hl⟩
          rw [show (panesQ ws).take (ws.length - 1) = panesQ ws from List.take_of_length_le (by rw [panesQ_len]; exact Nat.le_refl _)] at dD
          refine ⟨_, rfl, L, vs, rfl, .inl ⟨SqL.of hL, fun t nt => ⟨_, rfl, (by decide : 2 ≤ sizeLine), fun t2 nt2 => ?_⟩⟩⟩
          have St := same_upd (o := .tup vs) nt
          have St2 := same_upd (o := .tup [.ref t, .int x]) nt2
          refine q _ _ (Same.trans S1 (s2.trans (St.trans St2))) (dp_row_mk (SqT.of upd_same) (Same.tup St2 (SqT.of upd_same)) (dps_same (St.trans St2) _ _ dD))
end
/-! ### drawn weights -/
abbrev sWeight : Stmt := topS 24
theorem scWeight : FnScope ["_law_box_here"] ["_law_box_here"] (defScope sWeight) := ⟨rfl, rfl, rfl, by decide +kernel, rfl, by decide +kernel, by decide +kernel⟩
/-- a weight of at most b bits -/
structure WtQ (b : Nat) (q : Rat) : Prop where
  pos : 0 < q
  sz : Sz b q
theorem wt_fr {t u : Int} {b : Nat} (ht : 0 < t) (hu : 0 < u) (h1 : t.natAbs < 2 ^ b) (h2 : u.natAbs < 2 ^ b) : WtQ b (Rat.divInt t u) := by
  refine ⟨?_, sz_fr hu h1 h2⟩
  have hq : (0 : Rat) < (u : Rat) := Rat.intCast_pos.mpr hu
  rw [Rat.divInt_eq_div, Rat.lt_div_iff hq, Rat.zero_mul]
  exact Rat.intCast_pos.mpr ht
def spWeight (K : PySem.W.Frag) : Sp := fun vs H Q _ => ∃ (p : Addr) (n : Nat), vs = [.ref p] ∧ Bx H p n ∧ n < 900000 ∧
  ∀ (v : V) (H' : Hp) (q : Rat), WtQ 4 q → Chg p H H' → Bx H' p (n + 2) → Dp K H' v (frD q) → Q v H'
section
variable {P : Program} {w : World} {K : PySem.W.Frag} {mg : Str → Option Value} {base : Heap}
theorem ok_weight {f fT fC : Addr} {fd fdT fdC : FuncData} {k : Nat} (F : Fun K "_law_weight" "_law_weight" sWeight f fd)
    (kT : PySem.W.keepIn K (.ref fT) = true) (GT : FnOk P w K mg base CX0 k fT fdT ["_law_box_here", "_law_size"] spTake) (bT : Binds K fdT ["_law_box_here", "_law_size"] []) (gT : mg "_law_take" = some (.ref fT))
    (kC : PySem.W.keepIn K (.ref fC) = true) (GC : FnOk P w K mg base CX0 k fC fdC ["_law_top", "_law_under"] (spFrac K)) (bC : Binds K fdC ["_law_top", "_law_under"] []) (gC : mg "_law_frac" = some (.ref fC)) :
    FnOk P w K mg base CX0 (k + 1) f fd ["_law_box_here"] (spWeight K) := by
  refine F.ok scWeight (fun vs H Q E h => ?_) (fun cdv A outer s H vs Q E hr h => ?_)
  · obtain ⟨p, n, rfl, _⟩ := h
    rfl
  · obtain ⟨p, n, rfl, hb, hn, q⟩ := h
    refine ⟨_, pss_one (ps_ret (pe_call GC hr (by rfl) gC kC bC .nil pass0 (pa_cons (pe_op op_add pe_int (pe_call GT hr (by rfl) gT kT bT .nil pass0 (pa_cons (pv 0) (pa_cons pe_int pa_nil)))) (pa_cons (pe_op op_add pe_int (pe_call GT hr (by rfl) gT kT bT .nil pass0 (pa_cons (pv 0) (pa_cons pe_int pa_nil)))) pa_nil)))), ?_⟩
    refine ⟨.ref p, rfl, p, 12, n, rfl, hb, by omega, by decide, by decide, fun r H1 h0 h1 c1 b1 => ?_⟩
    refine ⟨_, _, rfl, rfl, .ref p, rfl, p, 12, n + 1, rfl, b1, by omega, by decide, by decide, fun r2 H2 h20 h21 c2 b2 => ?_⟩
    refine ⟨_, _, rfl, rfl, _, _, 4, rfl, by omega, by omega, by omega, by decide, by decide, fun v H3 s3 d3 => ?_⟩
    exact q v H3 _ (wt_fr (by omega) (by omega) (by omega) (by omega)) (c1.trans (c2.trans (Chg.of_same s3))) (b2.same s3) d3
end
/-! ### drawn rooms; the rooms and panes by the law's own sums -/
abbrev sRooms : Stmt := topS 25
abbrev sDueRooms : Stmt := topS 26
abbrev sDuePanes : Stmt := topS 27
theorem scRooms : FnScope ["_law_box_here", "_law_found", "_law_turn"] ["_law_box_here"] (defScope sRooms) := ⟨rfl, rfl, rfl, by decide +kernel, rfl, by decide +kernel, by decide +kernel⟩
theorem scDueRooms : FnScope ["_law_line", "_law_start", "_law_found", "_law_pane_here"] ["_law_line", "_law_start"] (defScope sDueRooms) := ⟨rfl, rfl, rfl, by decide +kernel, rfl, by decide +kernel, by decide +kernel⟩
theorem scDuePanes : FnScope ["_law_weights", "_law_one", "_law_two"] ["_law_weights"] (defScope sDuePanes) := ⟨rfl, rfl, rfl, by decide +kernel, rfl, by decide +kernel, by decide +kernel⟩
def spRooms (K : PySem.W.Frag) : Sp := fun vs H Q _ => ∃ (p : Addr) (n : Nat), vs = [.ref p] ∧ Bx H p n ∧ n < 800000 ∧
  ∀ (L : Addr) (us : List V) (H' : Hp) (ws : List Rat), (∀ q ∈ ws, WtQ 4 q) → ws ≠ [] → ws.length ≤ 13 → Chg p H H' → Bx H' p (n + 50) → H L = none → L ≠ p → H' L = some (.lst us) → DpAll K H' us (frs ws) → Q (.ref L) H'
def spDuePanes (K : PySem.W.Frag) : Sp := fun vs H Q _ => ∃ (r : V) (ws : List Rat) (b : Nat), vs = [r] ∧ Dp K H r (.list (frs ws)) ∧ (∀ q ∈ ws, 0 < q ∧ Sz b q) ∧ ws.length ≤ 100 ∧ 4 * b + 2 < 9000 ∧
  ∀ (v : V) (H' : Hp), Same H H' → Dp K H' v (.tuple (frs (panesQ ws))) → Q v H'
section
variable {P : Program} {w : World} {K : PySem.W.Frag} {mg : Str → Option Value} {base : Heap}
theorem ok_rooms {f fT fW : Addr} {fd fdT fdW : FuncData} {k : Nat} (F : Fun K "_law_rooms" "_law_rooms" sRooms f fd)
    (kT : PySem.W.keepIn K (.ref fT) = true) (GT : FnOk P w K mg base CX0 k fT fdT ["_law_box_here", "_law_size"] spTake) (bT : Binds K fdT ["_law_box_here", "_law_size"] []) (gT : mg "_law_take" = some (.ref fT))
    (kW : PySem.W.keepIn K (.ref fW) = true) (GW : FnOk P w K mg base CX0 k fW fdW ["_law_box_here"] (spWeight K)) (bW : Binds K fdW ["_law_box_here"] []) (gW : mg "_law_weight" = some (.ref fW)) (mr : mg "range" = none) :
    FnOk P w K mg base CX0 (k + 1) f fd ["_law_box_here"] (spRooms K) := by
  refine F.ok scRooms (fun vs H Q E h => ?_) (fun cdv A outer s H vs Q E hr h => ?_)
  · obtain ⟨p, n, rfl, _⟩ := h
    rfl
  · obtain ⟨p, n, rfl, hb, hn, q⟩ := h
    refine ⟨_, pss_cons (ps_set (i := 1) scRooms.nd rfl (.inl rfl) (pe_lst (pa_cons (pe_call GW hr (by rfl) gW kW bW .nil pass0 (pa_cons (pv 0) pa_nil)) pa_nil)))
      (pss_cons (ps_for PassesOwn.never rfl (pi_range1 (by rfl) mr (pa_cons (pe_call GT hr (by rfl) gT kT bT .nil pass0 (pa_cons (pv 0) (pa_cons pe_int pa_nil))) pa_nil)) (pg_name (i := 2) scRooms.nd rfl (.inl rfl))
        (pss_one (ps_expr (pe_bm PySem.F.plainAttrs_list PySem.F.slot_list_append PySem.F.type_list_append mt_append (pv 1) (pa_cons (pe_ifExp (pt_cmpR op_eq (pe_call GT hr (by rfl) gT kT bT .nil pass0 (pa_cons (pv 0) (pa_cons pe_int pa_nil))) pe_int (nomark _)) (pe_ix ix_list (pv 1) (pe_un un_neg pe_int) (fun _ _ => rfl)) (pe_call GW hr (by rfl) gW kW bW .nil pass0 (pa_cons (pv 0) pa_nil))) pa_nil)))))
      (pss_one (ps_ret (pv 1)))), ?_⟩
    refine ⟨.ref p, rfl, p, n, rfl, hb, by omega, fun v H1 q0 z0 c1 b1 d1 => ⟨(by decide : 1 ≤ sizeLine), fun L nL => ?_⟩⟩
    have S1 := same_upd (o := .lst [v]) nL
    have nLp : L ≠ p := by
      obtain ⟨x, e⟩ := b1.at
      exact (ne_of_none e nL).symm
    have nLH : H L = none := c1.free nLp nL
    refine ⟨.ref p, rfl, p, 13, n + 2, rfl, b1.same S1, by omega, by decide, by decide, fun r H2 h0 h1 c2 b2 => ?_⟩
    have hL2 : H2 L = some (.lst [v]) := c2 _ _ nLp upd_same
    refine ⟨r, rfl, by omega, by omega, for_it walk_range (fun i σ H3 => ∃ (us : List V) (u : V) (e : Option V) (ls : List Rat) (l : Rat), σ = [some (.ref p), some (.ref L), e] ∧ Chg p H H3 ∧ Bx H3 p (n + 3 + 3 * i) ∧ H3 L = some (.lst (us ++ [u])) ∧ DpAll K H3 us (frs ls) ∧ Dp K H3 u (frD l) ∧ (∀ q ∈ ls, WtQ 4 q) ∧ WtQ 4 l ∧ ls.length = i)
      ⟨[], v, none, [], q0, rfl, c1.trans ((Chg.of_same S1).trans c2), b2, hL2, .nil, (b1.same S1).dp c2 (dp_same S1 _ _ d1) (noL_fr _), by simp, z0, rfl⟩ (fun _ _ _ _ _ => trivial) ?_ ?_⟩
    · rintro i y σ H3 H3' hi ⟨us, u, e, ls, l, rfl, C3, B3, hL3, dU, du, wls, wl, hl⟩ ⟨rfl, rfl⟩
      refine ⟨.ref L, rfl, .inl ⟨rfl, _, SqL.of hL3⟩, .ref p, rfl, p, 5, _, rfl, B3, by omega, by decide, by decide, fun r2 H4 h20 h21 c4 b4 => ?_⟩
      have hL4 : H4 L = some (.lst (us ++ [u])) := c4 _ _ nLp hL3
      have dU4 := B3.dps c4 dU (noL_frs _)
      have du4 := B3.dp c4 du (noL_fr _)
      refine ⟨rfl, _, rfl, ite2 (fun e => ?_) (fun e => ?_)⟩
      · refine ⟨.ref L, rfl, 1, rfl, L, _, -1, u, rfl, rfl, SqL.of hL4, atI_last _ _, L, _, u, rfl, rfl, hL4, ?_, us ++ [u], u, _, ls ++ [l], l, rfl, (C3.trans c4).new_upd nLH, (b4.other nLp.symm).mono (by omega), upd_same, dps_put hL4 (noL_frs _) (dps_snoc dU4 du4), dp_put hL4 (noL_fr _) du4, ?_, wl, ?_⟩
        · rw [List.length_append, dps_len dU, frs_len, hl]
          exact small1000 (by simp; omega)
        · intro q5 h5
          rcases List.mem_append.mp h5 with h5 | h5
          · exact wls _ h5
          · rw [List.mem_singleton.mp h5]
            exact wl
        · rw [List.length_append, hl]
          rfl
      · refine ⟨.ref p, rfl, p, _, rfl, b4, by omega, fun v5 H5 q5 z5 c5 b5 d5 => ?_⟩
        have hL5 : H5 L = some (.lst (us ++ [u])) := c5 _ _ nLp hL4
        refine ⟨L, _, v5, rfl, rfl, hL5, ?_, us ++ [u], v5, _, ls ++ [l], q5, rfl, (C3.trans (c4.trans c5)).new_upd nLH, (b5.other nLp.symm).mono (by omega), upd_same, dps_put hL5 (noL_frs _) (dps_snoc (b4.dps c5 dU4 (noL_frs _)) (b4.dp c5 du4 (noL_fr _))), dp_put hL5 (noL_fr _) d5, ?_, z5, ?_⟩
        · rw [List.length_append, dps_len dU, frs_len, hl]
          exact small1000 (by simp; omega)
        · intro q6 h6
          rcases List.mem_append.mp h6 with h6 | h6
          · exact wls _ h6
          · rw [List.mem_singleton.mp h6]
            exact wl
        · rw [List.length_append, hl]
          rfl
    · rintro σ H3 ⟨us, u, e, ls, l, rfl, C3, B3, hL3, dU, du, wls, wl, hl⟩
      refine ⟨_, rfl, q L (us ++ [u]) H3 (ls ++ [l]) ?_ (by simp) ?_ C3 (B3.mono (by omega)) nLH nLp hL3 (dps_snoc dU du)⟩
      · intro q6 h6
        rcases List.mem_append.mp h6 with h6 | h6
        · exact wls _ h6
        · rw [List.mem_singleton.mp h6]
          exact wl
      · rw [List.length_append, hl]
        simp
        omega
theorem ok_dueRooms {f fO fM fP fT : Addr} {fd fdO fdM fdP fdT : FuncData} {k : Nat} (F : Fun K "_law_due_rooms" "_law_due_rooms" sDueRooms f fd)
    (kO : PySem.W.keepIn K (.ref fO) = true) (GO : FnOk P w K mg base CX0 k fO fdO ["_law_one", "_law_other"] (spTwo K (fun q1 q2 => q1 / q2) (fun r => 0 < r))) (bO : Binds K fdO ["_law_one", "_law_other"] []) (gO : mg "_law_over" = some (.ref fO))
    (kM : PySem.W.keepIn K (.ref fM) = true) (GM : FnOk P w K mg base CX0 k fM fdM ["_law_one", "_law_other"] (spTwo K (fun q1 q2 => q1 - q2) (fun r => True))) (bM : Binds K fdM ["_law_one", "_law_other"] []) (gM : mg "_law_less" = some (.ref fM))
    (kP : PySem.W.keepIn K (.ref fP) = true) (GP : FnOk P w K mg base CX0 k fP fdP ["_law_one", "_law_other"] (spTwo K (fun q1 q2 => q1 + q2) (fun r => True))) (bP : Binds K fdP ["_law_one", "_law_other"] []) (gP : mg "_law_plus" = some (.ref fP))
    (kT : PySem.W.keepIn K (.ref fT) = true) (GT : FnOk P w K mg base CX0 k fT fdT ["_law_one", "_law_other"] (spTwo K (fun q1 q2 => q1 * q2) (fun r => True))) (bT : Binds K fdT ["_law_one", "_law_other"] []) (gT : mg "_law_times" = some (.ref fT)) :
    FnOk P w K mg base CX0 (k + 1) f fd ["_law_line", "_law_start"] (spRoomsOf K) := by
  refine F.ok scDueRooms (fun vs H Q E h => ?_) (fun cdv A outer s H vs Q E hr h => ?_)
  · obtain ⟨r, v, qs, x, q0, b, c, rfl, _⟩ := h
    rfl
  · obtain ⟨r, v, qs, x, q0, b, c, rfl, hR, hV, hq0, hz0, hp, hlen, hbits, q⟩ := h
    obtain ⟨a, a2, xs, rfl, ha, ha2, hxs⟩ := dp_row hR
    refine ⟨_, pss_cons (ps_set (i := 2) scDueRooms.nd rfl (.inl rfl) (pe_lst (pa_cons (pv 1) pa_nil)))
      (pss_cons (ps_for PassesOwn.never rfl (pi_tup (pe_ix ix_tup (pv 0) pe_int (fun _ _ => rfl))) (pg_name (i := 3) scDueRooms.nd rfl (.inl rfl))
        (pss_one (ps_expr (pe_bm PySem.F.plainAttrs_list PySem.F.slot_list_append PySem.F.type_list_append mt_append (pv 2) (pa_cons
          (pe_call GO hr (by rfl) gO kO bO .nil pass0 (pa_cons (pe_call GT hr (by rfl) gT kT bT .nil pass0 (pa_cons (pe_ix ix_list (pv 2) (pe_un un_neg pe_int) (fun _ _ => rfl)) (pa_cons (pe_call GM hr (by rfl) gM kM bM .nil pass0 (pa_cons (pe_tup (pa_cons pe_int (pa_cons pe_int pa_nil))) (pa_cons (pv 3) pa_nil))) pa_nil)))
            (pa_cons (pe_call GP hr (by rfl) gP kP bP .nil pass0 (pa_cons (pe_tup (pa_cons pe_int (pa_cons pe_int pa_nil))) (pa_cons (pv 3) pa_nil))) pa_nil))) pa_nil)))))
      (pss_one (ps_ret (pv 2)))), ?_⟩
    refine ⟨v, rfl, (by decide : 1 ≤ sizeLine), fun L nL => ?_⟩
    have S0 := same_upd (o := .lst [v]) nL
    refine ⟨.ref a, rfl, a, _, 0, .ref a2, rfl, rfl, Same.tup S0 ha, atI_nat (j := 0) rfl, a2, rfl, ⟨_, Same.tup S0 ha2⟩, ?_⟩
    refine for_it (walk_tup (xs := xs)) (fun i σ H2 => ∃ (us : List V) (u : V) (e1 : Option V) (ls : List Rat), σ = [some (.ref a), some v, some (.ref L), e1] ∧ Same H H2 ∧ H2 L = some (.lst (us ++ [u])) ∧ DpAll K H2 us (frs ls) ∧ Dp K H2 u (frD (lastQ q0 (qs.take i))) ∧ ls ++ [lastQ q0 (qs.take i)] = roomsQ q0 (qs.take i))
      ⟨[], v, none, [], rfl, S0, upd_same, .nil, dp_same S0 _ _ hV, rfl⟩ (fun i σ H2 _ hW => ?_) ?_ ?_
    · obtain ⟨us, u, e1, ls, rfl, s2, _⟩ := hW
      exact Same.tup s2 ha2
    · rintro i y σ H2 H2' hi ⟨us, u, e1, ls, rfl, s2, hL, dU, du, hls⟩ ⟨rfl, hy⟩
      obtain ⟨d, hd, dy⟩ := dps_get hxs hy
      obtain ⟨r, hr1, rfl⟩ := frs_get hd
      have hiq : i < qs.length := by
        rw [dps_len hxs, frs_len] at hi
        exact hi
      have pr := hp r (List.mem_of_getElem? hr1)
      have tk : qs.take (i + 1) = qs.take i ++ [r] := by rw [List.take_add_one, hr1]; rfl
      have lk := lastQ_ok (c := c) (qs.take i) q0 b hq0 hz0 (fun z hz => hp z (List.mem_of_mem_take hz))
      have ltk : (qs.take i).length = i := by rw [List.length_take]; omega
      rw [ltk] at lk
      have hmul : (2 * c + 4) * (i + 1) ≤ (2 * c + 4) * (qs.length + 1) := Nat.mul_le_mul_left _ (by omega)
      have hmul2 : (2 * c + 4) * (i + 1) = (2 * c + 4) * i + (2 * c + 4) := by rw [Nat.mul_add, Nat.mul_one]
      refine ⟨.ref L, rfl, .inl ⟨rfl, _, SqL.of hL⟩, .ref L, rfl, 1, rfl, L, _, -1, u, rfl, rfl, SqL.of hL, atI_last _ _, (by decide : 2 ≤ sizeLine), fun o1 no1 => ?_⟩
      have s3 := same_upd (o := .tup [.int 1, .int 1]) no1
      refine ⟨y, rfl, ⟨.ref o1, y, 1, r, 1, c, rfl, dp_fr_mk (SqT.of upd_same), dp_same (s2.trans s3) _ _ dy, sz_one, pr.sz, by omega, trivial, fun m H4 s4 dm => ?_⟩⟩
      have t4 := s3.trans s4
      refine ⟨u, m, _, _, b + (2 * c + 4) * i, c + 2, rfl, dp_same t4 _ _ du, dm, lk.2, pr.sm, by omega, trivial, fun n H5 s5 dn => ?_⟩
      refine ⟨(by decide : 2 ≤ sizeLine), fun o2 no2 => ?_⟩
      have s6 := same_upd (o := .tup [.int 1, .int 1]) no2
      have t6 := t4.trans (s5.trans s6)
      refine ⟨y, rfl, ⟨.ref o2, y, 1, r, 1, c, rfl, dp_fr_mk (SqT.of upd_same), dp_same (s2.trans t6) _ _ dy, sz_one, pr.sz, by omega, trivial, fun z H7 s7 dz => ?_⟩⟩
      refine ⟨n, z, _, _, b + (2 * c + 4) * i + (c + 2), c + 2, rfl, dp_same (s6.trans s7) _ _ dn, dz, sz_mul lk.2 pr.sm, pr.sp, by omega, pr.p1, fun t H8 s8 dt => ?_⟩
      have t8 := t6.trans (s7.trans s8)
      have hL8 : H8 L = some (.lst (us ++ [u])) := t8 _ _ hL
      have eq : lastQ q0 (qs.take i) * (1 - r) / (1 + r) = lastQ q0 (qs.take i) * shareQ r := by
        have := pr.p1
        have h1 : 1 + r ≠ 0 := by grind
        exact (share_of h1).symm
      replace dt : Dp K H8 t (frD (lastQ q0 (qs.take i) * (1 - r) / (1 + r))) := dt
      rw [eq] at dt
      refine ⟨L, _, t, rfl, rfl, hL8, ?_, us ++ [u], t, some y, ls ++ [lastQ q0 (qs.take i)], rfl, ?_, upd_same, ?_, ?_, ?_⟩
      · rw [List.length_append, dps_len dU, frs_len]
        have := congrArg List.length hls
        rw [List.length_append, roomsQ_len, ltk] at this
        exact small1000 (by simp at this ⊢; omega)
      · exact Same.new_upd (s2.trans t8) nL
      · exact dps_put hL8 (noL_frs _) (dps_snoc (dps_same t8 _ _ dU) (dp_same t8 _ _ du))
      · rw [tk, lastQ_snoc]
        exact dp_put hL8 (noL_fr _) dt
      · rw [tk, lastQ_snoc, roomsQ_snoc, hls]
    · rintro σ H2 ⟨us, u, e1, ls, rfl, s2, hL, dU, du, hls⟩
      have e : xs.length = qs.length := by rw [dps_len hxs, frs_len]
      rw [e, List.take_length] at du hls
      refine ⟨_, rfl, q L (us ++ [u]) H2 s2 nL hL ?_⟩
      rw [← hls]
      exact dps_snoc dU du
theorem ok_duePanes {f fO fM fP : Addr} {fd fdO fdM fdP : FuncData} {k : Nat} (F : Fun K "_law_due_panes" "_law_due_panes" sDuePanes f fd)
    (kO : PySem.W.keepIn K (.ref fO) = true) (GO : FnOk P w K mg base CX0 k fO fdO ["_law_one", "_law_other"] (spTwo K (fun q1 q2 => q1 / q2) (fun r => 0 < r))) (bO : Binds K fdO ["_law_one", "_law_other"] []) (gO : mg "_law_over" = some (.ref fO))
    (kM : PySem.W.keepIn K (.ref fM) = true) (GM : FnOk P w K mg base CX0 k fM fdM ["_law_one", "_law_other"] (spTwo K (fun q1 q2 => q1 - q2) (fun r => True))) (bM : Binds K fdM ["_law_one", "_law_other"] []) (gM : mg "_law_less" = some (.ref fM))
    (kP : PySem.W.keepIn K (.ref fP) = true) (GP : FnOk P w K mg base CX0 k fP fdP ["_law_one", "_law_other"] (spTwo K (fun q1 q2 => q1 + q2) (fun r => True))) (bP : Binds K fdP ["_law_one", "_law_other"] []) (gP : mg "_law_plus" = some (.ref fP))
    (mz : mg "zip" = none) (mt : mg "tuple" = none) : FnOk P w K mg base CX0 (k + 1) f fd ["_law_weights"] (spDuePanes K) := by
  refine F.ok scDuePanes (fun vs H Q E h => ?_) (fun cdv A outer s H vs Q E hr h => ?_)
  · obtain ⟨r, ws, b, rfl, _⟩ := h
    rfl
  · obtain ⟨r, ws, b, rfl, hR, hp, hlen, hbits, q⟩ := h
    obtain ⟨a, us, rfl, ha, hu⟩ := dp_lst hR
    have hul : us.length = ws.length := by rw [dps_len hu, frs_len]
    refine ⟨_, pss_one (ps_ret (pe_callTy call_tuple_of (by rfl) mt PyProof.Rows.boot_tuple (pa_cons (pe_lc (own := [("_law_one", 1), ("_law_two", 2)]) (g := gTup K 2 (gCons (gName 1) (gCons (gName 2) gNil))) (tt := tYes) rfl scDuePanes.nd
          (RZ.pi_zipA (by rfl) mz (pa_cons (pv 0) (pa_cons (pe_slice sl_list (pv 0) (po_some pe_int) po_none) pa_nil)))
          (blkOk_by (N := ["_law_weights", "_law_one", "_law_two"]) (sc := defScope sDuePanes) (by decide +kernel))
          (fun _ _ _ _ _ => pg_tup rfl (pgs_cons (pg_name (i := 1) scDuePanes.nd rfl (.inl rfl)) (pgs_cons (pg_name (i := 2) scDuePanes.nd rfl (.inl rfl)) pgs_nil))) (fun _ _ _ _ _ => pts_nil)
          (fun _ _ _ _ _ => pe_call GO hr (by rfl) gO kO bO .nil pass0 (pa_cons (pe_call GM hr (by rfl) gM kM bM .nil pass0 (pa_cons (pv 1) (pa_cons (pv 2) pa_nil))) (pa_cons (pe_call GP hr (by rfl) gP kP bP .nil pass0 (pa_cons (pv 1) (pa_cons (pv 2) pa_nil))) pa_nil)))) pa_nil))), ?_⟩
    refine ⟨.ref a, rfl, .ref a, rfl, 1, rfl, a, us, rfl, ha, fun c nc => ?_⟩
    rw [cut_one]
    have S1 := same_upd (o := .lst (us.drop 1)) nc
    refine ⟨a, c, us, us.drop 1, rfl, .inl ⟨Same.seq S1 ha, SqL.of upd_same, fun L nL => lc_it (walk_zip (xs := us) (ys := us.drop 1) (n := ws.length - 1) (by rw [List.length_drop]; omega)) (fun i H2 => ∃ vs : List V, Same _ H2 ∧ H2 L = some (.lst vs) ∧ DpAll K H2 vs (frs ((panesQ ws).take i)) ∧ vs.length = i) ⟨[], same_upd nL, upd_same, .nil, rfl⟩ ?_ ?_ ?_⟩⟩
    · rintro i H2 _ ⟨vs, s2, _⟩
      exact ⟨Same.seq s2 (Same.seq S1 ha), Same.seq s2 (SqL.of upd_same)⟩
    · rintro i y H2 H2' hi ⟨vs, s2, hL, dD, hl⟩ ⟨T, u1, u2, rfl, nT, rfl, e1, e2⟩
      replace e2 : (us.drop 1)[i]? = some u2 := e2
      rw [List.getElem?_drop, Nat.add_comm 1 i] at e2
      obtain ⟨D1, f1, k1⟩ := dps_get hu e1
      obtain ⟨q1, g1, rfl⟩ := frs_get f1
      obtain ⟨D2, f2, k2⟩ := dps_get hu e2
      obtain ⟨q2, g2, rfl⟩ := frs_get f2
      refine ⟨T, _, rfl, SqT.of upd_same, rfl, u1, [u2], rfl, u2, [], rfl, rfl, rfl, ?_⟩
      have S3 := S1.trans (s2.trans (same_upd (o := .tup [u1, u2]) nT))
      have p1 := hp q1 (List.mem_of_getElem? g1)
      have p2 := hp q2 (List.mem_of_getElem? g2)
      have pos : 0 < q1 + q2 := by
        have a1 := p1.1
        have a2 := p2.1
        grind
      refine ⟨u1, rfl, u2, rfl, ⟨u1, u2, q1, q2, b, b, rfl, dp_same S3 _ _ k1, dp_same S3 _ _ k2, p1.2, p2.2, by omega, trivial, fun m H4 s4 dm => ?_⟩⟩
      refine ⟨u1, rfl, u2, rfl, ⟨u1, u2, q1, q2, b, b, rfl, dp_same (S3.trans s4) _ _ k1, dp_same (S3.trans s4) _ _ k2, p1.2, p2.2, by omega, trivial, fun n H5 s5 dn => ?_⟩⟩
      refine ⟨m, n, _, _, b + b + 1, b + b + 1, rfl, dp_same s5 _ _ dm, dn, sz_sub p1.2 p2.2, sz_add p1.2 p2.2, by omega, pos, fun v H6 s6 dv => ?_⟩
      have t6 := (same_upd (o := .tup [u1, u2]) nT).trans (s4.trans (s5.trans s6))
      have hL6 : H6 L = some (.lst vs) := t6 _ _ hL
      refine ⟨vs, hL6, small1000 (by omega), vs ++ [v], Same.new_upd (s2.trans t6) nL, upd_same, ?_, by rw [List.length_append, hl]; rfl⟩
      rw [panes_take g1 g2]
      exact dps_put hL6 (noL_frs _) (dps_snoc (dps_same t6 _ _ dD) dv)
    · rintro H2 ⟨vs, s2, hL, dD, hl⟩
      rw [show (panesQ ws).take (ws.length - 1) = panesQ ws from List.take_of_length_le (by rw [panesQ_len]; exact Nat.le_refl _)] at dD
      refine ⟨L, vs, rfl, .inl ⟨SqL.of hL, fun t nt => ?_⟩⟩
      have St := same_upd (o := .tup vs) nt
      exact q _ _ (S1.trans (s2.trans St)) (.tup (SqT.of upd_same) (dps_same St _ _ dD))
end
/-! ### the law -/
abbrev s_law : Stmt := topS 28
theorem sc_law : FnScope ["_law_script", "_law_k", "_law_box_here", "_law_line", "_law_start", "_law_due", "_law_bare", "_law_told", "_law_weights", "_law_last", "_law_panes", "_law_by", "_law_few", "_law_known", "_law_turn", "_law_one"] ["_law_script"] (defScope s_law) := ⟨rfl, rfl, rfl, by decide +kernel, rfl, by decide +kernel, by decide +kernel⟩
def spLaw (K : PySem.W.Frag) : Sp := fun vs H Q _ => ∃ (a : Addr) (ns : List Int), vs = [.ref a] ∧ SqL K H a (ns.map V.int) ∧ ns.length ≤ 63 ∧ ∀ H', Q (.bl true) H'
theorem okD_fr (d : Nat) (q : Rat) : okD (d + 2) (frD q) = true := rfl
theorem okD_frs (d : Nat) (qs : List Rat) (h : qs.length ≤ 1000) : okD (d + 3) (.list (frs qs)) = true := by
  unfold okD
  rw [Bool.and_eq_true, frs_len]
  refine ⟨decide_eq_true h, List.all_eq_true.mpr fun x hx => ?_⟩
  obtain ⟨q, _, rfl⟩ := List.mem_map.mp hx
  exact okD_fr d q
theorem okD_frt (d : Nat) (qs : List Rat) (h : qs.length ≤ 1000) : okD (d + 3) (.tuple (frs qs)) = true := by
  unfold okD
  rw [Bool.and_eq_true, frs_len]
  refine ⟨decide_eq_true h, List.all_eq_true.mpr fun x hx => ?_⟩
  obtain ⟨q, _, rfl⟩ := List.mem_map.mp hx
  exact okD_fr d q
theorem okD_row (d : Nat) (qs : List Rat) (x : Int) (h : qs.length ≤ 1000) : okD (d + 4) (rowD qs x) = true := by
  unfold rowD okD
  rw [Bool.and_eq_true, List.all_cons, okD_frt d qs h]
  exact ⟨rfl, rfl⟩
theorem okD_list {d : Nat} {ds : List PyData} (h : ds.length ≤ 1000) (a : ∀ x ∈ ds, okD d x = true) : okD (d + 1) (.list ds) = true := by
  unfold okD
  rw [Bool.and_eq_true]
  exact ⟨decide_eq_true h, List.all_eq_true.mpr a⟩
theorem known_rooms : roomsQ 1 [Rat.divInt 1 2] = [1, Rat.divInt 1 3] := by decide +kernel
theorem known_panes : panesQ [1, 3] = [Rat.divInt (-1) 2] := by decide +kernel
structure Cals3 (P : Program) (w : World) (K : PySem.W.Frag) (mg : Str → Option Value) (base : Heap) (k : Nat) : Prop where
  box : ∃ f fd, Cal P w K mg base k "_law_box" ["_law_script", "_law_k"] (spBox K) f fd
  row : ∃ f fd, Cal P w K mg base k "_law_row" ["_law_box_here", "_law_most"] (spRow K) f fd
  weight : ∃ f fd, Cal P w K mg base k "_law_weight" ["_law_box_here"] (spWeight K) f fd
  dueRooms : ∃ f fd, Cal P w K mg base k "_law_due_rooms" ["_law_line", "_law_start"] (spRoomsOf K) f fd
  duePanes : ∃ f fd, Cal P w K mg base k "_law_due_panes" ["_law_weights"] (spDuePanes K) f fd
  same : ∃ f fd, Cal P w K mg base k "_law_same" ["_law_found", "_law_due"] (spSame K 6) f fd
  rooms : ∃ f fd, Cal P w K mg base k "_law_rooms" ["_law_box_here"] (spRooms K) f fd
  of : ∃ f fd, Cal P w K mg base k "_law_of" ["_law_box_here", "_law_some"] (spOf K) f fd
  take : ∃ f fd, Cal P w K mg base k "_law_take" ["_law_box_here", "_law_size"] spTake f fd
  frac : ∃ f fd, Cal P w K mg base k "_law_frac" ["_law_top", "_law_under"] (spFrac K) f fd
  times : ∃ f fd, Cal P w K mg base k "_law_times" ["_law_one", "_law_other"] (spTwo K (fun q1 q2 => q1 * q2) (fun r => True)) f fd
  mlen : mg "len" = none
  mmin : mg "min" = none
  mrange : mg "range" = none
  mtuple : mg "tuple" = none
/-- rooms_of as it's called: by its place, by names, the first left out -/
structure Rof (P : Program) (w : World) (K : PySem.W.Frag) (mg : Str → Option Value) (base : Heap) (k : Nat) (f : Addr) (fd : FuncData) (d : V) (ds : List Value) (mv1 mv2 : List Value) : Prop where
  kp : PySem.W.keepIn K (.ref f) = true
  ok : FnOk P w K mg base CX0 k f fd ["row", "first"] (spRoomsOf K)
  at_ : mg "rooms_of" = some (.ref f)
  bd : Binds K fd ["row", "first"] ds
  vd : Vals [d] ds
  dd : ∀ H : Hp, Dp K H d (frD 1)
  k1 : KBn K fd ["row", "first"] 1 ["first"] (fun us ws => us ++ ws) (fun vs zs => vs ++ zs)
  k2 : KBn K fd ["row", "first"] 0 ["first", "row"] (fun us ws => ws.drop 1 ++ ws.take 1) (fun vs zs => zs.drop 1 ++ zs.take 1)
structure Row (P : Program) (w : World) (K : PySem.W.Frag) (mg : Str → Option Value) (base : Heap) (k : Nat) (f : Addr) (fd : FuncData) (ds : List Value) : Prop where
  kp : PySem.W.keepIn K (.ref f) = true
  ok : FnOk P w K mg base CX0 k f fd ["rooms", "wall"] (spRowOf K)
  at_ : mg "row_of" = some (.ref f)
  bd : Binds K fd ["rooms", "wall"] ds
  vd : Vals [.int 0] ds
  k1 : KBn K fd ["rooms", "wall"] 1 ["wall"] (fun us ws => us ++ ws) (fun vs zs => vs ++ zs)
  k2 : KBn K fd ["rooms", "wall"] 0 ["wall", "rooms"] (fun us ws => ws.drop 1 ++ ws.take 1) (fun vs zs => zs.drop 1 ++ zs.take 1)
section
variable {P : Program} {w : World} {K : PySem.W.Frag} {mg : Str → Option Value} {base : Heap}
theorem ok_law {f fR fW : Addr} {fd fdR fdW : FuncData} {dV : V} {ds mv1 mv2 ds2 : List Value} {k : Nat} (F : Fun K "law" "law" s_law f fd) (T : Cals3 P w K mg base k) (R : Rof P w K mg base k fR fdR dV ds mv1 mv2) (W : Row P w K mg base k fW fdW ds2) :
    FnOk P w K mg base CX0 (k + 1) f fd ["_law_script"] (spLaw K) := by
  obtain ⟨_, _, cBox⟩ := T.box
  obtain ⟨_, _, cRow⟩ := T.row
  obtain ⟨_, _, cWt⟩ := T.weight
  obtain ⟨_, _, cDR⟩ := T.dueRooms
  obtain ⟨_, _, cDP⟩ := T.duePanes
  obtain ⟨_, _, cSame⟩ := T.same
  obtain ⟨_, _, cRooms⟩ := T.rooms
  obtain ⟨_, _, cOf⟩ := T.of
  obtain ⟨_, _, cTake⟩ := T.take
  obtain ⟨_, _, cFrac⟩ := T.frac
  obtain ⟨_, _, cTimes⟩ := T.times
  refine F.ok sc_law (fun vs H Q E h => ?_) (fun cdv A outer s H vs Q E hr h => ?_)
  · obtain ⟨a, ns, rfl, _⟩ := h
    rfl
  · obtain ⟨a, ns, rfl, hS, hlen, q⟩ := h
    refine ⟨_, (pss_cons (ps_for PassesOwn.never rfl (pi_range1 (by rfl) T.mrange (pa_cons (pe_op op_add pe_int (pe_callB (call_min2 rfl) (by rfl) T.mmin PyProof.Rows.boot_min (pa_cons pe_int (pa_cons (pe_callB call_len_seq (by rfl) T.mlen PySem.boot_len (pa_cons (pv 0) pa_nil)) pa_nil)))) pa_nil)) (pg_name (i := 1) sc_law.nd rfl (.inl rfl))
      (pss_cons (ps_set (i := 2) sc_law.nd rfl (.inr rfl) (pe_c cBox hr (by rfl) (pa_cons (pv 0) (pa_cons (pv 1) pa_nil))))
      (pss_cons (ps_par (by rfl) sc_law.nd (i := 3) (j := 4) rfl rfl (by decide) rfl rfl (pa_cons (pe_c cRow hr (by rfl) (pa_cons (pv 2) (pa_cons pe_int pa_nil))) (pa_cons (pe_c cWt hr (by rfl) (pa_cons (pv 2) pa_nil)) pa_nil)) (by rfl))
      (pss_cons (ps_par (by rfl) sc_law.nd (i := 5) (j := 6) rfl rfl (by decide) rfl rfl (pa_cons (pe_c cDR hr (by rfl) (pa_cons (pv 3) (pa_cons (pv 4) pa_nil))) (pa_cons (pe_c cDR hr (by rfl) (pa_cons (pv 3) (pa_cons (pe_tup (pa_cons pe_int (pa_cons pe_int pa_nil))) pa_nil))) pa_nil)) (by rfl))
      (pss_cons (ps_set (i := 7) sc_law.nd rfl (.inl rfl) (pe_lst (pa_cons (pe_callN R.ok hr (by rfl) R.at_ R.kp R.k1 pass0 (pa_cons (pv 3) pa_nil) (pk_cons (pv 4) pk_nil)) (pa_cons (pe_callN0 R.ok hr (by rfl) R.at_ R.kp R.k2 pass0 (pk_cons (pv 4) (pk_cons (pv 3) pk_nil))) (pa_cons (pe_call R.ok hr (by rfl) R.at_ R.kp R.bd R.vd pass0 (pa_cons (pv 3) pa_nil)) pa_nil)))))
      (pss_cons (ps_if (PW.pt (pw_or (pt_not (pt_val (pe_c cSame hr (by rfl) (pa_cons (pv 7) (pa_cons (pe_lst (pa_cons (pv 5) (pa_cons (pv 5) (pa_cons (pv 6) pa_nil)))) pa_nil))))) (pw_or1 (pt_not (pt_val (pe_c cSame hr (by rfl) (pa_cons (pe_callN W.ok hr (by rfl) W.at_ W.kp W.k1 pass0 (pa_cons (pe_ix ix_list (pv 7) pe_int (fun _ _ => rfl)) pa_nil) (pk_cons (pe_ix ix_tup (pv 3) pe_int (fun _ _ => rfl)) pk_nil)) (pa_cons (pv 3) pa_nil)))))))) pss_never pss_nil)
      (pss_cons (ps_expr (pe_bm PySem.F.plainAttrs_list PySem.F.slot_list_append PySem.F.type_list_append mt_append (pe_ix ix_list (pv 7) pe_int (fun _ _ => rfl)) (pa_cons pe_str pa_nil)))
      (pss_cons (ps_expr (pe_bm0 PySem.F.plainAttrs_list PySem.F.slot_list_reverse PySem.F.type_list_reverse mt_reverse (pe_ix ix_list (pv 7) pe_int (fun _ _ => rfl))))
      (pss_cons (ps_if (pt_not (pt_val (pe_c cSame hr (by rfl) (pa_cons (pe_lst (pa_cons (pe_callN R.ok hr (by rfl) R.at_ R.kp R.k1 pass0 (pa_cons (pv 3) pa_nil) (pk_cons (pv 4) pk_nil)) (pa_cons (pe_call R.ok hr (by rfl) R.at_ R.kp R.bd R.vd pass0 (pa_cons (pv 3) pa_nil)) pa_nil))) (pa_cons (pe_lst (pa_cons (pv 5) (pa_cons (pv 6) pa_nil))) pa_nil))))) pss_never pss_nil)
      (pss_cons (ps_par (by rfl) sc_law.nd (i := 8) (j := 9) rfl rfl (by decide) rfl rfl (pa_cons (pe_c cRooms hr (by rfl) (pa_cons (pv 2) pa_nil)) (pa_cons (pe_c cOf hr (by rfl) (pa_cons (pv 2) (pa_cons (pe_lst (pa_cons pe_int (pa_cons pe_int (pa_cons (pe_un un_neg pe_int) pa_nil)))) pa_nil))) pa_nil)) (by rfl))
      (pss_cons (ps_set (i := 10) sc_law.nd rfl (.inl rfl) (pe_c cDP hr (by rfl) (pa_cons (pv 8) pa_nil)))
      (pss_cons (ps_set (i := 7) sc_law.nd rfl (.inl rfl) (pe_lst (pa_cons (pe_callN W.ok hr (by rfl) W.at_ W.kp W.k1 pass0 (pa_cons (pv 8) pa_nil) (pk_cons (pv 9) pk_nil)) (pa_cons (pe_callN0 W.ok hr (by rfl) W.at_ W.kp W.k2 pass0 (pk_cons (pv 9) (pk_cons (pe_callTy call_tuple_of (by rfl) T.mtuple PyProof.Rows.boot_tuple (pa_cons (pv 8) pa_nil)) pk_nil))) (pa_cons (pe_call W.ok hr (by rfl) W.at_ W.kp W.bd W.vd pass0 (pa_cons (pv 8) pa_nil)) pa_nil)))))
      (pss_cons (ps_if (pt_not (pt_val (pe_c cSame hr (by rfl) (pa_cons (pv 7) (pa_cons (pe_lst (pa_cons (pe_tup (pa_cons (pv 10) (pa_cons (pv 9) pa_nil))) (pa_cons (pe_tup (pa_cons (pv 10) (pa_cons (pv 9) pa_nil))) (pa_cons (pe_tup (pa_cons (pv 10) (pa_cons pe_int pa_nil))) pa_nil)))) pa_nil))))) pss_never pss_nil)
      (pss_cons (ps_if (pt_not (pt_val (pe_c cSame hr (by rfl) (pa_cons (pe_callN R.ok hr (by rfl) R.at_ R.kp R.k1 pass0 (pa_cons (pe_ix ix_list (pv 7) pe_int (fun _ _ => rfl)) pa_nil) (pk_cons (pe_ix ix_list (pv 8) pe_int (fun _ _ => rfl)) pk_nil)) (pa_cons (pv 8) pa_nil))))) pss_never pss_nil)
      (pss_cons (ps_set (i := 11) sc_law.nd rfl (.inr rfl) (pe_c cFrac hr (by rfl) (pa_cons (pe_op op_add pe_int (pe_c cTake hr (by rfl) (pa_cons (pv 2) (pa_cons pe_int pa_nil)))) (pa_cons (pe_op op_add pe_int (pe_c cTake hr (by rfl) (pa_cons (pv 2) (pa_cons pe_int pa_nil)))) pa_nil))))
      (pss_cons (ps_setLc (i := 12) (own := [("_law_turn", 14)]) (g := (gName 14)) (tt := tYes) rfl sc_law.nd rfl rfl (sw_true rfl rfl rfl (by decide +kernel)) (pi_range1 (by rfl) T.mrange (pa_cons (pe_op op_add pe_int (pe_c cTake hr (by rfl) (pa_cons (pv 2) (pa_cons pe_int pa_nil)))) pa_nil)) (blkOk_by (N := ["_law_script", "_law_k", "_law_box_here", "_law_line", "_law_start", "_law_due", "_law_bare", "_law_told", "_law_weights", "_law_last", "_law_panes", "_law_by", "_law_few", "_law_known", "_law_turn", "_law_one"]) (sc := defScope s_law) (by decide +kernel)) (fun _ _ _ _ _ => pg_name (i := 14) sc_law.nd rfl (.inl rfl)) (fun _ _ _ _ _ => pts_nil) (fun _ _ _ _ _ => (pe_c cFrac hr (by rfl) (pa_cons (pe_op op_add pe_int (pe_c cTake hr (by rfl) (pa_cons (pv 2) (pa_cons pe_int pa_nil)))) (pa_cons (pe_op op_add pe_int (pe_c cTake hr (by rfl) (pa_cons (pv 2) (pa_cons pe_int pa_nil)))) pa_nil)))))
      (pss_one (ps_if (pt_not (pt_val (pe_c cSame hr (by rfl) (pa_cons (pe_call W.ok hr (by rfl) W.at_ W.kp W.bd W.vd pass0 (pa_cons (pe_lc (own := [("_law_one", 15)]) (g := (gName 15)) (tt := tYes) rfl sc_law.nd (pi_list (pv 12)) (blkOk_by (N := ["_law_script", "_law_k", "_law_box_here", "_law_line", "_law_start", "_law_due", "_law_bare", "_law_told", "_law_weights", "_law_last", "_law_panes", "_law_by", "_law_few", "_law_known", "_law_turn", "_law_one"]) (sc := defScope s_law) (by decide +kernel)) (fun _ _ _ _ _ => pg_name (i := 15) sc_law.nd rfl (.inl rfl)) (fun _ _ _ _ _ => pts_nil) (fun _ _ _ _ _ => (pe_c cTimes hr (by rfl) (pa_cons (pv 11) (pa_cons (pv 15) pa_nil))))) pa_nil)) (pa_cons (pe_call W.ok hr (by rfl) W.at_ W.kp W.bd W.vd pass0 (pa_cons (pv 12) pa_nil)) pa_nil))))) pss_never pss_nil))))))))))))))))))
      (pss_cons (ps_set (i := 13) sc_law.nd rfl (.inl rfl) (pe_lst (pa_cons (pe_call W.ok hr (by rfl) W.at_ W.kp W.bd W.vd pass0 (pa_cons (pe_lst (pa_cons (pe_tup (pa_cons pe_int (pa_cons pe_int pa_nil))) pa_nil)) pa_nil)) (pa_cons (pe_call R.ok hr (by rfl) R.at_ R.kp R.bd R.vd pass0 (pa_cons (pe_tup (pa_cons (pe_tup (pa_cons (pe_tup (pa_cons pe_int (pa_cons pe_int pa_nil))) pa_nil)) (pa_cons pe_int pa_nil))) pa_nil)) (pa_cons (pe_call W.ok hr (by rfl) W.at_ W.kp W.bd W.vd pass0 (pa_cons (pe_lst (pa_cons (pe_tup (pa_cons pe_int (pa_cons pe_int pa_nil))) (pa_cons (pe_tup (pa_cons pe_int (pa_cons pe_int pa_nil))) pa_nil))) pa_nil)) pa_nil)))))
      (pss_one (ps_ret (pe_c cSame hr (by rfl) (pa_cons (pv 13) (pa_cons (pe_lst (pa_cons (pe_tup (pa_cons (pe_tup pa_nil) (pa_cons pe_int pa_nil))) (pa_cons (pe_lst (pa_cons (pe_tup (pa_cons pe_int (pa_cons pe_int pa_nil))) (pa_cons (pe_tup (pa_cons pe_int (pa_cons pe_int pa_nil))) pa_nil))) (pa_cons (pe_tup (pa_cons (pe_tup (pa_cons (pe_tup (pa_cons (pe_un un_neg pe_int) (pa_cons pe_int pa_nil))) pa_nil)) (pa_cons pe_int pa_nil))) pa_nil)))) pa_nil))))))), ?_⟩
    refine ⟨.ref a, rfl, a, _, rfl, .inl hS, 7, _, rfl, _, _, rfl, rfl, _, rfl, ?_, ?_, ?_⟩
    · split <;> omega
    · split <;> omega
    · have hn : ∀ m : Int, m = (ns.map V.int).length → (1 + if m < 7 then m else 7).toNat ≤ 8 := fun m _ => by split <;> omega
      refine for_it walk_range (fun i σ H2 => ∃ e1 e2 e3 e4 e5 e6 e7 e8 e9 e10 e11 e12 e13 e14 e15 : Option V, σ = [some (.ref a), e1, e2, e3, e4, e5, e6, e7, e8, e9, e10, e11, e12, e13, e14, e15] ∧ Same H H2)
        ⟨none, none, none, none, none, none, none, none, none, none, none, none, none, none, none, rfl, Same.refl H⟩ (fun _ _ _ _ _ => trivial) ?_ ?_
      · rintro i y σ H0 H0' hi ⟨e1, e2, e3, e4, e5, e6, e7, e8, e9, e10, e11, e12, e13, e14, e15, rfl, s0⟩ ⟨rfl, rfl⟩
        have hi8 : i < 8 := Nat.lt_of_lt_of_le hi (hn _ rfl)
        -- the box
        refine ⟨.ref a, rfl, _, rfl, a, _, ns, rfl, s0.seq hS, by omega, by omega, fun p H1 np s1 b1 => ?_⟩
        -- line, start
        refine ⟨.ref p, rfl, p, 12, 0, rfl, b1, by decide, by decide, fun vL H2 qs x pq hql hx c2 b2 dL2 => ?_⟩
        refine ⟨.ref p, rfl, p, _, rfl, b2, by omega, fun vS H3 qS wS c3 b3 dS3 => ⟨_, _, rfl, ?_⟩⟩
        have s3 : Same H0' H3 := Same.chg_new s1 np (c2.trans c3)
        have dL3 := b2.dp c3 dL2 (noL_row qs x)
        have pz : ∀ q ∈ qs, PaneZ 6 q := fun q hq => (pq q hq).z
        -- due, bare
        refine ⟨vL, rfl, vS, rfl, vL, vS, qs, x, qS, 4, 6, rfl, dL3, dS3, wS.pos, wS.sz, pz, by omega, by omega, fun A1 u1 H4 s4 n4 hA1 dA1 => ?_⟩
        refine ⟨vL, rfl, (by decide : 2 ≤ sizeLine), fun o1 no1 => ?_⟩
        have s5 := same_upd (o := .tup [.int 1, .int 1]) no1
        have d11 : Dp K (upd H4 o1 (.tup [.int 1, .int 1])) (.ref o1) (frD 1) := dp_fr_mk (SqT.of upd_same)
        refine ⟨vL, .ref o1, qs, x, 1, 1, 6, rfl, dp_same (s4.trans s5) _ _ dL3, d11, by decide, sz_one, pz, by omega, by omega, fun A2 u2 H5 s6 n6 hA2 dA2 => ⟨_, _, rfl, ?_⟩⟩
        have t5 : Same H3 H5 := s4.trans (s5.trans s6)
        have l1 : Lq K H5 A1 (roomsQ qS qs) := Lq.same ⟨u1, hA1, dA1⟩ (s5.trans s6)
        have l2 : Lq K H5 A2 (roomsQ 1 qs) := ⟨u2, hA2, dA2⟩
        have dL5 := dp_same t5 _ _ dL3
        have dS5 := dp_same t5 _ _ dS3
        -- told
        refine ⟨vL, rfl, vS, rfl, rfl, rfl, vL, vS, qs, x, qS, 4, 6, rfl, dL5, dS5, wS.pos, wS.sz, pz, by omega, by omega, fun B1 v1 H6 s7 nB1 hB1 dB1 => ?_⟩
        refine ⟨vS, rfl, vL, rfl, rfl, rfl, vL, vS, qs, x, qS, 4, 6, rfl, dp_same s7 _ _ dL5, dp_same s7 _ _ dS5, wS.pos, wS.sz, pz, by omega, by omega, fun B2 v2 H7 s8 nB2 hB2 dB2 => ?_⟩
        refine ⟨vL, rfl, vL, dV, qs, x, 1, 1, 6, rfl, dp_same (s7.trans s8) _ _ dL5, R.dd _, by decide, sz_one, pz, by omega, by omega, fun B3 v3 H8 s9 nB3 hB3 dB3 => ?_⟩
        refine ⟨(by decide : 3 ≤ sizeLine), fun M nM => ?_⟩
        have sM := same_upd (o := .lst [.ref B1, .ref B2, .ref B3]) nM
        have hM0 : (upd H8 M (.lst [.ref B1, .ref B2, .ref B3])) M = some (.lst [.ref B1, .ref B2, .ref B3]) := upd_same
        have rl : (roomsQ qS qs).length ≤ 1000 := by
          rw [roomsQ_len]
          omega
        have rl1 : (roomsQ 1 qs).length ≤ 1000 := by
          rw [roomsQ_len]
          omega
        have m1 : Lq K (upd H8 M (.lst [.ref B1, .ref B2, .ref B3])) B1 (roomsQ qS qs) := Lq.same ⟨v1, hB1, dB1⟩ (s8.trans (s9.trans sM))
        have m2 : Lq K (upd H8 M (.lst [.ref B1, .ref B2, .ref B3])) B2 (roomsQ qS qs) := Lq.same ⟨v2, hB2, dB2⟩ (s9.trans sM)
        have m3 : Lq K (upd H8 M (.lst [.ref B1, .ref B2, .ref B3])) B3 (roomsQ 1 qs) := Lq.same ⟨v3, hB3, dB3⟩ sM
        have t9 : Same H5 (upd H8 M (.lst [.ref B1, .ref B2, .ref B3])) := s7.trans (s8.trans (s9.trans sM))
        -- the first test
        show tSeq _ _ _ [some (.ref a), some (.int (0 + (i : Int))), some (.ref p), some vL, some vS, some (.ref A1), some (.ref A2), some (.ref M), e8, e9, e10, e11, e12, e13, e14, e15] _
        refine ⟨.ref M, rfl, .ref A1, rfl, .ref A1, rfl, .ref A2, rfl, (by decide : 3 ≤ sizeLine), fun M2 nM2 => ?_⟩
        have sM2 := same_upd (o := .lst [.ref A1, .ref A1, .ref A2]) nM2
        refine ⟨.ref M, .ref M2, .list [.list (frs (roomsQ qS qs)), .list (frs (roomsQ qS qs)), .list (frs (roomsQ 1 qs))], rfl, .lst (SqL.of (sM2 _ _ hM0)) (.cons (m1.same sM2).dp (.cons (m2.same sM2).dp (.cons (m3.same sM2).dp .nil))), .lst (SqL.of upd_same) (.cons (l1.same (t9.trans sM2)).dp (.cons (l1.same (t9.trans sM2)).dp (.cons (l2.same (t9.trans sM2)).dp .nil))), ?_, fun H10 s10 => ⟨true, rfl, iteF ?_⟩⟩
        · refine okD_list (by decide : 3 ≤ 1000) fun z hz => ?_
          simp only [List.mem_cons, List.not_mem_nil, or_false] at hz
          rcases hz with rfl | rfl | rfl
          · exact okD_frs 2 _ rl
          · exact okD_frs 2 _ rl
          · exact okD_frs 2 _ rl1
        have t10 : Same (upd H8 M (.lst [.ref B1, .ref B2, .ref B3])) H10 := sM2.trans s10
        obtain ⟨aL, bL, xL, rfl, hL1, hL2, hL3⟩ := dp_row (dp_same (t9.trans t10) _ _ dL5)
        have wz : ∀ q ∈ roomsQ qS qs, 0 < q ∧ Sz 196 q := fun q hq => by
          have r := roomsQ_ok (c := 6) qs qS 4 wS.pos wS.sz pz q hq
          exact ⟨r.1, r.2.mono (by omega)⟩
        refine ⟨.ref M, rfl, M, _, 0, .ref B1, rfl, rfl, SqL.of (t10 _ _ hM0), atI_nat (j := 0) rfl, .ref aL, rfl, aL, _, 1, .int x, rfl, rfl, hL1, atI_nat (j := 1) rfl, rfl, rfl, .ref B1, roomsQ qS qs, x, 196, rfl, .inl (m1.same t10).dp, wz, by rw [roomsQ_len]; omega, by decide, fun vr H11 s11 d11r => ?_⟩
        rw [panes_rooms (c := 6) qs qS wS.pos pz] at d11r
        refine ⟨.ref aL, rfl, vr, .ref aL, rowD qs x, rfl, d11r, dp_same (t9.trans (t10.trans s11)) _ _ dL5, okD_row 2 qs x (by omega), fun H12 s12 => ⟨true, rfl, iteF ?_⟩⟩
        have t12 : Same (upd H8 M (.lst [.ref B1, .ref B2, .ref B3])) H12 := t10.trans (s11.trans s12)
        have T12 : Same H5 H12 := t9.trans t12
        have hM12 := t12 _ _ hM0
        obtain ⟨w1, hB12, dB12⟩ := m1.same t12
        -- told[0].append('more')
        refine ⟨.ref M, rfl, M, _, 0, .ref B1, rfl, rfl, SqL.of hM12, atI_nat (j := 0) rfl, .inl ⟨rfl, _, SqL.of hB12⟩, B1, _, _, rfl, rfl, hB12, ?_, ?_⟩
        · rw [dps_len dB12, frs_len]
          exact small1000 rl
        have cA : Chg B1 H12 (upd H12 B1 (.lst (w1 ++ [V.str "more"]))) := chg_upd
        have nMB1 : M ≠ B1 := by
          have : (s8.trans s9) _ _ hB1 = (s8.trans s9) _ _ hB1 := rfl
          exact (ne_of_none ((s8.trans s9) _ _ hB1) nM).symm
        have n31 : B3 ≠ B1 := (ne_of_none (s8 _ _ hB1) nB3).symm
        have m3' := (m3.same t12).chg cA hB12 n31
        obtain ⟨w3, hB33, dB33⟩ := m3'
        -- told[2].reverse()
        refine ⟨.ref M, rfl, M, _, 2, .ref B3, rfl, rfl, SqL.of (cA _ _ nMB1 hM12), atI_nat (j := 2) rfl, .inl ⟨rfl, _, SqL.of hB33⟩, B3, _, rfl, rfl, hB33, ?_⟩
        have cB : Chg B3 (upd H12 B1 (.lst (w1 ++ [V.str "more"]))) (upd (upd H12 B1 (.lst (w1 ++ [V.str "more"]))) B3 (.lst w3.reverse)) := chg_upd
        have nA11 : A1 ≠ B1 := l1.ne nB1
        have nA13 : A1 ≠ B3 := l1.ne ((s7.trans s8).free nB3)
        have nA21 : A2 ≠ B1 := l2.ne nB1
        have nA23 : A2 ≠ B3 := l2.ne ((s7.trans s8).free nB3)
        have k1 := ((l1.same T12).chg cA hB12 nA11).chg cB hB33 nA13
        have k2 := ((l2.same T12).chg cA hB12 nA21).chg cB hB33 nA23
        have kL := dp_chg cB hB33 _ _ (noL_row qs x) (dp_chg cA hB12 _ _ (noL_row qs x) (dp_same T12 _ _ dL5))
        have kS := dp_chg cB hB33 _ _ (noL_fr _) (dp_chg cA hB12 _ _ (noL_fr _) (dp_same T12 _ _ dS5))
        have bx12 : Bx H12 p _ := b3.same (t5.trans T12)
        have npB1 : p ≠ B1 := ((b3.same t5).ne nB1).symm
        have npB3 : p ≠ B3 := ((b3.same t5).ne ((s7.trans s8).free nB3)).symm
        have bx13 := (bx12.other (o := .lst (w1 ++ [V.str "more"])) npB1).other (o := .lst w3.reverse) npB3
        have sm13 : Same H0' (upd (upd H12 B1 (.lst (w1 ++ [V.str "more"]))) B3 (.lst w3.reverse)) := by
          have z := s3.trans (t5.trans T12)
          refine Same.new_upd (Same.new_upd z ?_) ?_
          · exact (s3.trans t5).free nB1
          · exact (s3.trans (t5.trans (s7.trans s8))).free nB3
        generalize (upd (upd H12 B1 (.lst (w1 ++ [V.str "more"]))) B3 (.lst w3.reverse)) = H13 at *
        -- asked again
        refine ⟨.ref aL, rfl, vS, rfl, rfl, rfl, .ref aL, vS, qs, x, qS, 4, 6, rfl, kL, kS, wS.pos, wS.sz, pz, by omega, by omega, fun C1 c1 H14 s14 nC1 hC1 dC1 => ?_⟩
        refine ⟨.ref aL, rfl, .ref aL, dV, qs, x, 1, 1, 6, rfl, dp_same s14 _ _ kL, R.dd _, by decide, sz_one, pz, by omega, by omega, fun C2 c2 H15 s15 nC2 hC2 dC2 => ?_⟩
        refine ⟨(by decide : 2 ≤ sizeLine), fun N1 nN1 => ?_⟩
        have sN1 := same_upd (o := .lst [.ref C1, .ref C2]) nN1
        refine ⟨.ref A1, rfl, .ref A2, rfl, (by decide : 2 ≤ sizeLine), fun N2 nN2 => ?_⟩
        have sN2 := same_upd (o := .lst [.ref A1, .ref A2]) nN2
        have t16 := s14.trans (s15.trans (sN1.trans sN2))
        refine ⟨.ref N1, .ref N2, .list [.list (frs (roomsQ qS qs)), .list (frs (roomsQ 1 qs))], rfl, .lst (SqL.of (sN2 _ _ upd_same)) (.cons (Lq.same ⟨c1, hC1, dC1⟩ (s15.trans (sN1.trans sN2))).dp (.cons (Lq.same ⟨c2, hC2, dC2⟩ (sN1.trans sN2)).dp .nil)), .lst (SqL.of upd_same) (.cons (k1.same t16).dp (.cons (k2.same t16).dp .nil)), ?_, fun H17 s17 => ⟨true, rfl, iteF ?_⟩⟩
        · refine okD_list (by decide : 2 ≤ 1000) fun z hz => ?_
          simp only [List.mem_cons, List.not_mem_nil, or_false] at hz
          rcases hz with rfl | rfl
          · exact okD_frs 2 _ rl
          · exact okD_frs 2 _ rl1
        have b17 := bx13.same (t16.trans s17)
        have S17 : Same H0' H17 := sm13.trans (t16.trans s17)
        -- weights, last
        refine ⟨.ref p, rfl, p, _, rfl, b17, by omega, fun L us H18 ws wq wne wlen c18 b18 nL nLp hLw dLw => ?_⟩
        have lw18 : Lq K H18 L ws := ⟨us, hLw, dLw⟩
        refine ⟨.ref p, rfl, 1, rfl, (by decide : 3 ≤ sizeLine), fun l nl => ?_⟩
        have sl := same_upd (o := .lst [.int 0, .int 1, .int (-1)]) nl
        refine ⟨p, l, _, _, rfl, b18.same sl, by omega, upd_same, b18.ne nl, by simp, (by decide : 3 < 1000), fun vy H19 hv c19 b19 => ⟨_, _, rfl, ?_⟩⟩
        have hy : ∃ y : Int, vy = .int y := by
          simp only [List.mem_cons, List.not_mem_nil, or_false] at hv
          rcases hv with rfl | rfl | rfl <;> exact ⟨_, rfl⟩
        obtain ⟨y, rfl⟩ := hy
        have lw19 : Lq K H19 L ws := (b18.same sl).lq c19 (lw18.same sl) nLp
        have S19 : Same H0' H19 := Same.chg_new S17 np (c18.trans ((Chg.of_same sl).trans c19))
        have wz4 : ∀ q ∈ ws, 0 < q ∧ Sz 4 q := fun q hq => ⟨(wq q hq).pos, (wq q hq).sz⟩
        -- panes
        refine ⟨.ref L, rfl, .ref L, ws, 4, rfl, lw19.dp, wz4, by omega, by decide, fun vP H21 s21 dP => ?_⟩
        have lw21 := lw19.same s21
        -- told
        refine ⟨.ref L, rfl, .int y, rfl, rfl, rfl, .ref L, ws, y, 4, rfl, .inl lw21.dp, wz4, by omega, by decide, fun r1 H22 s22 d1 => ?_⟩
        obtain ⟨us22, hL22, dL22⟩ := lw21.same s22
        refine ⟨.int y, rfl, .ref L, rfl, L, _, rfl, .inl ⟨SqL.of hL22, fun t nt => ?_⟩⟩
        have st := same_upd (o := .tup us22) nt
        refine ⟨rfl, rfl, .ref t, ws, y, 4, rfl, .inr (.tup (SqT.of upd_same) (dps_same st _ _ dL22)), wz4, by omega, by decide, fun r2 H23 s23 d2 => ?_⟩
        refine ⟨.ref L, rfl, .ref L, ws, 0, 4, rfl, .inl (lw21.same (s22.trans (st.trans s23))).dp, wz4, by omega, by decide, fun r3 H24 s24 d3 => ?_⟩
        refine ⟨(by decide : 3 ≤ sizeLine), fun M3 nM3 => ?_⟩
        have sM3 := same_upd (o := .lst [r1, r2, r3]) nM3
        have t25 := s22.trans (st.trans (s23.trans (s24.trans sM3)))
        have e1r := dp_same (st.trans (s23.trans (s24.trans sM3))) _ _ d1
        have e2r := dp_same (s24.trans sM3) _ _ d2
        have e3r := dp_same sM3 _ _ d3
        have dP25 := dp_same t25 _ _ dP
        have hM3 : (upd H24 M3 (.lst [r1, r2, r3])) M3 = some (.lst [r1, r2, r3]) := upd_same
        -- the test of told
        show tSeq _ _ _ [some (.ref a), some (.int (0 + (i : Int))), some (.ref p), some (.ref aL), some vS, some (.ref A1), some (.ref A2), some (.ref M3), some (.ref L), some (.int y), some vP, e11, e12, e13, e14, e15] _
        refine ⟨.ref M3, rfl, vP, rfl, .int y, rfl, (by decide : 2 ≤ sizeLine), fun t1 nt1 => ⟨vP, rfl, .int y, rfl, (by decide : 2 ≤ sizeLine), fun t2 nt2 => ⟨vP, rfl, (by decide : 2 ≤ sizeLine), fun t3 nt3 => ⟨(by decide : 3 ≤ sizeLine), fun N3 nN3 => ?_⟩⟩⟩⟩
        have z1 := same_upd (o := .tup [vP, .int y]) nt1
        have z2 := same_upd (o := .tup [vP, .int y]) nt2
        have z3 := same_upd (o := .tup [vP, .int 0]) nt3
        have z4 := same_upd (o := .lst [.ref t1, .ref t2, .ref t3]) nN3
        have g1 : Dp K _ (.ref t1) (rowD (panesQ ws) y) := .tup (SqT.of (upd_same (H := upd H24 M3 (.lst [r1, r2, r3])) (a := t1) (o := .tup [vP, .int y]))) (.cons (dp_same z1 _ _ dP25) (.cons (.int y) .nil))
        have g2 : Dp K _ (.ref t2) (rowD (panesQ ws) y) := .tup (SqT.of (upd_same (a := t2) (o := .tup [vP, .int y]))) (.cons (dp_same (z1.trans z2) _ _ dP25) (.cons (.int y) .nil))
        have g3 : Dp K _ (.ref t3) (rowD (panesQ ws) 0) := .tup (SqT.of (upd_same (a := t3) (o := .tup [vP, .int 0]))) (.cons (dp_same (z1.trans (z2.trans z3)) _ _ dP25) (.cons (.int 0) .nil))
        have Z := z1.trans (z2.trans (z3.trans z4))
        have pl : (panesQ ws).length ≤ 1000 := by
          rw [panesQ_len]
          omega
        refine ⟨.ref M3, .ref N3, .list [rowD (panesQ ws) y, rowD (panesQ ws) y, rowD (panesQ ws) 0], rfl, .lst (SqL.of (Z _ _ hM3)) (.cons (dp_same Z _ _ e1r) (.cons (dp_same Z _ _ e2r) (.cons (dp_same Z _ _ e3r) .nil))), .lst (SqL.of upd_same) (.cons (dp_same (z2.trans (z3.trans z4)) _ _ g1) (.cons (dp_same (z3.trans z4) _ _ g2) (.cons (dp_same z4 _ _ g3) .nil))), ?_, fun H26 s26 => ⟨true, rfl, iteF ?_⟩⟩
        · refine okD_list (by decide : 3 ≤ 1000) fun z hz => ?_
          simp only [List.mem_cons, List.not_mem_nil, or_false] at hz
          rcases hz with rfl | rfl | rfl
          · exact okD_row 1 _ _ pl
          · exact okD_row 1 _ _ pl
          · exact okD_row 1 _ _ pl
        have t26 := Z.trans s26
        have T26 := s21.trans (t25.trans t26)
        obtain ⟨us26, hL26, dL26⟩ := lw19.same T26
        obtain ⟨w0, wr, rfl⟩ : ∃ w0 wr, ws = w0 :: wr := by
          cases ws with
          | nil => exact absurd rfl wne
          | cons w0 wr => exact ⟨w0, wr, rfl⟩
        obtain ⟨u0, ur, rfl⟩ : ∃ u0 ur, us26 = u0 :: ur := by
          cases us26 with
          | nil => cases dL26
          | cons u0 ur => exact ⟨u0, ur, rfl⟩
        have du0 : Dp K H26 u0 (frD w0) := by
          cases dL26 with
          | cons h _ => exact h
        have pzp := panesQ_ok (c := 4) (w0 :: wr) wz4
        have plen : (panesQ (w0 :: wr)).length ≤ 12 := by
          rw [panesQ_len]
          omega
        have w0z := wz4 w0 (List.mem_cons_self ..)
        -- the row's rooms are the rooms
        refine ⟨.ref M3, rfl, M3, _, 0, r1, rfl, rfl, SqL.of (t26 _ _ hM3), atI_nat (j := 0) rfl, .ref L, rfl, L, _, 0, u0, rfl, rfl, SqL.of hL26, atI_nat (j := 0) rfl, rfl, rfl, r1, u0, panesQ (w0 :: wr), y, w0, 4, 18, rfl, dp_same t26 _ _ e1r, du0, w0z.1, w0z.2, pzp, by omega, by omega, fun C3 c3 H27 s27 nC3 hC3 dC3 => ?_⟩
        rw [rooms_panes w0 wr (fun q hq => (wz4 q hq).1)] at dC3
        refine ⟨.ref L, rfl, .ref C3, .ref L, .list (frs (w0 :: wr)), rfl, .lst (SqL.of hC3) dC3, (lw19.same (T26.trans s27)).dp, okD_frs 3 _ (by omega), fun H28 s28 => ⟨true, rfl, iteF ?_⟩⟩
        have b28 := b19.same (T26.trans (s27.trans s28))
        have S28 : Same H0' H28 := S19.trans (T26.trans (s27.trans s28))
        -- by
        refine ⟨.ref p, rfl, p, 3, _, rfl, b28, by omega, by decide, by decide, fun r5 H29 h50 h51 c29 b29 => ?_⟩
        refine ⟨_, _, rfl, rfl, .ref p, rfl, p, 3, _, rfl, b29, by omega, by decide, by decide, fun r6 H30 h60 h61 c30 b30 => ?_⟩
        refine ⟨_, _, rfl, rfl, _, _, 2, rfl, by omega, by omega, by omega, by decide, by decide, fun vB H31 s31 dB31 => ?_⟩
        have wB : WtQ 2 (Rat.divInt (1 + r5) (1 + r6)) := wt_fr (by omega) (by omega) (by omega) (by omega)
        generalize Rat.divInt (1 + r5) (1 + r6) = qB at *
        have b31 := b30.same s31
        have S31 : Same H0' H31 := Same.chg_new S28 np (c29.trans (c30.trans (Chg.of_same s31)))
        -- few
        show tSeq _ _ _ [some (.ref a), some (.int (0 + (i : Int))), some (.ref p), some (.ref aL), some vS, some (.ref A1), some (.ref A2), some (.ref M3), some (.ref L), some (.int y), some vP, some vB, e12, e13, e14, e15] _
        refine ⟨.ref p, rfl, p, 12, _, rfl, b31, by omega, by decide, by decide, fun r7 H32 h70 h71 c32 b32 => ?_⟩
        refine ⟨_, _, rfl, rfl, 1 + r7, rfl, by omega, by omega, fun D nD => lc_it walk_range (fun i H2 => ∃ (vs : List V) (fs : List Rat), Chg p H31 H2 ∧ Bx H2 p (200 + 2 * i) ∧ H2 D = some (.lst vs) ∧ DpAll K H2 vs (frs fs) ∧ (∀ q ∈ fs, WtQ 3 q) ∧ fs.length = i) ?_ (fun _ _ _ _ => trivial) ?_ ?_⟩
        · exact ⟨[], [], c32.trans (Chg.of_same (same_upd nD)), (b32.same (same_upd nD)).mono (by omega), upd_same, .nil, by simp, rfl⟩
        · rintro i z H2 H2' hi2 ⟨vs, fs, C2, B2, hD, dD, pq2, hl2⟩ ⟨rfl, rfl⟩
          have nDp : D ≠ p := b32.ne nD
          have nDH : H31 D = none := c32.free nDp nD
          refine ⟨rfl, .ref p, rfl, p, 4, _, rfl, B2, by omega, by decide, by decide, fun r8 H3 h80 h81 c3' b3' => ?_⟩
          refine ⟨_, _, rfl, rfl, .ref p, rfl, p, 4, _, rfl, b3', by omega, by decide, by decide, fun r9 H4 h90 h91 c4' b4' => ?_⟩
          refine ⟨_, _, rfl, rfl, _, _, 3, rfl, by omega, by omega, by omega, by decide, by decide, fun v H5' s5' d5' => ?_⟩
          have C5 := c3'.trans (c4'.trans (Chg.of_same s5'))
          have hD5 : H5' D = some (.lst vs) := C5 _ _ nDp hD
          refine ⟨vs, hD5, ?_, vs ++ [v], fs ++ [Rat.divInt (1 + r8) (1 + r9)], (C2.trans C5).new_upd nDH, ((b4'.same s5').other nDp.symm).mono (by omega), upd_same, ?_, ?_, ?_⟩
          · rw [dps_len dD, frs_len]
            exact small1000 (by omega)
          · exact dps_put hD5 (noL_frs _) (dps_snoc (B2.dps C5 dD (noL_frs _)) d5')
          · intro q5 h5
            rcases List.mem_append.mp h5 with h5 | h5
            · exact pq2 _ h5
            · rw [List.mem_singleton.mp h5]
              exact wt_fr (by omega) (by omega) (by omega) (by omega)
          · rw [List.length_append, hl2]
            rfl
        · rintro H33 ⟨vs, fs, C33, B33, hD, dD, wf, hlf⟩
          have flen : fs.length ≤ 12 := by omega
          have dB33 := b31.dp C33 dB31 (noL_fr _)
          have S33 : Same H0' H33 := Same.chg_new S31 np C33
          have vlen : vs.length = fs.length := by rw [dps_len dD, frs_len]
          have wz3 : ∀ q ∈ fs, 0 < q ∧ Sz 3 q := fun q hq => ⟨(wf q hq).pos, (wf q hq).sz⟩
          -- so many times as great
          refine ⟨.ref D, rfl, D, rfl, ⟨_, SqL.of hD⟩, fun D2 nD2 => lc_it (walk_list (xs := vs)) (fun i H2 => ∃ us2 : List V, Same H33 H2 ∧ H2 D2 = some (.lst us2) ∧ DpAll K H2 us2 (frs ((fs.map (qB * ·)).take i)) ∧ us2.length = i) ⟨[], same_upd nD2, upd_same, .nil, rfl⟩ ?_ ?_ ?_⟩
          · rintro i H2 _ ⟨us2, s2, _⟩
            exact SqL.of (s2 _ _ hD)
          · rintro i z H2 H2' hi2 ⟨us2, s2, hD2, dD2, hl2⟩ ⟨rfl, hz⟩
            obtain ⟨d, hd, dz⟩ := dps_get dD hz
            obtain ⟨q1, hq1, rfl⟩ := frs_get hd
            have z3 := wz3 q1 (List.mem_of_getElem? hq1)
            refine ⟨rfl, vB, rfl, z, rfl, vB, z, qB, q1, 2, 3, rfl, dp_same s2 _ _ dB33, dp_same s2 _ _ dz, wB.sz, z3.2, by decide, trivial, fun v H3 s3' d3' => ?_⟩
            have hD3 := s3' _ _ hD2
            have tk : (fs.map (qB * ·)).take (i + 1) = (fs.map (qB * ·)).take i ++ [qB * q1] := by
              rw [List.take_add_one, List.getElem?_map, hq1]
              rfl
            refine ⟨us2, hD3, small1000 (by omega), us2 ++ [v], Same.new_upd (s2.trans s3') nD2, upd_same, ?_, by rw [List.length_append, hl2]; rfl⟩
            rw [tk]
            exact dps_put hD3 (noL_frs _) (dps_snoc (dps_same s3' _ _ dD2) d3')
          · rintro H34 ⟨us2, s34, hD2, dD2, hl2⟩
            rw [show (fs.map (qB * ·)).take vs.length = fs.map (qB * ·) from List.take_of_length_le (by rw [List.length_map]; omega)] at dD2
            have wz5 : ∀ q ∈ fs.map (qB * ·), 0 < q ∧ Sz 5 q := fun q hq => by
              obtain ⟨q1, h1, rfl⟩ := List.mem_map.mp hq
              exact ⟨Rat.mul_pos wB.pos (wz3 q1 h1).1, sz_mul wB.sz (wz3 q1 h1).2⟩
            refine ⟨.ref D2, fs.map (qB * ·), 0, 5, rfl, .inl (.lst (SqL.of hD2) dD2), wz5, by rw [List.length_map]; omega, by decide, fun f1 H35 s35 df1 => ?_⟩
            rw [panesQ_scale qB wB.pos fs (fun q hq => (wz3 q hq).1)] at df1
            refine ⟨.ref D, rfl, .ref D, fs, 0, 3, rfl, .inl (.lst (SqL.of ((s34.trans s35) _ _ hD)) (dps_same (s34.trans s35) _ _ dD)), wz3, by omega, by decide, fun f2 H36 s36 df2 => ?_⟩
            refine ⟨f1, f2, rowD (panesQ fs) 0, rfl, dp_same s36 _ _ df1, df2, okD_row 2 _ _ (by rw [panesQ_len]; omega), fun H37 s37 => ⟨true, rfl, iteF ?_⟩⟩
            exact ⟨_, _, _, _, _, _, _, _, _, _, _, _, _, _, _, rfl, s0.trans (S33.trans (s34.trans (s35.trans (s36.trans s37))))⟩
      · rintro σ H2 ⟨e1, e2, e3, e4, e5, e6, e7, e8, e9, e10, e11, e12, e13, e14, e15, rfl, s2⟩
        -- known ones
        refine ⟨(by decide : 2 ≤ sizeLine), fun a1 n1 => ⟨(by decide : 1 ≤ sizeLine), fun l1 nl1 => ?_⟩⟩
        have hk3 := new_q (K := K) (t := 3) (u := 1) n1 3 rfl rfl
        refine ⟨.ref l1, [3], 0, 2, rfl, .inl (new_lst nl1 (.cons hk3 .nil)), ?_, by decide, by decide, fun r1 H3 s3 d1 => ?_⟩
        · intro q0 h0
          rw [List.mem_singleton.mp h0]
          exact ⟨by decide, by decide, by decide⟩
        refine ⟨(by decide : 2 ≤ sizeLine), fun a2 n2 => ⟨(by decide : 1 ≤ sizeLine), fun a3 n3 => ⟨(by decide : 2 ≤ sizeLine), fun a4 n4 => ?_⟩⟩⟩
        have hrow := new_rowD (K := K) (w := 0) n4 (new_tup (ds := frs [Rat.divInt 1 2]) n3 (.cons (new_fr n2 (by decide) (by decide)) .nil))
        refine ⟨.ref a4, dV, [Rat.divInt 1 2], 0, 1, 1, 6, rfl, hrow, R.dd _, by decide, sz_one, ?_, by decide, by decide, fun L2 u2 H4 s4 nL2 hL2 dL2 => ?_⟩
        · intro q0 h0
          rw [List.mem_singleton.mp h0]
          exact (pane_fr (by decide) (by decide) (by decide)).z
        rw [known_rooms] at dL2
        have dr2 : Dp K H4 (.ref L2) (.list (frs [1, Rat.divInt 1 3])) := .lst (SqL.of hL2) dL2
        have dr1 := dp_same s4 _ _ (dp_same (same3 n2 n3 n4) _ _ d1)
        clear hrow hk3
        refine ⟨(by decide : 2 ≤ sizeLine), fun a5 n5 => ⟨(by decide : 2 ≤ sizeLine), fun a6 n6 => ⟨(by decide : 2 ≤ sizeLine), fun l3 nl3 => ?_⟩⟩⟩
        have h1 := dp_same (same_upd (o := .tup [.int 3, .int 1]) n6) _ _ (new_q (K := K) (t := 1) (u := 1) n5 1 rfl rfl)
        have h3 := new_q (K := K) (t := 3) (u := 1) n6 3 rfl rfl
        refine ⟨.ref l3, [1, 3], 0, 2, rfl, .inl (new_lst (ds := frs [1, 3]) nl3 (.cons h1 (.cons h3 .nil))), ?_, by decide, by decide, fun r3 H5 s5 d3 => ?_⟩
        · intro q0 h0
          simp only [List.mem_cons, List.not_mem_nil, or_false] at h0
          rcases h0 with rfl | rfl
          · exact ⟨by decide, by decide, by decide⟩
          · exact ⟨by decide, by decide, by decide⟩
        rw [known_panes] at d3
        refine ⟨(by decide : 3 ≤ sizeLine), fun l4 nl4 => ?_⟩
        have hl4 := new_lst (K := K) (ds := [rowD [] 0, .list (frs [1, Rat.divInt 1 3]), rowD [Rat.divInt (-1) 2] 0]) nl4 (.cons (dp_same s5 _ _ (dp_same (same3 n5 n6 nl3) _ _ dr1)) (.cons (dp_same s5 _ _ (dp_same (same3 n5 n6 nl3) _ _ dr2)) (.cons d3 .nil)))
        clear h1 h3 dr1 dr2 d3
        generalize upd H5 l4 (.lst [r1, .ref L2, r3]) = H6 at *
        -- what is due of them
        refine ⟨_, rfl, Nat.zero_le _, fun c1 m1 => ⟨(by decide : 2 ≤ sizeLine), fun c2 m2 => ⟨(by decide : 2 ≤ sizeLine), fun c3 m3 => ⟨(by decide : 2 ≤ sizeLine), fun c4 m4 => ⟨(by decide : 2 ≤ sizeLine), fun c5 m5 => ⟨1, rfl, (by decide : 2 ≤ sizeLine), fun c6 m6 => ⟨(by decide : 1 ≤ sizeLine), fun c7 m7 => ⟨(by decide : 2 ≤ sizeLine), fun c8 m8 => ⟨(by decide : 3 ≤ sizeLine), fun c9 m9 => ?_⟩⟩⟩⟩⟩⟩⟩⟩⟩
        have q2 := new_rowD (K := K) (qs := []) (w := 0) m2 (new_tup m1 .nil)
        have q5 := new_lst (K := K) (ds := frs [1, Rat.divInt 1 3]) m5 (.cons (dp_same (same_upd (o := .tup [.int 1, .int 3]) m4) _ _ (new_q (t := 1) (u := 1) m3 1 rfl rfl)) (.cons (new_fr m4 (by decide) (by decide)) .nil))
        have q8 := new_rowD (K := K) (w := 0) m8 (new_tup (ds := frs [Rat.divInt (-1) 2]) m7 (.cons (new_fr m6 (by decide) (by decide)) .nil))
        refine ⟨.ref l4, .ref c9, .list [rowD [] 0, .list (frs [1, Rat.divInt 1 3]), rowD [Rat.divInt (-1) 2] 0], rfl, ?_, ?_, rfl, fun H7 _ => q _⟩
        · exact dp_same (same_upd m9) _ _ (dp_same (same3 m6 m7 m8) _ _ (dp_same (same3 m3 m4 m5) _ _ (dp_same (same2 m1 m2) _ _ hl4)))
        · exact new_lst m9 (.cons (dp_same (same3 m6 m7 m8) _ _ (dp_same (same3 m3 m4 m5) _ _ q2)) (.cons (dp_same (same3 m6 m7 m8) _ _ q5) (.cons q8 .nil)))
end
/-! ### what the top has written -/
theorem all_mk {l : PySem.W.OpenLaw} {w : World} {K : PySem.W.Frag} {h : Heap} {mg : Str → Option Value} {fa : Addr} (X : K.In h) (G : h.Ns mainGlobals mg) (hfa : mg "law" = some (.ref fa))
    {f0 : Addr} {od0 an0 : Option Addr} {sl0 : Array (Option Value)} {oc0 dc0 pm0 cd0 ct0 : Value}
    {kV0 : Value}
    {f1 : Addr} {od1 an1 : Option Addr} {sl1 : Array (Option Value)} {oc1 dc1 pm1 cd1 ct1 : Value}
    {kV1 : Value}
    {f2 : Addr} {od2 an2 : Option Addr} {sl2 : Array (Option Value)} {oc2 dc2 pm2 cd2 ct2 : Value}
    {kV2 : Value}
    {f3 : Addr} {od3 an3 : Option Addr} {sl3 : Array (Option Value)} {oc3 dc3 pm3 cd3 ct3 : Value}
    {kV3 : Value}
    {f4 : Addr} {od4 an4 : Option Addr} {sl4 : Array (Option Value)} {oc4 dc4 pm4 cd4 ct4 : Value}
    {kV4 : Value}
    {f5 : Addr} {od5 an5 : Option Addr} {sl5 : Array (Option Value)} {oc5 dc5 pm5 cd5 ct5 : Value}
    {kV5 : Value}
    {f6 : Addr} {od6 an6 : Option Addr} {sl6 : Array (Option Value)} {oc6 dc6 pm6 cd6 ct6 : Value}
    {D6 : Addr}
    {T6_0 : Addr} {tk6_0_0 tk6_0_1 : Tok} {tn6_0 : Nat} {to6_0 : Option Addr} {ts6_0 : Array (Option Value)}
    {f7 : Addr} {od7 an7 : Option Addr} {sl7 : Array (Option Value)} {oc7 dc7 pm7 cd7 ct7 : Value}
    {D7 : Addr}
    {dk7_0 : Tok}
    {f8 : Addr} {od8 an8 : Option Addr} {sl8 : Array (Option Value)} {oc8 dc8 pm8 cd8 ct8 : Value}
    {kV8 : Value}
    {f9 : Addr} {od9 an9 : Option Addr} {sl9 : Array (Option Value)} {oc9 dc9 pm9 cd9 ct9 : Value}
    {kV9 : Value}
    {f10 : Addr} {od10 an10 : Option Addr} {sl10 : Array (Option Value)} {oc10 dc10 pm10 cd10 ct10 : Value}
    {kV10 : Value}
    {f11 : Addr} {od11 an11 : Option Addr} {sl11 : Array (Option Value)} {oc11 dc11 pm11 cd11 ct11 : Value}
    {kV11 : Value}
    {f12 : Addr} {od12 an12 : Option Addr} {sl12 : Array (Option Value)} {oc12 dc12 pm12 cd12 ct12 : Value}
    {kV12 : Value}
    {f13 : Addr} {od13 an13 : Option Addr} {sl13 : Array (Option Value)} {oc13 dc13 pm13 cd13 ct13 : Value}
    {kV13 : Value}
    {f14 : Addr} {od14 an14 : Option Addr} {sl14 : Array (Option Value)} {oc14 dc14 pm14 cd14 ct14 : Value}
    {kV14 : Value}
    {f15 : Addr} {od15 an15 : Option Addr} {sl15 : Array (Option Value)} {oc15 dc15 pm15 cd15 ct15 : Value}
    {kV15 : Value}
    {f16 : Addr} {od16 an16 : Option Addr} {sl16 : Array (Option Value)} {oc16 dc16 pm16 cd16 ct16 : Value}
    {kV16 : Value}
    {f17 : Addr} {od17 an17 : Option Addr} {sl17 : Array (Option Value)} {oc17 dc17 pm17 cd17 ct17 : Value}
    {kV17 : Value}
    {f18 : Addr} {od18 an18 : Option Addr} {sl18 : Array (Option Value)} {oc18 dc18 pm18 cd18 ct18 : Value}
    {kV18 : Value}
    {f19 : Addr} {od19 an19 : Option Addr} {sl19 : Array (Option Value)} {oc19 dc19 pm19 cd19 ct19 : Value}
    {kV19 : Value}
    {f20 : Addr} {od20 an20 : Option Addr} {sl20 : Array (Option Value)} {oc20 dc20 pm20 cd20 ct20 : Value}
    {kV20 : Value}
    {f21 : Addr} {od21 an21 : Option Addr} {sl21 : Array (Option Value)} {oc21 dc21 pm21 cd21 ct21 : Value}
    {kV21 : Value}
    {f22 : Addr} {od22 an22 : Option Addr} {sl22 : Array (Option Value)} {oc22 dc22 pm22 cd22 ct22 : Value}
    {kV22 : Value}
    {f23 : Addr} {od23 an23 : Option Addr} {sl23 : Array (Option Value)} {oc23 dc23 pm23 cd23 ct23 : Value}
    {kV23 : Value}
    {f24 : Addr} {od24 an24 : Option Addr} {sl24 : Array (Option Value)} {oc24 dc24 pm24 cd24 ct24 : Value}
    {kV24 : Value}
    {G0 : Addr} {gk0_0 gk0_1 : Tok} {gn0 : Nat} {go0 : Option Addr} {gs0 : Array (Option Value)}
    (a0 : PySem.W.nsIn K mainGlobals "common_part" = some (some (.ref f0))) (l0 : K.lookup f0 = some ⟨oc0, od0, .func (PySem.W.fnOf "common_part" "common_part" (defArgs sCommon) (defBody sCommon) (defScope sCommon) .none kV0 dc0 pm0 an0 cd0 ct0), sl0⟩) (c0 : PySem.W.codeIn K cd0 "common_part" = true) (k0 : PySem.W.keepIn K (.ref f0) = true)
    (a1 : PySem.W.nsIn K mainGlobals "fraction" = some (some (.ref f1))) (l1 : K.lookup f1 = some ⟨oc1, od1, .func (PySem.W.fnOf "fraction" "fraction" (defArgs sFraction) (defBody sFraction) (defScope sFraction) .none kV1 dc1 pm1 an1 cd1 ct1), sl1⟩) (c1 : PySem.W.codeIn K cd1 "fraction" = true) (k1 : PySem.W.keepIn K (.ref f1) = true)
    (a2 : PySem.W.nsIn K mainGlobals "plus" = some (some (.ref f2))) (l2 : K.lookup f2 = some ⟨oc2, od2, .func (PySem.W.fnOf "plus" "plus" (defArgs s_plus) (defBody s_plus) (defScope s_plus) .none kV2 dc2 pm2 an2 cd2 ct2), sl2⟩) (c2 : PySem.W.codeIn K cd2 "plus" = true) (k2 : PySem.W.keepIn K (.ref f2) = true)
    (a3 : PySem.W.nsIn K mainGlobals "minus" = some (some (.ref f3))) (l3 : K.lookup f3 = some ⟨oc3, od3, .func (PySem.W.fnOf "minus" "minus" (defArgs s_minus) (defBody s_minus) (defScope s_minus) .none kV3 dc3 pm3 an3 cd3 ct3), sl3⟩) (c3 : PySem.W.codeIn K cd3 "minus" = true) (k3 : PySem.W.keepIn K (.ref f3) = true)
    (a4 : PySem.W.nsIn K mainGlobals "times" = some (some (.ref f4))) (l4 : K.lookup f4 = some ⟨oc4, od4, .func (PySem.W.fnOf "times" "times" (defArgs s_times) (defBody s_times) (defScope s_times) .none kV4 dc4 pm4 an4 cd4 ct4), sl4⟩) (c4 : PySem.W.codeIn K cd4 "times" = true) (k4 : PySem.W.keepIn K (.ref f4) = true)
    (a5 : PySem.W.nsIn K mainGlobals "over" = some (some (.ref f5))) (l5 : K.lookup f5 = some ⟨oc5, od5, .func (PySem.W.fnOf "over" "over" (defArgs s_over) (defBody s_over) (defScope s_over) .none kV5 dc5 pm5 an5 cd5 ct5), sl5⟩) (c5 : PySem.W.codeIn K cd5 "over" = true) (k5 : PySem.W.keepIn K (.ref f5) = true)
    (a6 : PySem.W.nsIn K mainGlobals "rooms_of" = some (some (.ref f6))) (l6 : K.lookup f6 = some ⟨oc6, od6, .func (PySem.W.fnOf "rooms_of" "rooms_of" (defArgs sRoomsOf) (defBody sRoomsOf) (defScope sRoomsOf) .none (.ref D6) dc6 pm6 an6 cd6 ct6), sl6⟩) (c6 : PySem.W.codeIn K cd6 "rooms_of" = true) (k6 : PySem.W.keepIn K (.ref f6) = true)
    (d6_0 : PySem.W.nsIn K D6 "first" = some (some (.ref T6_0))) (t6_0 : K.lookup T6_0 = some ⟨.type "tuple", to6_0, .seq #[.int (1) tk6_0_0, .int (1) tk6_0_1] tn6_0, ts6_0⟩)
    (a7 : PySem.W.nsIn K mainGlobals "row_of" = some (some (.ref f7))) (l7 : K.lookup f7 = some ⟨oc7, od7, .func (PySem.W.fnOf "row_of" "row_of" (defArgs sRowOf) (defBody sRowOf) (defScope sRowOf) .none (.ref D7) dc7 pm7 an7 cd7 ct7), sl7⟩) (c7 : PySem.W.codeIn K cd7 "row_of" = true) (k7 : PySem.W.keepIn K (.ref f7) = true)
    (d7_0 : PySem.W.nsIn K D7 "wall" = some (some (.int (0) dk7_0)))
    (a8 : PySem.W.nsIn K mainGlobals "_law_cell_at" = some (some (.ref f8))) (l8 : K.lookup f8 = some ⟨oc8, od8, .func (PySem.W.fnOf "_law_cell_at" "_law_cell_at" (defArgs sCell) (defBody sCell) (defScope sCell) .none kV8 dc8 pm8 an8 cd8 ct8), sl8⟩) (c8 : PySem.W.codeIn K cd8 "_law_cell_at" = true) (k8 : PySem.W.keepIn K (.ref f8) = true)
    (a9 : PySem.W.nsIn K mainGlobals "_law_box" = some (some (.ref f9))) (l9 : K.lookup f9 = some ⟨oc9, od9, .func (PySem.W.fnOf "_law_box" "_law_box" (defArgs sBox) (defBody sBox) (defScope sBox) .none kV9 dc9 pm9 an9 cd9 ct9), sl9⟩) (c9 : PySem.W.codeIn K cd9 "_law_box" = true) (k9 : PySem.W.keepIn K (.ref f9) = true)
    (a10 : PySem.W.nsIn K mainGlobals "_law_take" = some (some (.ref f10))) (l10 : K.lookup f10 = some ⟨oc10, od10, .func (PySem.W.fnOf "_law_take" "_law_take" (defArgs sTake) (defBody sTake) (defScope sTake) .none kV10 dc10 pm10 an10 cd10 ct10), sl10⟩) (c10 : PySem.W.codeIn K cd10 "_law_take" = true) (k10 : PySem.W.keepIn K (.ref f10) = true)
    (a11 : PySem.W.nsIn K mainGlobals "_law_of" = some (some (.ref f11))) (l11 : K.lookup f11 = some ⟨oc11, od11, .func (PySem.W.fnOf "_law_of" "_law_of" (defArgs sOf) (defBody sOf) (defScope sOf) .none kV11 dc11 pm11 an11 cd11 ct11), sl11⟩) (c11 : PySem.W.codeIn K cd11 "_law_of" = true) (k11 : PySem.W.keepIn K (.ref f11) = true)
    (a12 : PySem.W.nsIn K mainGlobals "_law_same" = some (some (.ref f12))) (l12 : K.lookup f12 = some ⟨oc12, od12, .func (PySem.W.fnOf "_law_same" "_law_same" (defArgs sSame) (defBody sSame) (defScope sSame) .none kV12 dc12 pm12 an12 cd12 ct12), sl12⟩) (c12 : PySem.W.codeIn K cd12 "_law_same" = true) (k12 : PySem.W.keepIn K (.ref f12) = true)
    (a13 : PySem.W.nsIn K mainGlobals "_law_frac" = some (some (.ref f13))) (l13 : K.lookup f13 = some ⟨oc13, od13, .func (PySem.W.fnOf "_law_frac" "_law_frac" (defArgs sFrac) (defBody sFrac) (defScope sFrac) .none kV13 dc13 pm13 an13 cd13 ct13), sl13⟩) (c13 : PySem.W.codeIn K cd13 "_law_frac" = true) (k13 : PySem.W.keepIn K (.ref f13) = true)
    (a14 : PySem.W.nsIn K mainGlobals "_law_plus" = some (some (.ref f14))) (l14 : K.lookup f14 = some ⟨oc14, od14, .func (PySem.W.fnOf "_law_plus" "_law_plus" (defArgs s__law_plus) (defBody s__law_plus) (defScope s__law_plus) .none kV14 dc14 pm14 an14 cd14 ct14), sl14⟩) (c14 : PySem.W.codeIn K cd14 "_law_plus" = true) (k14 : PySem.W.keepIn K (.ref f14) = true)
    (a15 : PySem.W.nsIn K mainGlobals "_law_less" = some (some (.ref f15))) (l15 : K.lookup f15 = some ⟨oc15, od15, .func (PySem.W.fnOf "_law_less" "_law_less" (defArgs s__law_less) (defBody s__law_less) (defScope s__law_less) .none kV15 dc15 pm15 an15 cd15 ct15), sl15⟩) (c15 : PySem.W.codeIn K cd15 "_law_less" = true) (k15 : PySem.W.keepIn K (.ref f15) = true)
    (a16 : PySem.W.nsIn K mainGlobals "_law_times" = some (some (.ref f16))) (l16 : K.lookup f16 = some ⟨oc16, od16, .func (PySem.W.fnOf "_law_times" "_law_times" (defArgs s__law_times) (defBody s__law_times) (defScope s__law_times) .none kV16 dc16 pm16 an16 cd16 ct16), sl16⟩) (c16 : PySem.W.codeIn K cd16 "_law_times" = true) (k16 : PySem.W.keepIn K (.ref f16) = true)
    (a17 : PySem.W.nsIn K mainGlobals "_law_over" = some (some (.ref f17))) (l17 : K.lookup f17 = some ⟨oc17, od17, .func (PySem.W.fnOf "_law_over" "_law_over" (defArgs s__law_over) (defBody s__law_over) (defScope s__law_over) .none kV17 dc17 pm17 an17 cd17 ct17), sl17⟩) (c17 : PySem.W.codeIn K cd17 "_law_over" = true) (k17 : PySem.W.keepIn K (.ref f17) = true)
    (a18 : PySem.W.nsIn K mainGlobals "_law_pane" = some (some (.ref f18))) (l18 : K.lookup f18 = some ⟨oc18, od18, .func (PySem.W.fnOf "_law_pane" "_law_pane" (defArgs sPane) (defBody sPane) (defScope sPane) .none kV18 dc18 pm18 an18 cd18 ct18), sl18⟩) (c18 : PySem.W.codeIn K cd18 "_law_pane" = true) (k18 : PySem.W.keepIn K (.ref f18) = true)
    (a19 : PySem.W.nsIn K mainGlobals "_law_row" = some (some (.ref f19))) (l19 : K.lookup f19 = some ⟨oc19, od19, .func (PySem.W.fnOf "_law_row" "_law_row" (defArgs sRow) (defBody sRow) (defScope sRow) .none kV19 dc19 pm19 an19 cd19 ct19), sl19⟩) (c19 : PySem.W.codeIn K cd19 "_law_row" = true) (k19 : PySem.W.keepIn K (.ref f19) = true)
    (a20 : PySem.W.nsIn K mainGlobals "_law_weight" = some (some (.ref f20))) (l20 : K.lookup f20 = some ⟨oc20, od20, .func (PySem.W.fnOf "_law_weight" "_law_weight" (defArgs sWeight) (defBody sWeight) (defScope sWeight) .none kV20 dc20 pm20 an20 cd20 ct20), sl20⟩) (c20 : PySem.W.codeIn K cd20 "_law_weight" = true) (k20 : PySem.W.keepIn K (.ref f20) = true)
    (a21 : PySem.W.nsIn K mainGlobals "_law_rooms" = some (some (.ref f21))) (l21 : K.lookup f21 = some ⟨oc21, od21, .func (PySem.W.fnOf "_law_rooms" "_law_rooms" (defArgs sRooms) (defBody sRooms) (defScope sRooms) .none kV21 dc21 pm21 an21 cd21 ct21), sl21⟩) (c21 : PySem.W.codeIn K cd21 "_law_rooms" = true) (k21 : PySem.W.keepIn K (.ref f21) = true)
    (a22 : PySem.W.nsIn K mainGlobals "_law_due_rooms" = some (some (.ref f22))) (l22 : K.lookup f22 = some ⟨oc22, od22, .func (PySem.W.fnOf "_law_due_rooms" "_law_due_rooms" (defArgs sDueRooms) (defBody sDueRooms) (defScope sDueRooms) .none kV22 dc22 pm22 an22 cd22 ct22), sl22⟩) (c22 : PySem.W.codeIn K cd22 "_law_due_rooms" = true) (k22 : PySem.W.keepIn K (.ref f22) = true)
    (a23 : PySem.W.nsIn K mainGlobals "_law_due_panes" = some (some (.ref f23))) (l23 : K.lookup f23 = some ⟨oc23, od23, .func (PySem.W.fnOf "_law_due_panes" "_law_due_panes" (defArgs sDuePanes) (defBody sDuePanes) (defScope sDuePanes) .none kV23 dc23 pm23 an23 cd23 ct23), sl23⟩) (c23 : PySem.W.codeIn K cd23 "_law_due_panes" = true) (k23 : PySem.W.keepIn K (.ref f23) = true)
    (a24 : PySem.W.nsIn K mainGlobals "law" = some (some (.ref f24))) (l24 : K.lookup f24 = some ⟨oc24, od24, .func (PySem.W.fnOf "law" "law" (defArgs s_law) (defBody s_law) (defScope s_law) .none kV24 dc24 pm24 an24 cd24 ct24), sl24⟩) (c24 : PySem.W.codeIn K cd24 "law" = true) (k24 : PySem.W.keepIn K (.ref f24) = true)
    (ga0 : PySem.W.nsIn K mainGlobals "ONE" = some (some (.ref G0))) (gl0 : K.lookup G0 = some ⟨.type "tuple", go0, .seq #[.int (1) gk0_0, .int (1) gk0_1] gn0, gs0⟩)
    (z0 : PySem.W.nsIn K mainGlobals "abs" = some none)
    (z1 : PySem.W.nsIn K mainGlobals "len" = some none)
    (z2 : PySem.W.nsIn K mainGlobals "int" = some none)
    (z3 : PySem.W.nsIn K mainGlobals "min" = some none)
    (z4 : PySem.W.nsIn K mainGlobals "range" = some none)
    (z5 : PySem.W.nsIn K mainGlobals "tuple" = some none)
    (z6 : PySem.W.nsIn K mainGlobals "zip" = some none)
    (z7 : PySem.W.nsIn K mainGlobals "isinstance" = some none)
    (z8 : PySem.W.nsIn K mainGlobals "dict" = some none)
    (z9 : PySem.W.nsIn K mainGlobals "list" = some none)
    (z10 : PySem.W.nsIn K mainGlobals "all" = some none)
    (z11 : PySem.W.nsIn K mainGlobals "bool" = some none)
    (z12 : PySem.W.nsIn K mainGlobals "str" = some none) :
    ∃ fd : FuncData, (∀ (s : Shared) (v : Value), BindsTo s fd ⟨[v], []⟩ [("_law_script", v)]) ∧ ∀ base : Heap, K.In base → base.Ns mainGlobals mg → FnOk l.prog w K mg base CX0 10 fa fd ["_law_script"] (spLaw K) := by
  have e := hfa.symm.trans (PySem.W.mg_of X G a24)
  cases e
  have F_common_part := fun_mk (st := sCommon) l0 c0 k0
  have b_common_part := F_common_part.binds (ps := ["one", "other"]) fun _ _ _ _ _ _ us hl => match us, hl with | [_, _], _ => rfl
  have g_common_part := PySem.W.mg_of X G a0
  have F_fraction := fun_mk (st := sFraction) l1 c1 k1
  have b_fraction := F_fraction.binds (ps := ["top", "bottom"]) fun _ _ _ _ _ _ us hl => match us, hl with | [_, _], _ => rfl
  have g_fraction := PySem.W.mg_of X G a1
  have F_plus := fun_mk (st := s_plus) l2 c2 k2
  have b_plus := F_plus.binds (ps := ["one", "other"]) fun _ _ _ _ _ _ us hl => match us, hl with | [_, _], _ => rfl
  have g_plus := PySem.W.mg_of X G a2
  have F_minus := fun_mk (st := s_minus) l3 c3 k3
  have b_minus := F_minus.binds (ps := ["one", "other"]) fun _ _ _ _ _ _ us hl => match us, hl with | [_, _], _ => rfl
  have g_minus := PySem.W.mg_of X G a3
  have F_times := fun_mk (st := s_times) l4 c4 k4
  have b_times := F_times.binds (ps := ["one", "other"]) fun _ _ _ _ _ _ us hl => match us, hl with | [_, _], _ => rfl
  have g_times := PySem.W.mg_of X G a4
  have F_over := fun_mk (st := s_over) l5 c5 k5
  have b_over := F_over.binds (ps := ["one", "other"]) fun _ _ _ _ _ _ us hl => match us, hl with | [_, _], _ => rfl
  have g_over := PySem.W.mg_of X G a5
  have F_rooms_of : FunD K "rooms_of" "rooms_of" (defArgs sRoomsOf) (defBody sRoomsOf) (defScope sRoomsOf) [] [("first", V.ref T6_0)] f6 _ := ⟨⟨oc6, od6, .none, .ref D6, dc6, pm6, an6, cd6, ct6, sl6, rfl, l6, c6, .inl ⟨rfl, rfl⟩, .inr ⟨D6, rfl, fun q hq => by
    simp only [List.mem_cons, List.not_mem_nil, or_false] at hq
    subst hq
    exact ⟨_, d6_0, rfl⟩⟩⟩, k6⟩
  have g_rooms_of := PySem.W.mg_of X G a6
  have F_row_of : FunD K "row_of" "row_of" (defArgs sRowOf) (defBody sRowOf) (defScope sRowOf) [] [("wall", V.int (0))] f7 _ := ⟨⟨oc7, od7, .none, .ref D7, dc7, pm7, an7, cd7, ct7, sl7, rfl, l7, c7, .inl ⟨rfl, rfl⟩, .inr ⟨D7, rfl, fun q hq => by
    simp only [List.mem_cons, List.not_mem_nil, or_false] at hq
    subst hq
    exact ⟨_, d7_0, ⟨_, rfl⟩⟩⟩⟩, k7⟩
  have g_row_of := PySem.W.mg_of X G a7
  have F__law_cell_at := fun_mk (st := sCell) l8 c8 k8
  have b__law_cell_at := F__law_cell_at.binds (ps := ["_law_script", "_law_k"]) fun _ _ _ _ _ _ us hl => match us, hl with | [_, _], _ => rfl
  have g__law_cell_at := PySem.W.mg_of X G a8
  have F__law_box := fun_mk (st := sBox) l9 c9 k9
  have b__law_box := F__law_box.binds (ps := ["_law_script", "_law_k"]) fun _ _ _ _ _ _ us hl => match us, hl with | [_, _], _ => rfl
  have g__law_box := PySem.W.mg_of X G a9
  have F__law_take := fun_mk (st := sTake) l10 c10 k10
  have b__law_take := F__law_take.binds (ps := ["_law_box_here", "_law_size"]) fun _ _ _ _ _ _ us hl => match us, hl with | [_, _], _ => rfl
  have g__law_take := PySem.W.mg_of X G a10
  have F__law_of := fun_mk (st := sOf) l11 c11 k11
  have b__law_of := F__law_of.binds (ps := ["_law_box_here", "_law_some"]) fun _ _ _ _ _ _ us hl => match us, hl with | [_, _], _ => rfl
  have g__law_of := PySem.W.mg_of X G a11
  have F__law_same := fun_mk (st := sSame) l12 c12 k12
  have b__law_same := F__law_same.binds (ps := ["_law_found", "_law_due"]) fun _ _ _ _ _ _ us hl => match us, hl with | [_, _], _ => rfl
  have g__law_same := PySem.W.mg_of X G a12
  have F__law_frac := fun_mk (st := sFrac) l13 c13 k13
  have b__law_frac := F__law_frac.binds (ps := ["_law_top", "_law_under"]) fun _ _ _ _ _ _ us hl => match us, hl with | [_, _], _ => rfl
  have g__law_frac := PySem.W.mg_of X G a13
  have F__law_plus := fun_mk (st := s__law_plus) l14 c14 k14
  have b__law_plus := F__law_plus.binds (ps := ["_law_one", "_law_other"]) fun _ _ _ _ _ _ us hl => match us, hl with | [_, _], _ => rfl
  have g__law_plus := PySem.W.mg_of X G a14
  have F__law_less := fun_mk (st := s__law_less) l15 c15 k15
  have b__law_less := F__law_less.binds (ps := ["_law_one", "_law_other"]) fun _ _ _ _ _ _ us hl => match us, hl with | [_, _], _ => rfl
  have g__law_less := PySem.W.mg_of X G a15
  have F__law_times := fun_mk (st := s__law_times) l16 c16 k16
  have b__law_times := F__law_times.binds (ps := ["_law_one", "_law_other"]) fun _ _ _ _ _ _ us hl => match us, hl with | [_, _], _ => rfl
  have g__law_times := PySem.W.mg_of X G a16
  have F__law_over := fun_mk (st := s__law_over) l17 c17 k17
  have b__law_over := F__law_over.binds (ps := ["_law_one", "_law_other"]) fun _ _ _ _ _ _ us hl => match us, hl with | [_, _], _ => rfl
  have g__law_over := PySem.W.mg_of X G a17
  have F__law_pane := fun_mk (st := sPane) l18 c18 k18
  have b__law_pane := F__law_pane.binds (ps := ["_law_box_here"]) fun _ _ _ _ _ _ us hl => match us, hl with | [_], _ => rfl
  have g__law_pane := PySem.W.mg_of X G a18
  have F__law_row := fun_mk (st := sRow) l19 c19 k19
  have b__law_row := F__law_row.binds (ps := ["_law_box_here", "_law_most"]) fun _ _ _ _ _ _ us hl => match us, hl with | [_, _], _ => rfl
  have g__law_row := PySem.W.mg_of X G a19
  have F__law_weight := fun_mk (st := sWeight) l20 c20 k20
  have b__law_weight := F__law_weight.binds (ps := ["_law_box_here"]) fun _ _ _ _ _ _ us hl => match us, hl with | [_], _ => rfl
  have g__law_weight := PySem.W.mg_of X G a20
  have F__law_rooms := fun_mk (st := sRooms) l21 c21 k21
  have b__law_rooms := F__law_rooms.binds (ps := ["_law_box_here"]) fun _ _ _ _ _ _ us hl => match us, hl with | [_], _ => rfl
  have g__law_rooms := PySem.W.mg_of X G a21
  have F__law_due_rooms := fun_mk (st := sDueRooms) l22 c22 k22
  have b__law_due_rooms := F__law_due_rooms.binds (ps := ["_law_line", "_law_start"]) fun _ _ _ _ _ _ us hl => match us, hl with | [_, _], _ => rfl
  have g__law_due_rooms := PySem.W.mg_of X G a22
  have F__law_due_panes := fun_mk (st := sDuePanes) l23 c23 k23
  have b__law_due_panes := F__law_due_panes.binds (ps := ["_law_weights"]) fun _ _ _ _ _ _ us hl => match us, hl with | [_], _ => rfl
  have g__law_due_panes := PySem.W.mg_of X G a23
  have F_law := fun_mk (st := s_law) l24 c24 k24
  have b_law := F_law.binds (ps := ["_law_script"]) fun _ _ _ _ _ _ us hl => match us, hl with | [_], _ => rfl
  have g_law := PySem.W.mg_of X G a24
  have g_ONE := PySem.W.mg_of X G ga0
  have m_abs := PySem.W.mg_none_of X G z0
  have m_len := PySem.W.mg_none_of X G z1
  have m_int := PySem.W.mg_none_of X G z2
  have m_min := PySem.W.mg_none_of X G z3
  have m_range := PySem.W.mg_none_of X G z4
  have m_tuple := PySem.W.mg_none_of X G z5
  have m_zip := PySem.W.mg_none_of X G z6
  have m_isinstance := PySem.W.mg_none_of X G z7
  have m_dict := PySem.W.mg_none_of X G z8
  have m_list := PySem.W.mg_none_of X G z9
  have m_all := PySem.W.mg_none_of X G z10
  have m_bool := PySem.W.mg_none_of X G z11
  have m_str := PySem.W.mg_none_of X G z12
  refine ⟨_, fun s v => .of_eq (fd := PySem.W.fnOf "law" "law" (defArgs s_law) (defBody s_law) (defScope s_law) .none kV24 dc24 pm24 an24 cd24 ct24) rfl, fun base _ _ => ?_⟩
  have Gfraction : FnOk l.prog w K mg base CX0 3 _ _ _ (spFrac K) := ok_fraction F_fraction F_common_part b_common_part g_common_part m_abs
  have Gplus := ok_plus F_plus F_fraction.kp Gfraction b_fraction g_fraction
  have Gminus := ok_minus F_minus F_fraction.kp Gfraction b_fraction g_fraction
  have Gtimes := ok_times F_times F_fraction.kp Gfraction b_fraction g_fraction
  have Gover := ok_over F_over F_fraction.kp Gfraction b_fraction g_fraction
  have dOne : ∀ H : Hp, Dp K H (.ref G0) (frD 1) := fun H => dp_fr_mk (.inr ⟨_, _, _, gl0, rfl, rfl, (by decide : 2 ≤ sizeLine), .cons ⟨_, rfl⟩ (.cons ⟨_, rfl⟩ .nil)⟩)
  have dFst : ∀ H : Hp, Dp K H (.ref T6_0) (frD 1) := fun H => dp_fr_mk (.inr ⟨_, _, _, t6_0, rfl, rfl, (by decide : 2 ≤ sizeLine), .cons ⟨_, rfl⟩ (.cons ⟨_, rfl⟩ .nil)⟩)
  have Groomsof := ok_roomsOf F_rooms_of F_over.kp Gover b_over g_over F_minus.kp Gminus b_minus g_minus F_plus.kp Gplus b_plus g_plus F_times.kp Gtimes b_times g_times g_ONE dOne
  have Growof := ok_rowOf F_row_of F_over.kp Gover b_over g_over F_minus.kp Gminus b_minus g_minus F_plus.kp Gplus b_plus g_plus m_zip m_tuple
  have Gtake : FnOk l.prog w K mg base CX0 3 _ _ _ spTake := ok_take F__law_take
  have Gof : FnOk l.prog w K mg base CX0 3 _ _ _ (spOf K) := ok_of F__law_of F__law_take b__law_take g__law_take m_len
  have Gfrac : FnOk l.prog w K mg base CX0 3 _ _ _ (spFrac K) := ok_frac F__law_frac m_abs
  have Gbox : FnOk l.prog w K mg base CX0 3 _ _ _ (spBox K) := ok_box F__law_box F__law_cell_at b__law_cell_at g__law_cell_at m_len m_abs m_int
  have Glp := ok__law_plus F__law_plus F__law_frac.kp Gfrac b__law_frac g__law_frac
  have Gll := ok__law_less F__law_less F__law_frac.kp Gfrac b__law_frac g__law_frac
  have Glt := ok__law_times F__law_times F__law_frac.kp Gfrac b__law_frac g__law_frac
  have Glo := ok__law_over F__law_over F__law_frac.kp Gfrac b__law_frac g__law_frac
  have Gpane : FnOk l.prog w K mg base CX0 3 _ _ _ (spPane K) := ok_pane F__law_pane F__law_take b__law_take g__law_take F__law_of b__law_of g__law_of F__law_frac b__law_frac g__law_frac m_len m_abs
  have Grow := ok_row F__law_row F__law_take.kp Gtake b__law_take g__law_take F__law_of.kp Gof b__law_of g__law_of F__law_pane.kp Gpane b__law_pane g__law_pane m_range m_tuple
  have Gweight := ok_weight F__law_weight F__law_take.kp Gtake b__law_take g__law_take F__law_frac.kp Gfrac b__law_frac g__law_frac
  have Grooms := ok_rooms F__law_rooms F__law_take.kp (Gtake.mono (by decide : 3 ≤ 4)) b__law_take g__law_take F__law_weight.kp Gweight b__law_weight g__law_weight m_range
  have Gdr := ok_dueRooms F__law_due_rooms F__law_over.kp Glo b__law_over g__law_over F__law_less.kp Gll b__law_less g__law_less F__law_plus.kp Glp b__law_plus g__law_plus F__law_times.kp Glt b__law_times g__law_times
  have Gdp := ok_duePanes F__law_due_panes F__law_over.kp Glo b__law_over g__law_over F__law_less.kp Gll b__law_less g__law_less F__law_plus.kp Glp b__law_plus g__law_plus m_zip m_tuple
  have Gsame : FnOk l.prog w K mg base CX0 6 _ _ _ (spSame K 6) := ok_same F__law_same b__law_same g__law_same m_isinstance m_dict m_list m_tuple m_len m_all m_zip m_bool m_str m_int 6
  obtain ⟨dsR, vR, bR⟩ := F_rooms_of.binds0 (ps := ["row", "first"]) 1 (by simp) rfl (fun D doc pm an cdv ct us ks h1 h2 => match us, h1, ks, h2 with | [_], _, [_], _ => ⟨_, _, _, _, _, _, rfl, rfl, rfl⟩)
  obtain ⟨mv1, kR1⟩ := FunD.kb F_rooms_of (ps := ["row", "first"]) 1 ["first"] [] (fun us mv ws => us ++ ws) (by simp) (by simp) (fun r1 r2 r3 => r1.append r3) (fun D doc pm an cdv ct us mv ws h1 h2 h3 => match us, h1, mv, h2, ws, h3 with | [_], _, [], _, [_], _ => rfl)
  obtain ⟨mv2, kR2⟩ := FunD.kb F_rooms_of (ps := ["row", "first"]) 0 ["first", "row"] [] (fun us mv ws => ws.drop 1 ++ ws.take 1) (by simp) (by simp) (fun r1 r2 r3 => (r3.drop 1).append (r3.take 1)) (fun D doc pm an cdv ct us mv ws h1 h2 h3 => match us, h1, mv, h2, ws, h3 with | [], _, [], _, [_, _], _ => rfl)
  obtain ⟨dsW, vW, bW⟩ := F_row_of.binds0 (ps := ["rooms", "wall"]) 1 (by simp) rfl (fun D doc pm an cdv ct us ks h1 h2 => match us, h1, ks, h2 with | [_], _, [_], _ => ⟨_, _, _, _, _, _, rfl, rfl, rfl⟩)
  obtain ⟨mv3, kW1⟩ := FunD.kb F_row_of (ps := ["rooms", "wall"]) 1 ["wall"] [] (fun us mv ws => us ++ ws) (by simp) (by simp) (fun r1 r2 r3 => r1.append r3) (fun D doc pm an cdv ct us mv ws h1 h2 h3 => match us, h1, mv, h2, ws, h3 with | [_], _, [], _, [_], _ => rfl)
  obtain ⟨mv4, kW2⟩ := FunD.kb F_row_of (ps := ["rooms", "wall"]) 0 ["wall", "rooms"] [] (fun us mv ws => ws.drop 1 ++ ws.take 1) (by simp) (by simp) (fun r1 r2 r3 => (r3.drop 1).append (r3.take 1)) (fun D doc pm an cdv ct us mv ws h1 h2 h3 => match us, h1, mv, h2, ws, h3 with | [], _, [], _, [_, _], _ => rfl)
  exact ok_law (k := 9) (mv1 := mv1) (mv2 := mv2) F_law
    ⟨⟨_, _, F__law_box.kp, Gbox.mono (by decide), b__law_box, g__law_box⟩, ⟨_, _, F__law_row.kp, Grow.mono (by decide), b__law_row, g__law_row⟩, ⟨_, _, F__law_weight.kp, Gweight.mono (by decide), b__law_weight, g__law_weight⟩,
     ⟨_, _, F__law_due_rooms.kp, Gdr.mono (by decide), b__law_due_rooms, g__law_due_rooms⟩, ⟨_, _, F__law_due_panes.kp, Gdp.mono (by decide), b__law_due_panes, g__law_due_panes⟩, ⟨_, _, F__law_same.kp, Gsame.mono (by decide), b__law_same, g__law_same⟩,
     ⟨_, _, F__law_rooms.kp, Grooms.mono (by decide), b__law_rooms, g__law_rooms⟩, ⟨_, _, F__law_of.kp, Gof.mono (by decide), b__law_of, g__law_of⟩, ⟨_, _, F__law_take.kp, Gtake.mono (by decide), b__law_take, g__law_take⟩,
     ⟨_, _, F__law_frac.kp, Gfrac.mono (by decide), b__law_frac, g__law_frac⟩, ⟨_, _, F__law_times.kp, Glt.mono (by decide), b__law_times, g__law_times⟩, m_len, m_min, m_range, m_tuple⟩
    ⟨F_rooms_of.kp, Groomsof.mono (by decide), g_rooms_of, bR, vR, dFst, kR1, kR2⟩
    ⟨F_row_of.kp, Growof.mono (by decide), g_row_of, bW, vW, kW1, kW2⟩
end Ep
open PySem PySem.W PyProof.Rows
set_option maxHeartbeats 0 in
theorem PySem.Challenge.cw_echopanes_k03_rooms_and_panes_holds : PySem.Challenge.rw_echopanes_k03_rooms_and_panes.Holds := by
  w_on; o_law; k_head; (case hw => w_witness2)
  k_fill
  refine L2.walk_of (l := PySem.Challenge.rw_echopanes_k03_rooms_and_panes) (n := 63) (k := 10) (x := "_law_script") (CX := fun _ => L2.CX0) (sp := fun w => Ep.spLaw _) rfl (by decide) rfl ⟨rfl, by decide, by decide⟩ (fun w h Y => PySem.W.kIn_of Y) ?F (fun _ _ a ns hl _ hS => ⟨a, ns, rfl, hS, hl, fun _ => rfl⟩) (fun _ _ _ _ _ h => h)
  case F =>
    intro w mg fa h KX G hmg
    refine' Ep.all_mk KX G hmg ?a0 ?l0 ?c0 ?k0 ?a1 ?l1 ?c1 ?k1 ?a2 ?l2 ?c2 ?k2 ?a3 ?l3 ?c3 ?k3 ?a4 ?l4 ?c4 ?k4 ?a5 ?l5 ?c5 ?k5 ?a6 ?l6 ?c6 ?k6 ?d6_0 ?t6_0 ?a7 ?l7 ?c7 ?k7 ?d7_0 ?a8 ?l8 ?c8 ?k8 ?a9 ?l9 ?c9 ?k9 ?a10 ?l10 ?c10 ?k10 ?a11 ?l11 ?c11 ?k11 ?a12 ?l12 ?c12 ?k12 ?a13 ?l13 ?c13 ?k13 ?a14 ?l14 ?c14 ?k14 ?a15 ?l15 ?c15 ?k15 ?a16 ?l16 ?c16 ?k16 ?a17 ?l17 ?c17 ?k17 ?a18 ?l18 ?c18 ?k18 ?a19 ?l19 ?c19 ?k19 ?a20 ?l20 ?c20 ?k20 ?a21 ?l21 ?c21 ?k21 ?a22 ?l22 ?c22 ?k22 ?a23 ?l23 ?c23 ?k23 ?a24 ?l24 ?c24 ?k24 ?ga0 ?gl0 ?z0 ?z1 ?z2 ?z3 ?z4 ?z5 ?z6 ?z7 ?z8 ?z9 ?z10 ?z11 ?z12
    (case a0 => k_is); (case l0 => k_is); (case c0 => k_is); (case k0 => k_is); (case a1 => k_is); (case l1 => k_is); (case c1 => k_is); (case k1 => k_is); (case a2 => k_is); (case l2 => k_is); (case c2 => k_is); (case k2 => k_is); (case a3 => k_is); (case l3 => k_is); (case c3 => k_is); (case k3 => k_is); (case a4 => k_is); (case l4 => k_is); (case c4 => k_is); (case k4 => k_is); (case a5 => k_is); (case l5 => k_is); (case c5 => k_is); (case k5 => k_is); (case a6 => k_is); (case l6 => k_is); (case c6 => k_is); (case k6 => k_is); (case d6_0 => k_is); (case t6_0 => k_is); (case a7 => k_is); (case l7 => k_is); (case c7 => k_is); (case k7 => k_is); (case d7_0 => k_is); (case a8 => k_is); (case l8 => k_is); (case c8 => k_is); (case k8 => k_is); (case a9 => k_is); (case l9 => k_is); (case c9 => k_is); (case k9 => k_is); (case a10 => k_is); (case l10 => k_is); (case c10 => k_is); (case k10 => k_is); (case a11 => k_is); (case l11 => k_is); (case c11 => k_is); (case k11 => k_is); (case a12 => k_is); (case l12 => k_is); (case c12 => k_is); (case k12 => k_is); (case a13 => k_is); (case l13 => k_is); (case c13 => k_is); (case k13 => k_is); (case a14 => k_is); (case l14 => k_is); (case c14 => k_is); (case k14 => k_is); (case a15 => k_is); (case l15 => k_is); (case c15 => k_is); (case k15 => k_is); (case a16 => k_is); (case l16 => k_is); (case c16 => k_is); (case k16 => k_is); (case a17 => k_is); (case l17 => k_is); (case c17 => k_is); (case k17 => k_is); (case a18 => k_is); (case l18 => k_is); (case c18 => k_is); (case k18 => k_is); (case a19 => k_is); (case l19 => k_is); (case c19 => k_is); (case k19 => k_is); (case a20 => k_is); (case l20 => k_is); (case c20 => k_is); (case k20 => k_is); (case a21 => k_is); (case l21 => k_is); (case c21 => k_is); (case k21 => k_is); (case a22 => k_is); (case l22 => k_is); (case c22 => k_is); (case k22 => k_is); (case a23 => k_is); (case l23 => k_is); (case c23 => k_is); (case k23 => k_is); (case a24 => k_is); (case l24 => k_is); (case c24 => k_is); (case k24 => k_is); (case ga0 => k_is); (case gl0 => k_is); (case z0 => k_is); (case z1 => k_is); (case z2 => k_is); (case z3 => k_is); (case z4 => k_is); (case z5 => k_is); (case z6 => k_is); (case z7 => k_is); (case z8 => k_is); (case z9 => k_is); (case z10 => k_is); (case z11 => k_is); (case z12 => k_is)
