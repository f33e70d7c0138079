import PyProof.Rows.All
import Wide.All
import OpenK.AllK
import Wide.FinOn
import HandS.Words
import HandS.List
import HandS.Comp
import HandS.WordsList
import HandS.Wide
import HandS.IsInst
import HandS.Zip
import HandS.Walk
import HandS.TupAny
import HandS.TupMul
import HandS.Defaults
import HandS.Rev
import HandS.Style
import HandS.Flow
import HandS.ForMost
import PyProof.ReprReads
import PyProof.ReprRoads
import HandS.RaiseMore
import PyProof.FitsInt
import PySem.Challenge.RW_echopanes_k01_what_is_a_row
set_option Elab.async false
set_option linter.all false
set_option maxRecDepth 100000
set_option maxHeartbeats 4000000
namespace Ep
/-! the mathematics of FRACTIONs -/
theorem gcd_pos {t u : Int} (h : 0 < u) : 0 < Int.gcd t u := Int.gcd_pos_of_ne_zero_right t (by omega)
theorem fr_num {t u : Int} (h : 0 < u) : (Rat.divInt t u).num = t / (Int.gcd t u : Int) := by
  rw [Rat.num_divInt, Int.sign_eq_one_of_pos h, Int.one_mul, Int.gcd_comm]
theorem fr_den {t u : Int} (h : 0 < u) : ((Rat.divInt t u).den : Int) = u / (Int.gcd t u : Int) := by
  rw [Rat.den_divInt, if_neg (by omega), Int.gcd_comm]
  have e : (u.natAbs : Int) = u := by omega
  rw [Int.natCast_ediv, e]
theorem gcd_fmod (a b : Int) (h : b ≠ 0) : Int.gcd b (a.fmod b) = Int.gcd a b := by
  have e : a.fmod b = a - b * (a.fdiv b) := by
    have := Int.mul_fdiv_add_fmod a b
    omega
  rw [e, Int.gcd_comm a b, Int.gcd_sub_mul_left_right]
theorem gcd_emod (a b : Int) (h : b ≠ 0) : Int.gcd b (a % b) = Int.gcd a b := by
  rw [Int.emod_def, Int.gcd_comm a b, Int.gcd_sub_mul_left_right]
/-- numbers of at most b bits -/
def Sz (b : Nat) (q : Rat) : Prop := q.num.natAbs < 2 ^ b ∧ q.den < 2 ^ b
theorem Sz.mono {a b : Nat} {q : Rat} (h : Sz a q) (l : a ≤ b) : Sz b q :=
  ⟨Nat.lt_of_lt_of_le h.1 (Nat.pow_le_pow_right (by decide) l), Nat.lt_of_lt_of_le h.2 (Nat.pow_le_pow_right (by decide) l)⟩
theorem sz_fr {t u : Int} {b : Nat} (h : 0 < u) (ht : t.natAbs < 2 ^ b) (hu : u.natAbs < 2 ^ b) : Sz b (Rat.divInt t u) := by
  have g := gcd_pos (t := t) h
  constructor
  · rw [fr_num h]
    have : (t / (Int.gcd t u : Int)).natAbs ≤ t.natAbs := by
      rw [Int.natAbs_ediv_of_dvd (Int.gcd_dvd_left ..)]
      exact Nat.div_le_self _ _
    omega
  · have e := fr_den (t := t) h
    have : (u / (Int.gcd t u : Int)).natAbs ≤ u.natAbs := by
      rw [Int.natAbs_ediv_of_dvd (Int.gcd_dvd_right ..)]
      exact Nat.div_le_self _ _
    omega
theorem den_pos (q : Rat) : (0 : Int) < (q.den : Int) := by
  have := q.den_nz
  omega
theorem q_add (q r : Rat) : Rat.divInt (q.num * r.den + r.num * q.den) (q.den * r.den) = q + r := by
  rw [Rat.add_def', ← Rat.divInt_ofNat]; rfl
theorem q_sub (q r : Rat) : Rat.divInt (q.num * r.den - r.num * q.den) (q.den * r.den) = q - r := by
  rw [Rat.sub_def', ← Rat.divInt_ofNat]; rfl
theorem q_mul (q r : Rat) : Rat.divInt (q.num * r.num) (q.den * r.den) = q * r := by
  rw [Rat.mul_def', ← Rat.divInt_ofNat]; rfl
theorem q_div (q r : Rat) : Rat.divInt (q.num * r.den) (q.den * r.num) = q / r := by
  rw [Rat.div_def, Rat.inv_def]
  conv => rhs; rw [← Rat.num_divInt_den q]
  rw [Rat.divInt_mul_divInt]
theorem dd_pos (q r : Rat) : (0 : Int) < (q.den : Int) * (r.den : Int) := Int.mul_pos (den_pos q) (den_pos r)
theorem dn_pos (q r : Rat) (h : 0 < r) : (0 : Int) < (q.den : Int) * r.num := Int.mul_pos (den_pos q) (by
  have := Rat.num_nonneg (q := r)
  have h1 : 0 ≤ r.num := this.mpr (Rat.le_of_lt h)
  have h2 : r.num ≠ 0 := fun e => by
    rw [Rat.num_eq_zero] at e
    rw [e] at h
    exact Rat.lt_irrefl h
  omega)
theorem m_lt {i j : Int} {a b : Nat} (ha : i.natAbs < 2 ^ a) (hb : j.natAbs < 2 ^ b) : (i * j).natAbs < 2 ^ (a + b) := by
  rw [Int.natAbs_mul, Nat.pow_add]
  exact Nat.mul_lt_mul'' ha hb
theorem Sz.den {b : Nat} {q : Rat} (h : Sz b q) : (q.den : Int).natAbs < 2 ^ b := by
  have := h.2
  omega
theorem a_lt {i j : Int} {c : Nat} (ha : i.natAbs < 2 ^ c) (hb : j.natAbs < 2 ^ c) : (i + j).natAbs < 2 ^ (c + 1) := by
  have : (i + j).natAbs ≤ i.natAbs + j.natAbs := Int.natAbs_add_le i j
  rw [Nat.pow_succ]
  omega
theorem s_lt {i j : Int} {c : Nat} (ha : i.natAbs < 2 ^ c) (hb : j.natAbs < 2 ^ c) : (i - j).natAbs < 2 ^ (c + 1) := by
  have : (i - j).natAbs ≤ i.natAbs + j.natAbs := Int.natAbs_sub_le i j
  rw [Nat.pow_succ]
  omega
theorem up_lt {n : Nat} {a b : Nat} (h : n < 2 ^ a) (l : a ≤ b) : n < 2 ^ b := Nat.lt_of_lt_of_le h (Nat.pow_le_pow_right (by decide) l)
section
variable {q r : Rat} {a b : Nat} (hq : Sz a q) (hr : Sz b r)
include hq hr
theorem sz_add_t : (q.num * r.den + r.num * q.den).natAbs < 2 ^ (a + b + 1) := a_lt (m_lt hq.1 hr.den) (by rw [Nat.add_comm a b]; exact m_lt hr.1 hq.den)
theorem sz_sub_t : (q.num * r.den - r.num * q.den).natAbs < 2 ^ (a + b + 1) := s_lt (m_lt hq.1 hr.den) (by rw [Nat.add_comm a b]; exact m_lt hr.1 hq.den)
theorem sz_dd : ((q.den : Int) * (r.den : Int)).natAbs < 2 ^ (a + b) := m_lt hq.den hr.den
theorem sz_add : Sz (a + b + 1) (q + r) := by
  rw [← q_add]
  exact sz_fr (dd_pos q r) (sz_add_t hq hr) (up_lt (sz_dd hq hr) (by omega))
theorem sz_sub : Sz (a + b + 1) (q - r) := by
  rw [← q_sub]
  exact sz_fr (dd_pos q r) (sz_sub_t hq hr) (up_lt (sz_dd hq hr) (by omega))
theorem sz_mul : Sz (a + b) (q * r) := by
  rw [← q_mul]
  exact sz_fr (dd_pos q r) (m_lt hq.1 hr.1) (sz_dd hq hr)
theorem sz_div (p : 0 < r) : Sz (a + b) (q / r) := by
  rw [← q_div]
  exact sz_fr (dn_pos q r p) (m_lt hq.1 hr.den) (m_lt hq.den hr.1)
end
theorem gcd_self (q : Rat) : Int.gcd q.num (q.den : Int) = 1 := by
  have := q.reduced
  unfold Nat.Coprime at this
  unfold Int.gcd
  simpa using this
/-! the laws' own identities -/
example (r : Rat) (h : 1 + r ≠ 0) : (1 - r) / (1 + r) = 1 / (1+r) - r / (1 + r) := by grind
theorem share_of {w r : Rat} (h : 1 + r ≠ 0) : w * ((1 - r) / (1 + r)) = w * (1 - r) / (1 + r) := by grind
theorem back_pane {a b : Rat} (ha : 0 < a) (hb : 0 < b) : a * ((1 - (a - b) / (a + b)) / (1 + (a - b) / (a + b))) = b := by
  have h : a + b ≠ 0 := by grind
  have h2 : 1 + (a - b) / (a + b) = 2 * a / (a + b) := by grind
  have h3 : 1 - (a - b) / (a + b) = 2 * b / (a + b) := by grind
  rw [h2, h3]
  grind
theorem back_room {w r : Rat} (hw : 0 < w) (h1 : r < 1) (h2 : -1 < r) : (w - w * ((1 - r) / (1 + r))) / (w + w * ((1 - r) / (1 + r))) = r := by
  have h : 1 + r ≠ 0 := by grind
  have e1 : w - w * ((1 - r) / (1 + r)) = 2 * w * r / (1 + r) := by grind
  have e2 : w + w * ((1 - r) / (1 + r)) = 2 * w / (1 + r) := by grind
  rw [e1, e2]
  grind
/-! rooms and panes -/
def shareQ (r : Rat) : Rat := (1 - r) / (1 + r)
def lastQ : Rat → List Rat → Rat
  | w, [] => w
  | w, r :: rs => lastQ (w * shareQ r) rs
def roomsQ : Rat → List Rat → List Rat
  | w, [] => [w]
  | w, r :: rs => w :: roomsQ (w * shareQ r) rs
def panesQ : List Rat → List Rat
  | a :: b :: r => ((a - b) / (a + b)) :: panesQ (b :: r)
  | _ => []
theorem lastQ_snoc (r : Rat) : ∀ (qs : List Rat) (w : Rat), lastQ w (qs ++ [r]) = lastQ w qs * shareQ r
  | [], w => rfl
  | q :: qs, w => lastQ_snoc r qs (w * shareQ q)
theorem roomsQ_snoc (r : Rat) : ∀ (qs : List Rat) (w : Rat), roomsQ w (qs ++ [r]) = roomsQ w qs ++ [lastQ w qs * shareQ r]
  | [], w => rfl
  | q :: qs, w => by
    show w :: roomsQ (w * shareQ q) (qs ++ [r]) = w :: (roomsQ (w * shareQ q) qs ++ [lastQ (w * shareQ q) qs * shareQ r])
    rw [roomsQ_snoc r qs]
theorem roomsQ_len : ∀ (qs : List Rat) (w : Rat), (roomsQ w qs).length = qs.length + 1
  | [], w => rfl
  | q :: qs, w => congrArg Nat.succ (roomsQ_len qs _)
theorem panesQ_len : ∀ ws : List Rat, (panesQ ws).length = ws.length - 1
  | [] => rfl
  | [_] => rfl
  | a :: b :: r => by
    show (panesQ (b :: r)).length + 1 = (b :: r).length + 1 - 1
    rw [panesQ_len (b :: r)]
    simp
theorem panesQ_get : ∀ (ws : List Rat) (i : Nat) (x y : Rat), ws[i]? = some x → ws[i + 1]? = some y → (panesQ ws)[i]? = some ((x - y) / (x + y))
  | [], _, _, _, h, _ => by simp at h
  | [_], 0, _, _, _, h => by simp at h
  | [_], i + 1, _, _, h, _ => by simp at h
  | a :: b :: r, 0, x, y, h, h2 => by
    have e1 : a = x := Option.some.inj h
    have e2 : b = y := Option.some.inj h2
    rw [← e1, ← e2]
    rfl
  | a :: b :: r, i + 1, x, y, h, h2 => panesQ_get (b :: r) i x y h h2
/-- a pane of at most c bits -/
structure PaneZ (c : Nat) (q : Rat) : Prop where
  lo : -1 < q
  hi : q < 1
  sz : Sz c q
theorem PaneZ.p1 {c : Nat} {q : Rat} (h : PaneZ c q) : 0 < 1 + q := by
  have := h.lo
  grind
theorem PaneZ.m1 {c : Nat} {q : Rat} (h : PaneZ c q) : 0 < 1 - q := by
  have := h.hi
  grind
theorem sz_one : Sz 1 1 := ⟨by decide, by decide⟩
theorem PaneZ.sp {c : Nat} {q : Rat} (h : PaneZ c q) : Sz (c + 2) (1 + q) := (sz_add sz_one h.sz).mono (by omega)
theorem PaneZ.sm {c : Nat} {q : Rat} (h : PaneZ c q) : Sz (c + 2) (1 - q) := (sz_sub sz_one h.sz).mono (by omega)
theorem div_pos {a b : Rat} (ha : 0 < a) (hb : 0 < b) : 0 < a / b := by
  rw [Rat.div_def]
  exact Rat.mul_pos ha (Rat.inv_pos.mpr hb)
theorem PaneZ.share {c : Nat} {q : Rat} (h : PaneZ c q) : 0 < shareQ q ∧ Sz (2 * c + 4) (shareQ q) :=
  ⟨div_pos h.m1 h.p1, (sz_div h.sm h.sp h.p1).mono (by omega)⟩
theorem lastQ_ok {c : Nat} : ∀ (qs : List Rat) (w : Rat) (b : Nat), 0 < w → Sz b w → (∀ q ∈ qs, PaneZ c q) → 0 < lastQ w qs ∧ Sz (b + (2 * c + 4) * qs.length) (lastQ w qs)
  | [], w, b, h, z, _ => ⟨h, z⟩
  | q :: qs, w, b, h, z, hp => by
    have p := (hp q (List.mem_cons_self ..)).share
    have r := lastQ_ok qs (w * shareQ q) (b + (2 * c + 4)) (Rat.mul_pos h p.1) (sz_mul z p.2) (fun x hx => hp x (List.mem_cons_of_mem _ hx))
    refine ⟨r.1, r.2.mono ?_⟩
    rw [List.length_cons, Nat.mul_add]
    omega
theorem roomsQ_ok {c : Nat} : ∀ (qs : List Rat) (w : Rat) (b : Nat), 0 < w → Sz b w → (∀ q ∈ qs, PaneZ c q) → ∀ x ∈ roomsQ w qs, 0 < x ∧ Sz (b + (2 * c + 4) * qs.length) x
  | [], w, b, h, z, _, x, hx => by
    rw [List.mem_singleton.mp hx]
    exact ⟨h, z⟩
  | q :: qs, w, b, h, z, hp, x, hx => by
    rcases List.mem_cons.mp hx with rfl | hx
    · exact ⟨h, z.mono (by omega)⟩
    · have p := (hp q (List.mem_cons_self ..)).share
      have r := roomsQ_ok qs (w * shareQ q) (b + (2 * c + 4)) (Rat.mul_pos h p.1) (sz_mul z p.2) (fun x hx => hp x (List.mem_cons_of_mem _ hx)) x hx
      refine ⟨r.1, r.2.mono ?_⟩
      rw [List.length_cons, Nat.mul_add]
      omega
theorem panes_rooms {c : Nat} : ∀ (qs : List Rat) (w : Rat), 0 < w → (∀ q ∈ qs, PaneZ c q) → panesQ (roomsQ w qs) = qs
  | [], w, _, _ => rfl
  | [q], w, h, hp => by
    have p := hp q (List.mem_cons_self ..)
    show [(w - w * shareQ q) / (w + w * shareQ q)] = [q]
    unfold shareQ
    rw [back_room h p.hi p.lo]
  | q :: q2 :: qs, w, h, hp => by
    have p := hp q (List.mem_cons_self ..)
    have ih := panes_rooms (q2 :: qs) (w * shareQ q) (Rat.mul_pos h p.share.1) (fun x hx => hp x (List.mem_cons_of_mem _ hx))
    show ((w - w * shareQ q) / (w + w * shareQ q)) :: panesQ (roomsQ (w * shareQ q) (q2 :: qs)) = q :: q2 :: qs
    rw [ih]
    congr 1
    unfold shareQ
    exact back_room h p.hi p.lo
theorem rooms_panes : ∀ (w : Rat) (ws : List Rat), (∀ x ∈ w :: ws, 0 < x) → roomsQ w (panesQ (w :: ws)) = w :: ws
  | w, [], _ => rfl
  | w, v :: ws, hp => by
    have h1 := hp w (List.mem_cons_self ..)
    have h2 := hp v (List.mem_cons_of_mem _ (List.mem_cons_self ..))
    have ih := rooms_panes v ws (fun x hx => hp x (List.mem_cons_of_mem _ hx))
    show w :: roomsQ (w * shareQ ((w - v) / (w + v))) (panesQ (v :: ws)) = w :: v :: ws
    unfold shareQ
    rw [back_pane h1 h2, ih]
theorem panesQ_scale (k : Rat) (hk : 0 < k) : ∀ ws : List Rat, (∀ x ∈ ws, 0 < x) → panesQ (ws.map (k * ·)) = panesQ ws
  | [], _ => rfl
  | [_], _ => rfl
  | a :: b :: r, hp => by
    have h1 := hp a (List.mem_cons_self ..)
    have h2 := hp b (List.mem_cons_of_mem _ (List.mem_cons_self ..))
    have ih := panesQ_scale k hk (b :: r) (fun x hx => hp x (List.mem_cons_of_mem _ hx))
    show ((k * a - k * b) / (k * a + k * b)) :: panesQ ((b :: r).map (k * ·)) = ((a - b) / (a + b)) :: panesQ (b :: r)
    rw [ih]
    congr 1
    have : a + b ≠ 0 := by grind
    have e1 : k * a - k * b = k * (a - b) := by grind
    have e2 : k * a + k * b = k * (a + b) := by grind
    rw [e1, e2]
    grind
theorem pane_two {a b : Rat} {c : Nat} (ha : 0 < a) (hb : 0 < b) (za : Sz c a) (zb : Sz c b) : PaneZ (4 * c + 2) ((a - b) / (a + b)) := by
  have hs : 0 < a + b := by grind
  refine ⟨?_, ?_, (sz_div (sz_sub za zb) (sz_add za zb) hs).mono (by omega)⟩
  · rw [Rat.lt_div_iff hs]
    grind
  · rw [Rat.div_lt_iff hs]
    grind
theorem panesQ_ok {c : Nat} : ∀ ws : List Rat, (∀ x ∈ ws, 0 < x ∧ Sz c x) → ∀ q ∈ panesQ ws, PaneZ (4 * c + 2) q
  | [], _, q, h => by cases h
  | [_], _, q, h => by cases h
  | a :: b :: r, hp, q, h => by
    have h1 := hp a (List.mem_cons_self ..)
    have h2 := hp b (List.mem_cons_of_mem _ (List.mem_cons_self ..))
    rcases List.mem_cons.mp h with rfl | h
    · exact pane_two h1.1 h2.1 h1.2 h2.2
    · exact panesQ_ok (b :: r) (fun x hx => hp x (List.mem_cons_of_mem _ hx)) q h
/-! rows trimmed, turned about -/
def trimL : List Rat → List Rat
  | [] => []
  | q :: qs => if q = 0 ∧ trimL qs = [] then [] else q :: trimL qs
theorem trimL_zeros : ∀ qs : List Rat, (∀ q ∈ qs, q = 0) → trimL qs = []
  | [], _ => rfl
  | q :: qs, h => by
    unfold trimL
    rw [if_pos ⟨h q (List.mem_cons_self ..), trimL_zeros qs (fun x hx => h x (List.mem_cons_of_mem _ hx))⟩]
theorem trimL_app : ∀ (xs ys : List Rat), (∀ q ∈ ys, q = 0) → trimL (xs ++ ys) = trimL xs
  | [], ys, h => trimL_zeros ys h
  | x :: xs, ys, h => by
    show (if x = 0 ∧ trimL (xs ++ ys) = [] then [] else x :: trimL (xs ++ ys)) = if x = 0 ∧ trimL xs = [] then [] else x :: trimL xs
    rw [trimL_app xs ys h]
theorem trimL_last : ∀ (xs : List Rat) (q : Rat), q ≠ 0 → trimL (xs ++ [q]) = xs ++ [q]
  | [], q, h => by
    show (if q = 0 ∧ trimL [] = [] then [] else q :: trimL []) = [q]
    rw [if_neg (fun z => h z.1)]
    rfl
  | x :: xs, q, h => by
    show (if x = 0 ∧ trimL (xs ++ [q]) = [] then [] else x :: trimL (xs ++ [q])) = x :: (xs ++ [q])
    rw [trimL_last xs q h, if_neg (fun z => by simp at z)]
/-- where all behind the m-th are 0, and the m-th isn't -/
theorem trimL_take {qs : List Rat} {m : Nat} (hm : m ≤ qs.length) (h0 : ∀ q ∈ qs.drop m, q = 0) (h1 : m = 0 ∨ ∃ q, qs[m - 1]? = some q ∧ q ≠ 0) : trimL qs = qs.take m := by
  have e : qs = qs.take m ++ qs.drop m := (List.take_append_drop m qs).symm
  conv => lhs; rw [e]
  rw [trimL_app _ _ h0]
  rcases h1 with rfl | ⟨q, hq, hn⟩
  · rfl
  · cases m with
    | zero => rfl
    | succ m =>
      have hq' : qs[m]? = some q := hq
      rw [List.take_add_one, hq']
      exact trimL_last _ q hn
def trimR (qs : List Rat) (x : Int) : List Rat := if x = 0 then trimL qs else qs
def mirQ (qs : List Rat) : List Rat := (qs.map (fun q => -q)).reverse
theorem mir_len (qs : List Rat) : (mirQ qs).length = qs.length := by simp [mirQ]
theorem mir_pane {c : Nat} {qs : List Rat} (h : ∀ q ∈ qs, PaneZ c q) : ∀ q ∈ mirQ qs, PaneZ c q := fun q hq => by
  unfold mirQ at hq
  rw [List.mem_reverse] at hq
  obtain ⟨r, hr, rfl⟩ := List.mem_map.mp hq
  have p := h r hr
  have p1 := p.lo
  have p2 := p.hi
  refine ⟨by grind, by grind, ?_, ?_⟩
  · rw [Rat.neg_num, Int.natAbs_neg]
    exact p.sz.1
  · exact p.sz.2
theorem mir_app (a b : List Rat) : mirQ (a ++ b) = mirQ b ++ mirQ a := by simp [mirQ]
theorem mir_mir (qs : List Rat) : mirQ (mirQ qs) = qs := by
  unfold mirQ
  rw [List.map_reverse, List.reverse_reverse, List.map_map]
  have : ((fun q : Rat => -q) ∘ fun q : Rat => -q) = id := by
    funext q
    show - -q = q
    grind
  rw [this, List.map_id]
/-! rooms of joined rows, turned about, strewn; a room put in -/
theorem roomsQ_last : ∀ (qs : List Rat) (w : Rat), ∃ ls, roomsQ w qs = ls ++ [lastQ w qs] ∧ ls.length = qs.length
  | [], w => ⟨[], rfl, rfl⟩
  | q :: qs, w => by
    obtain ⟨ls, h, l⟩ := roomsQ_last qs (w * shareQ q)
    exact ⟨w :: ls, congrArg (w :: ·) h, congrArg Nat.succ l⟩
theorem rooms_join : ∀ (a : List Rat) (w : Rat) (b ls : List Rat), roomsQ w a = ls ++ [lastQ w a] → roomsQ w (a ++ b) = ls ++ roomsQ (lastQ w a) b
  | [], w, b, ls, h => by
    have e : ls = [] := by
      have := congrArg List.length h
      simp [roomsQ] at this
      exact this
    subst e
    rfl
  | q :: a, w, b, ls, h => by
    cases ls with
    | nil =>
      have := congrArg List.length h
      simp [roomsQ_len] at this
    | cons l ls =>
      have h' : w :: roomsQ (w * shareQ q) a = l :: (ls ++ [lastQ (w * shareQ q) a]) := h
      injection h' with e1 e2
      subst e1
      have ih := rooms_join a (w * shareQ q) b ls e2
      show w :: roomsQ (w * shareQ q) (a ++ b) = w :: (ls ++ roomsQ (lastQ (w * shareQ q) a) b)
      rw [ih]
theorem lastQ_app : ∀ (a b : List Rat) (w : Rat), lastQ w (a ++ b) = lastQ (lastQ w a) b
  | [], b, w => rfl
  | q :: a, b, w => lastQ_app a b (w * shareQ q)
theorem share_neg {c : Nat} {q : Rat} (h : PaneZ c q) : shareQ q * shareQ (-q) = 1 := by
  have h1 := h.p1
  have h2 := h.m1
  unfold shareQ
  have a1 : 1 + q ≠ 0 := by grind
  have a2 : 1 - q ≠ 0 := by grind
  have e1 : 1 - -q = 1 + q := by grind
  have e2 : 1 + -q = 1 - q := by grind
  rw [e1, e2]
  grind
theorem rooms_mir {c : Nat} : ∀ (qs : List Rat) (w : Rat), (∀ q ∈ qs, PaneZ c q) → roomsQ (lastQ w qs) (mirQ qs) = (roomsQ w qs).reverse ∧ lastQ (lastQ w qs) (mirQ qs) = w
  | [], w, _ => ⟨rfl, rfl⟩
  | q :: qs, w, h => by
    have ih := rooms_mir qs (w * shareQ q) (fun x hx => h x (List.mem_cons_of_mem _ hx))
    have p := share_neg (h q (List.mem_cons_self ..))
    have e : mirQ (q :: qs) = mirQ qs ++ [-q] := by simp [mirQ]
    have e2 : w * shareQ q * shareQ (-q) = w := by
      rw [Rat.mul_assoc, p, Rat.mul_one]
    have el : lastQ w (q :: qs) = lastQ (w * shareQ q) qs := rfl
    rw [e, el]
    constructor
    · rw [roomsQ_snoc, ih.1, ih.2, e2]
      show (roomsQ (w * shareQ q) qs).reverse ++ [w] = (w :: roomsQ (w * shareQ q) qs).reverse
      rw [List.reverse_cons]
    · rw [lastQ_snoc, ih.2, e2]
def prodQ : List Rat → Rat
  | [] => 1
  | q :: qs => shareQ q * prodQ qs
theorem lastQ_prod : ∀ (qs : List Rat) (w : Rat), lastQ w qs = w * prodQ qs
  | [], w => (Rat.mul_one w).symm
  | q :: qs, w => by
    show lastQ (w * shareQ q) qs = w * (shareQ q * prodQ qs)
    rw [lastQ_prod qs, Rat.mul_assoc]
theorem prodQ_perm {a b : List Rat} (h : a.Perm b) : prodQ a = prodQ b := by
  induction h with
  | nil => rfl
  | cons x _ ih =>
    show shareQ x * prodQ _ = shareQ x * prodQ _
    rw [ih]
  | swap x y l =>
    show shareQ y * (shareQ x * prodQ l) = shareQ x * (shareQ y * prodQ l)
    grind
  | trans _ _ i1 i2 => exact i1.trans i2
theorem lastQ_perm {a b : List Rat} (h : a.Perm b) (w : Rat) : lastQ w a = lastQ w b := by
  rw [lastQ_prod, lastQ_prod, prodQ_perm h]
theorem lastQ_over (qs : List Rat) {w : Rat} (h : 0 < w) : lastQ w qs / w = lastQ 1 qs := by
  rw [lastQ_prod, lastQ_prod]
  have : w ≠ 0 := by grind
  grind
theorem rooms_take : ∀ (qs : List Rat) (w : Rat) (m : Nat), m ≤ qs.length → roomsQ w (qs.take m) = (roomsQ w qs).take (m + 1)
  | [], w, m, h => by
    have : m = 0 := by simpa using h
    subst this
    rfl
  | q :: qs, w, 0, h => rfl
  | q :: qs, w, m + 1, h => by
    show w :: roomsQ (w * shareQ q) (qs.take m) = w :: (roomsQ (w * shareQ q) qs).take (m + 1)
    rw [rooms_take qs (w * shareQ q) m (by simpa using h)]
theorem trimL_is : ∀ qs : List Rat, ∃ m, m ≤ qs.length ∧ trimL qs = qs.take m
  | [] => ⟨0, Nat.le_refl _, rfl⟩
  | q :: qs => by
    obtain ⟨m, h1, h2⟩ := trimL_is qs
    unfold trimL
    by_cases h : q = 0 ∧ trimL qs = []
    · rw [if_pos h]
      exact ⟨0, Nat.zero_le _, rfl⟩
    · rw [if_neg h, h2]
      exact ⟨m + 1, by simpa using h1, rfl⟩
theorem panesQ_amid : ∀ (A : List Rat) (a b : Rat) (B : List Rat), panesQ (A ++ a :: b :: B) = panesQ (A ++ [a]) ++ ((a - b) / (a + b)) :: panesQ (b :: B)
  | [], a, b, B => rfl
  | [x], a, b, B => rfl
  | x :: y :: A, a, b, B => by
    have ih := panesQ_amid (y :: A) a b B
    show ((x - y) / (x + y)) :: panesQ ((y :: A) ++ a :: b :: B) = ((x - y) / (x + y)) :: (panesQ ((y :: A) ++ [a]) ++ ((a - b) / (a + b)) :: panesQ (b :: B))
    rw [ih]
theorem share_pane {a b : Rat} (ha : 0 < a) (hb : 0 < b) : shareQ ((a - b) / (a + b)) = b / a := by
  have h := back_pane ha hb
  unfold shareQ
  have : a ≠ 0 := by grind
  have e : a * ((1 - (a - b) / (a + b)) / (1 + (a - b) / (a + b))) / a = b / a := by rw [h]
  rw [← e]
  grind
theorem share_two {a b v : Rat} (ha : 0 < a) (hb : 0 < b) (hv : 0 < v) : lastQ 1 [(a - v) / (a + v), (v - b) / (v + b)] = lastQ 1 [(a - b) / (a + b)] := by
  show 1 * shareQ ((a - v) / (a + v)) * shareQ ((v - b) / (v + b)) = 1 * shareQ ((a - b) / (a + b))
  rw [share_pane ha hv, share_pane hv hb, share_pane ha hb]
  have : a ≠ 0 := by grind
  have : v ≠ 0 := by grind
  grind
theorem erase_perm {α : Type} : ∀ (l : List α) (k : Nat) (h : k < l.length), (l[k] :: l.eraseIdx k).Perm l
  | x :: xs, 0, _ => List.Perm.refl _
  | x :: xs, k + 1, h => by
    have ih := erase_perm xs k (by simpa using h)
    show (xs[k]'(by simpa using h) :: x :: xs.eraseIdx k).Perm (x :: xs)
    exact (List.Perm.swap _ _ _).trans (List.Perm.cons x ih)
theorem trimL_idem : ∀ qs : List Rat, trimL (trimL qs) = trimL qs
  | [] => rfl
  | q :: qs => by
    have ih := trimL_idem qs
    by_cases h : q = 0 ∧ trimL qs = []
    · have e : trimL (q :: qs) = [] := if_pos h
      rw [e]
      rfl
    · have e : trimL (q :: qs) = q :: trimL qs := if_neg h
      rw [e]
      show (if q = 0 ∧ trimL (trimL qs) = [] then [] else q :: trimL (trimL qs)) = q :: trimL qs
      rw [ih, if_neg h]
theorem trimR_idem (qs : List Rat) (x : Int) : trimR (trimR qs x) x = trimR qs x := by
  unfold trimR
  by_cases h : x = 0
  · rw [if_pos h, if_pos h, trimL_idem]
  · rw [if_neg h, if_neg h]
end Ep
namespace Ep
open PySem PySem.Spec PyProof.Rows L2
/-! ### heaps: what a draw changes -/
/-- all but what stands at p is as it was -/
def Chg (p : Addr) (H H' : Hp) : Prop := ∀ b o, b ≠ p → H b = some o → H' b = some o
theorem Chg.refl {p : Addr} {H : Hp} : Chg p H H := fun _ _ _ h => h
theorem Chg.trans {p : Addr} {H H1 H2 : Hp} (a : Chg p H H1) (b : Chg p H1 H2) : Chg p H H2 := fun c o n h => b c o n (a c o n h)
theorem Chg.of_same {p : Addr} {H H' : Hp} (h : Same H H') : Chg p H H' := fun b o _ e => h b o e
theorem same_upd {H : Hp} {p : Addr} {o : HO} (h : H p = none) : Same H (upd H p o) := fun b x e => by
  rw [upd_ne (ne_of_none e h)]
  exact e
theorem chg_upd {H : Hp} {p : Addr} {o : HO} : Chg p H (upd H p o) := fun b x n e => by
  rw [upd_ne n]
  exact e
theorem Chg.free {p : Addr} {H H' : Hp} (c : Chg p H H') {l : Addr} (n : l ≠ p) (h : H' l = none) : H l = none := by
  cases q : H l with
  | none => rfl
  | some o =>
    rw [c l o n q] at h
    cases h
/-- a new thing is laid, then that is changed: nothing old is -/
theorem Same.chg_new {p : Addr} {H H1 H2 : Hp} (a : Same H H1) (n : H p = none) (c : Chg p H1 H2) : Same H H2 := fun b o e => c b o (ne_of_none e n) (a b o e)
theorem Same.tup {K : PySem.W.Frag} {H H' : Hp} {a : Addr} {xs : List V} (e : Same H H') (h : SqT K H a xs) : SqT K H' a xs := by
  rcases h with (h | ⟨o, h⟩) | h
  · exact .inl (.inl (e _ _ h))
  · exact .inl (.inr ⟨o, e _ _ h⟩)
  · exact .inr h
theorem Chg.tup {K : PySem.W.Frag} {p : Addr} {H H' : Hp} {a : Addr} {xs l : List V} (c : Chg p H H') (hp : H p = some (.lst l)) (h : SqT K H a xs) : SqT K H' a xs := by
  rcases h with (h | ⟨o, h⟩) | h
  · exact .inl (.inl (c _ _ (fun e => by subst e; rw [hp] at h; cases h) h))
  · exact .inl (.inr ⟨o, c _ _ (fun e => by subst e; rw [hp] at h; cases h) h⟩)
  · exact .inr h
/-! ### data in the heap -/
mutual
def noL : PyData → Bool
  | .list _ => false
  | .dict _ => false
  | .tuple ds => noLs ds
  | _ => true
def noLs : List PyData → Bool
  | [] => true
  | d :: ds => noL d && noLs ds
end
section
variable {K : PySem.W.Frag} {H H' : Hp}
mutual
theorem dp_same (e : Same H H') : ∀ (d : PyData) (v : V), Dp K H v d → Dp K H' v d
  | .none, _, h => by cases h; exact .non
  | .bool b, _, h => by cases h; exact .bl b
  | .int i, _, h => by cases h; exact .int i
  | .str x, _, h => by cases h; exact .str x
  | .list ds, _, h => by
    cases h with
    | lst hs ha => exact .lst (e.seq hs) (dps_same e ds _ ha)
  | .tuple ds, _, h => by
    cases h with
    | tup hs ha => exact .tup (Same.tup e hs) (dps_same e ds _ ha)
  | .dict _, _, h => by cases h
theorem dps_same (e : Same H H') : ∀ (ds : List PyData) (vs : List V), DpAll K H vs ds → DpAll K H' vs ds
  | [], _, h => by cases h; exact .nil
  | d :: ds, _, h => by
    cases h with
    | cons a b => exact .cons (dp_same e d _ a) (dps_same e ds _ b)
end
mutual
theorem dp_chg {p : Addr} {l : List V} (c : Chg p H H') (hp : H p = some (.lst l)) : ∀ (d : PyData) (v : V), noL d = true → Dp K H v d → Dp K H' v d
  | .none, _, _, h => by cases h; exact .non
  | .bool b, _, _, h => by cases h; exact .bl b
  | .int i, _, _, h => by cases h; exact .int i
  | .str x, _, _, h => by cases h; exact .str x
  | .list ds, _, n, h => by cases n
  | .tuple ds, _, n, h => by
    cases h with
    | tup hs ha => exact .tup (c.tup hp hs) (dps_chg c hp ds _ n ha)
  | .dict _, _, _, h => by cases h
theorem dps_chg {p : Addr} {l : List V} (c : Chg p H H') (hp : H p = some (.lst l)) : ∀ (ds : List PyData) (vs : List V), noLs ds = true → DpAll K H vs ds → DpAll K H' vs ds
  | [], _, _, h => by cases h; exact .nil
  | d :: ds, _, n, h => by
    have n2 : noL d = true ∧ noLs ds = true := by simpa [noLs] using n
    cases h with
    | cons a b => exact .cons (dp_chg c hp d _ n2.1 a) (dps_chg c hp ds _ n2.2 b)
end
theorem dps_len : ∀ {vs : List V} {ds : List PyData}, DpAll K H vs ds → vs.length = ds.length
  | _, _, .nil => rfl
  | _, _, .cons _ t => congrArg Nat.succ (dps_len t)
theorem dps_get : ∀ {vs : List V} {ds : List PyData} {i : Nat} {v : V}, DpAll K H vs ds → vs[i]? = some v → ∃ d, ds[i]? = some d ∧ Dp K H v d
  | _, _, _, _, .nil, e => by simp at e
  | _, _, 0, _, .cons r _, e => by simp at e; subst e; exact ⟨_, rfl, r⟩
  | _, _, i + 1, x, .cons _ t, e => by
    obtain ⟨u, h1, h2⟩ := dps_get (i := i) (v := x) t (by simpa using e)
    exact ⟨u, by simpa using h1, h2⟩
theorem dps_app : ∀ {xs ys : List V} {us ws : List PyData}, DpAll K H xs us → DpAll K H ys ws → DpAll K H (xs ++ ys) (us ++ ws)
  | _, _, _, _, .nil, s => s
  | _, _, _, _, .cons r t, s => .cons r (dps_app t s)
theorem dps_take : ∀ {xs : List V} {us : List PyData} (n : Nat), DpAll K H xs us → DpAll K H (xs.take n) (us.take n)
  | _, _, 0, _ => .nil
  | _, _, _ + 1, .nil => .nil
  | _, _, n + 1, .cons r t => .cons r (dps_take n t)
theorem dps_drop : ∀ {xs : List V} {us : List PyData} (n : Nat), DpAll K H xs us → DpAll K H (xs.drop n) (us.drop n)
  | _, _, 0, r => r
  | _, _, _ + 1, .nil => .nil
  | _, _, n + 1, .cons _ t => dps_drop n t
theorem dps_rev : ∀ {xs : List V} {us : List PyData}, DpAll K H xs us → DpAll K H xs.reverse us.reverse
  | _, _, .nil => .nil
  | _, _, .cons r t => by
    rw [List.reverse_cons, List.reverse_cons]
    exact dps_app (dps_rev t) (.cons r .nil)
end
/-! FRACTIONs and ROWs as data -/
def frD (q : Rat) : PyData := .tuple [.int q.num, .int (q.den : Int)]
def frs (qs : List Rat) : List PyData := qs.map frD
def rowD (qs : List Rat) (w : Int) : PyData := .tuple [.tuple (frs qs), .int w]
theorem noL_fr (q : Rat) : noL (frD q) = true := rfl
theorem noL_frs : ∀ qs : List Rat, noLs (frs qs) = true
  | [] => rfl
  | q :: qs => by
    show (noL (frD q) && noLs (frs qs)) = true
    rw [noL_fr, noL_frs qs]
    rfl
theorem noL_row (qs : List Rat) (w : Int) : noL (rowD qs w) = true := by
  show (noLs (frs qs) && (true && true)) = true
  rw [noL_frs]
  rfl
theorem dp_fr {K : PySem.W.Frag} {H : Hp} {v : V} {q : Rat} (h : Dp K H v (frD q)) : ∃ a, v = .ref a ∧ SqT K H a [.int q.num, .int (q.den : Int)] := by
  cases h with
  | tup hs ha =>
    cases ha with
    | cons a b =>
      cases b with
      | cons c d =>
        cases d
        cases a
        cases c
        exact ⟨_, rfl, hs⟩
theorem dp_fr_mk {K : PySem.W.Frag} {H : Hp} {a : Addr} {q : Rat} (h : SqT K H a [.int q.num, .int (q.den : Int)]) : Dp K H (.ref a) (frD q) := .tup h (.cons (.int _) (.cons (.int _) .nil))
theorem dp_tup {K : PySem.W.Frag} {H : Hp} {v : V} {ds : List PyData} (h : Dp K H v (.tuple ds)) : ∃ a xs, v = .ref a ∧ SqT K H a xs ∧ DpAll K H xs ds := by
  cases h with
  | tup hs ha => exact ⟨_, _, rfl, hs, ha⟩
theorem dp_lst {K : PySem.W.Frag} {H : Hp} {v : V} {ds : List PyData} (h : Dp K H v (.list ds)) : ∃ a xs, v = .ref a ∧ SqL K H a xs ∧ DpAll K H xs ds := by
  cases h with
  | lst hs ha => exact ⟨_, _, rfl, hs, ha⟩
theorem dp_int {K : PySem.W.Frag} {H : Hp} {v : V} {i : Int} (h : Dp K H v (.int i)) : v = .int i := by
  cases h
  rfl
theorem dp_row {K : PySem.W.Frag} {H : Hp} {v : V} {qs : List Rat} {w : Int} (h : Dp K H v (rowD qs w)) : ∃ a b xs, v = .ref a ∧ SqT K H a [.ref b, .int w] ∧ SqT K H b xs ∧ DpAll K H xs (frs qs) := by
  obtain ⟨a, xs, rfl, h1, h2⟩ := dp_tup h
  cases h2 with
  | cons x y =>
    cases y with
    | cons z u =>
      cases u
      obtain ⟨b, ys, rfl, h3, h4⟩ := dp_tup x
      cases z
      exact ⟨a, b, ys, rfl, h1, h3, h4⟩
theorem dp_row_mk {K : PySem.W.Frag} {H : Hp} {a b : Addr} {xs : List V} {qs : List Rat} {w : Int} (h1 : SqT K H a [.ref b, .int w]) (h2 : SqT K H b xs) (h3 : DpAll K H xs (frs qs)) : Dp K H (.ref a) (rowD qs w) :=
  .tup h1 (.cons (.tup h2 h3) (.cons (.int w) .nil))
/-! ### the box of draws -/
structure Bx (H : Hp) (p : Addr) (n : Nat) : Prop where
  ex : ∃ x y z : Int, H p = some (.lst [.int x, .int y, .int z]) ∧ 0 ≤ x ∧ 0 ≤ y ∧ y < 4000000000000000000 ∧ 0 ≤ z ∧ z ≤ n
theorem Bx.at {H : Hp} {p : Addr} {n : Nat} (b : Bx H p n) : ∃ l, H p = some (.lst l) := by
  obtain ⟨x, y, z, h, _⟩ := b.ex
  exact ⟨_, h⟩
theorem Bx.mono {H : Hp} {p : Addr} {n m : Nat} (b : Bx H p n) (h : n ≤ m) : Bx H p m := by
  obtain ⟨x, y, z, a, b, c, d, e, f⟩ := b.ex
  exact ⟨x, y, z, a, b, c, d, e, by omega⟩
theorem Bx.same {H H' : Hp} {p : Addr} {n : Nat} (b : Bx H p n) (e : Same H H') : Bx H' p n := by
  obtain ⟨x, y, z, h, r⟩ := b.ex
  exact ⟨x, y, z, e _ _ h, r⟩
theorem Bx.dp {K : PySem.W.Frag} {H H' : Hp} {p : Addr} {n : Nat} {v : V} {d : PyData} (b : Bx H p n) (c : Chg p H H') (h : Dp K H v d) (nl : noL d = true) : Dp K H' v d := by
  obtain ⟨l, e⟩ := b.at
  exact dp_chg c e d v nl h
theorem Bx.dps {K : PySem.W.Frag} {H H' : Hp} {p : Addr} {n : Nat} {vs : List V} {ds : List PyData} (b : Bx H p n) (c : Chg p H H') (h : DpAll K H vs ds) (nl : noLs ds = true) : DpAll K H' vs ds := by
  obtain ⟨l, e⟩ := b.at
  exact dps_chg c e ds vs nl h

/-! ### panes -/
structure PaneQ (q : Rat) : Prop where
  lo : -1 < q
  hi : q < 1
  sz : Sz 6 q
theorem pane_fr {t u : Int} (h1 : -u < t) (h2 : t < u) (h3 : u ≤ 60) : PaneQ (Rat.divInt t u) := by
  have hu : 0 < u := by omega
  have hq : (0 : Rat) < (u : Rat) := Rat.intCast_pos.mpr hu
  refine ⟨?_, ?_, sz_fr hu (by omega) (by omega)⟩
  · rw [Rat.divInt_eq_div, Rat.lt_div_iff hq]
    have e : (-1 : Rat) * (u : Rat) = ((-u : Int) : Rat) := by
      rw [Rat.intCast_neg]
      grind
    rw [e]
    exact Rat.intCast_lt_intCast.mpr h1
  · rw [Rat.divInt_eq_div, Rat.div_lt_iff hq, Rat.one_mul]
    exact Rat.intCast_lt_intCast.mpr h2
theorem fr_own {t u : Int} (h : 0 < u) (g : Int.gcd t u = 1) : (Rat.divInt t u).num = t ∧ ((Rat.divInt t u).den : Int) = u := by
  rw [fr_num h, fr_den h, g]
  simp
theorem gcd_one_less (u : Int) : Int.gcd (1 - u) u = 1 := by
  have e : (1 : Int) - u = 1 - u * 1 := by omega
  rw [e, Int.gcd_sub_mul_left_left, Int.gcd_one_left]
theorem pick3 {r : Int} (h0 : 0 ≤ r) (h1 : r < 3) : ∃ z : Int, atI [V.int 3, .int 8, .int 59] r = some (.int z) ∧ 0 < z ∧ z ≤ 59 := by
  have h : r = 0 ∨ r = 1 ∨ r = 2 := by omega
  rcases h with rfl | rfl | rfl
  · exact ⟨3, rfl, by decide, by decide⟩
  · exact ⟨8, rfl, by decide, by decide⟩
  · exact ⟨59, rfl, by decide, by decide⟩
theorem dp_fr_lit {K : PySem.W.Frag} {H : Hp} {a : Addr} {t u : Int} (hu : 0 < u) (g : Int.gcd t u = 1) (h : SqT K H a [.int t, .int u]) : Dp K H (.ref a) (frD (Rat.divInt t u)) := by
  obtain ⟨e1, e2⟩ := fr_own hu g
  refine dp_fr_mk ?_
  rw [e1, e2]
  exact h
/-- what a value tells: a pane -/
def IsPane (K : PySem.W.Frag) (H : Hp) (v : V) : Prop := ∃ q, PaneQ q ∧ Dp K H v (frD q)
theorem IsPane.same {K : PySem.W.Frag} {H H' : Hp} {v : V} (h : IsPane K H v) (e : Same H H') : IsPane K H' v := by
  obtain ⟨q, a, b⟩ := h
  exact ⟨q, a, dp_same e _ _ b⟩
theorem pane_lit {K : PySem.W.Frag} {H : Hp} {a : Addr} {t u : Int} (g : Int.gcd t u = 1) (h1 : -u < t) (h2 : t < u) (h3 : u ≤ 60) (h : SqT K H a [.int t, .int u]) : IsPane K H (.ref a) :=
  ⟨_, pane_fr h1 h2 h3, dp_fr_lit (by omega) g h⟩
theorem upd_new_ne {H : Hp} {p l : Addr} {o u : HO} (h : H p = some o) (n : H l = none) : (upd H l u) p = some o := by
  rw [upd_ne (ne_of_none h n)]
  exact h
/-- what is said of a list that is laid anew amid a comprehension's turns stays where a new item is put to it -/
theorem dps_put {K : PySem.W.Frag} {H : Hp} {D : Addr} {acc acc2 : List V} {vs : List V} {ds : List PyData} (h : H D = some (.lst acc)) (n : noLs ds = true) (d : DpAll K H vs ds) : DpAll K (upd H D (.lst acc2)) vs ds := dps_chg chg_upd h ds vs n d
theorem dp_put {K : PySem.W.Frag} {H : Hp} {D : Addr} {acc acc2 : List V} {v : V} {d : PyData} (h : H D = some (.lst acc)) (n : noL d = true) (x : Dp K H v d) : Dp K (upd H D (.lst acc2)) v d := dp_chg chg_upd h d v n x
theorem Bx.other {H : Hp} {p D : Addr} {n : Nat} {o : HO} (b : Bx H p n) (h : p ≠ D) : Bx (upd H D o) p n := by
  obtain ⟨x, y, z, e, r⟩ := b.ex
  exact ⟨x, y, z, by rw [upd_ne h]; exact e, r⟩
/-- a thing that was new is changed -/
theorem Chg.new_upd {p D : Addr} {H H1 : Hp} {o : HO} (c : Chg p H H1) (n : H D = none) : Chg p H (upd H1 D o) := fun b x nb e => by
  rw [upd_ne (ne_of_none e n)]
  exact c b x nb e
theorem Same.new_upd {D : Addr} {H H1 : Hp} {o : HO} (c : Same H H1) (n : H D = none) : Same H (upd H1 D o) := fun b x e => by
  rw [upd_ne (ne_of_none e n)]
  exact c b x e
theorem frs_app (a b : List Rat) : frs (a ++ b) = frs a ++ frs b := List.map_append
theorem dps_snoc {K : PySem.W.Frag} {H : Hp} {vs : List V} {qs : List Rat} {v : V} {q : Rat} (a : DpAll K H vs (frs qs)) (b : Dp K H v (frD q)) : DpAll K H (vs ++ [v]) (frs (qs ++ [q])) := by
  rw [frs_app]
  exact dps_app a (.cons b .nil)
theorem ty_tup {K : PySem.W.Frag} {H : Hp} {a : Addr} {xs : List V} (h : SqT K H a xs) : TyX K H (.ref a) (.type "tuple") := by
  rcases h with (h | ⟨o, h⟩) | ⟨o, its, n, h, c, _⟩
  · exact .base (.tup h)
  · exact .fTuple h
  · exact .kTuple h c
theorem ty_lst {K : PySem.W.Frag} {H : Hp} {a : Addr} {xs : List V} (h : SqL K H a xs) : TyX K H (.ref a) (.type "list") := by
  rcases h with (h | ⟨o, h⟩) | ⟨o, its, n, h, c, _⟩
  · exact .base (.lst h)
  · exact .base (.frz h)
  · exact .kList h c
theorem walk_zipT {K : PySem.W.Frag} {a b : Addr} {xs ys : List V} {n : Nat} (hn : n = min xs.length ys.length) : Walk (RZ.ItzT K a b) n (fun H => SqT K H a xs ∧ SqT K H b ys) (YPair (fun i => xs[i]?) (fun i => ys[i]?)) := by
  subst hn
  refine ⟨fun i _ hi q => ?_, fun _ q => ⟨xs, ys, q.1, q.2, by omega⟩, fun i H v H' _ q y => ?_⟩
  · have h1 : i < xs.length := by omega
    have h2 : i < ys.length := by omega
    exact ⟨xs, ys, xs[i], ys[i], q.1, q.2, by simp [h1], by simp [h2]⟩
  · obtain ⟨T, x, z, h1, h2, h3, h4, h5⟩ := y
    exact ⟨T, x, z, h1, h2, h3, h4 xs q.1, h5 ys q.2⟩
theorem PaneQ.z {q : Rat} (h : PaneQ q) : PaneZ 6 q := ⟨h.lo, h.hi, h.sz⟩
/-! ### calls by names alone -/
section
variable {X : Cx} {CX : CXT} {k : Nat} {f : Addr} {fd : FuncData} {ps ks : List Str} {sp : Sp} {E : XK} {x : Str} {p pos : Pos} {kws : List Keyword} {tk : TA} {g : List Value → List Value → List Value} {gV : List V → List V → List V}
theorem pe_callN0 (F : FnOk X.prog X.w X.K X.mg X.base CX k f fd ps sp) (hr : Room k X.A) (hg : Gl X x) (hm : X.mg x = some (.ref f)) (hk : PySem.W.keepIn X.K (.ref f) = true) (hb : KBn X.K fd ps 0 ks g gV) (hx : Passes CX X E)
    (hkw : PK X kws tk) (hall : (backToKw pos (keywordEach kws X.env)).all (·.1.isSome) = true := by rfl) (hks : (backToKw pos (keywordEach kws X.env)).filterMap (·.1) = ks := by rfl)
    (hdb : (x == ("__debug__" : Str)) = false := by decide)
    (hpl : ((backTo pos (starEach [] X.env)).any (·.1) || (backToKw pos (keywordEach kws X.env)).any (·.1.isNone)) = false := by rfl) :
    PE X (.Call (.Name x p) [] kws pos) (tCallN 0 ks.length sp gV E tNil tk) := by
  refine ⟨fun pins s σ H Q I h => ?_⟩
  refine wpAny_Call_Name_kw (ld_glob I hg hm ?_ hdb)
  refine PySem.W.callWith_KW0 (h₀ := X.base) I.ok.mod.kin hk hall (thn (hkw.run pos pins s σ H _ I h) fun ws s2 ⟨zs, H2, I2, rz, l1, l2, q2⟩ => ⟨I2.kIn, ?_⟩) hpl
  rw [hks]
  exact run_fnN F hr hb hx I2 .nil rz l1 l2 q2
end
section
variable {K : PySem.W.Frag} {f : Addr} {fd : FuncData} {ps : List Str}
/-- a def without defaults, some of its parameters handed in by their names -/
theorem Fun.kb {x qual : Str} {st : Stmt} (F : Fun K x qual st f fd) (n : Nat) (ks : List Str) (g : {α : Type} → List α → List α → List α)
    (hrel : ∀ {vs zs : List V} {us ws : List Value}, Vals vs us → Vals zs ws → Vals (g vs zs) (g us ws))
    (h : ∀ (kV doc pm : Value) (an : Option Addr) (cdv ct : Value) (us ws : List Value), us.length = n → ws.length = ks.length → bindArgs (PySem.W.fnOf x qual (defArgs st) (defBody st) (defScope st) .none kV doc pm an cdv ct) ⟨us, ks.zip ws⟩ = pure (ps.zip (g us ws))) :
    KBn K fd ps n ks (fun us ws => g us ws) (fun vs zs => g vs zs) := by
  obtain ⟨oc, od, kV, doc, pm, an, cdv, ct, osl, rfl, lk, hcd⟩ := F.ex
  exact ⟨fun s us ws _ l1 l2 => .of_eq (h kV doc pm an cdv ct us ws l1 l2), fun r1 r2 => hrel r1 r2⟩
/-- a def with keyword-only defaults alone; ms: those that lack -/
theorem FunD.kb {x qual : Str} {params : Arguments} {body : List Stmt} {scope : Scope} {kws : List (Str × V)} (F : FunD K x qual params body scope [] kws f fd) (n : Nat) (ks : List Str) (ms : List (Str × V)) (g : {α : Type} → List α → List α → List α → List α)
    (hk : kws ≠ []) (hms : ∀ q ∈ ms, q ∈ kws)
    (hrel : ∀ {vs mz zs : List V} {us mv ws : List Value}, Vals vs us → Vals mz mv → Vals zs ws → Vals (g vs mz zs) (g us mv ws))
    (h : ∀ (D : Addr) (doc pm : Value) (an : Option Addr) (cdv ct : Value) (us mv ws : List Value), us.length = n → mv.length = ms.length → ws.length = ks.length →
      KwChain D ((ms.map (·.1)).zip mv) (bindArgs (PySem.W.fnOf x qual params body scope .none (.ref D) doc pm an cdv ct) ⟨us, ks.zip ws⟩) (ps.zip (g us mv ws))) :
    ∃ mv : List Value, KBn K fd ps n ks (fun us ws => g us mv ws) (fun vs zs => g vs (ms.map (·.2)) zs) := by
  obtain ⟨oc, od, dV, kV, doc, pm, an, cdv, ct, osl, rfl, lk, hcd, hD, hK⟩ := F.ex
  rcases hD with ⟨_, rfl⟩ | ⟨e, _⟩
  · rcases hK with e | ⟨D, rfl, hq⟩
    · exact absurd e hk
    · obtain ⟨mv, hl, rk, hks⟩ := kwd_vals (ms := ms) fun q hm => hq q (hms q hm)
      refine ⟨mv, ⟨fun s us ws X l1 l2 => BindsTo.of_looks fun M => KwChain.looks X hks (h D doc pm an cdv ct us mv ws l1 hl l2), fun r1 r2 => hrel r1 rk r2⟩⟩
  · exact absurd rfl e
end
/-! ### a callee, in short -/
structure Cal (P : Program) (w : World) (K : PySem.W.Frag) (mg : Str → Option Value) (base : Heap) (k : Nat) (x : Str) (ps : List Str) (sp : Sp) (f : Addr) (fd : FuncData) : Prop where
  kp : PySem.W.keepIn K (.ref f) = true
  ok : FnOk P w K mg base CX0 k f fd ps sp
  bd : Binds K fd ps []
  at_ : mg x = some (.ref f)
theorem pe_c {X : Cx} {k : Nat} {x : Str} {ps : List Str} {sp : Sp} {f : Addr} {fd : FuncData} {p pos : Pos} {e : Expr} {es : List Expr} {t : TA} (c : Cal X.prog X.w X.K X.mg X.base k x ps sp f fd) (hr : Room k X.A) (hg : Gl X x) (ha : PA X (e :: es) t)
    (hdb : (x == ("__debug__" : Str)) = false := by decide) (he : starEach (e :: es) X.env = (false, eval e X.env) :: starEach es X.env := by rfl) (hpl : (backTo pos (starEach es X.env)).any (·.1) = false := by rfl) :
    PE X (.Call (.Name x p) (e :: es) [] pos) (tCall sp [] E0 t) := pe_call c.ok hr hg c.at_ c.kp c.bd .nil pass0 ha hdb he hpl
/-! ### a list of FRACTIONs -/
def Lq (K : PySem.W.Frag) (H : Hp) (L : Addr) (qs : List Rat) : Prop := ∃ us, H L = some (.lst us) ∧ DpAll K H us (frs qs)
section
variable {K : PySem.W.Frag} {H H' : Hp} {L p : Addr} {qs : List Rat}
theorem Lq.same (h : Lq K H L qs) (e : Same H H') : Lq K H' L qs := by
  obtain ⟨us, a, b⟩ := h
  exact ⟨us, e _ _ a, dps_same e _ _ b⟩
theorem Lq.chg {l : List V} (h : Lq K H L qs) (c : Chg p H H') (hp : H p = some (.lst l)) (n : L ≠ p) : Lq K H' L qs := by
  obtain ⟨us, a, b⟩ := h
  exact ⟨us, c _ _ n a, dps_chg c hp _ _ (noL_frs qs) b⟩
theorem Lq.dp (h : Lq K H L qs) : Dp K H (.ref L) (.list (frs qs)) := by
  obtain ⟨us, a, b⟩ := h
  exact .lst (SqL.of a) b
theorem Lq.ne (h : Lq K H L qs) {M : Addr} (n : H M = none) : L ≠ M := by
  obtain ⟨us, a, b⟩ := h
  exact ne_of_none a n
theorem Bx.lq {n : Nat} (b : Bx H p n) (c : Chg p H H') (h : Lq K H L qs) (ne : L ≠ p) : Lq K H' L qs := by
  obtain ⟨l, e⟩ := b.at
  exact h.chg c e ne
theorem Bx.ne {n : Nat} (b : Bx H p n) {M : Addr} (h : H M = none) : M ≠ p := by
  obtain ⟨l, e⟩ := b.at
  exact (ne_of_none e h).symm
end
/-! ### things laid anew -/
section
variable {K : PySem.W.Frag} {H : Hp} {a b : Addr}
theorem new_fr {t u : Int} (n : H a = none) (hu : 0 < u) (g : Int.gcd t u = 1) : Dp K (upd H a (.tup [.int t, .int u])) (.ref a) (frD (Rat.divInt t u)) := dp_fr_lit hu g (SqT.of upd_same)
theorem new_q {t u : Int} (n : H a = none) (q : Rat) (h1 : q.num = t) (h2 : (q.den : Int) = u) : Dp K (upd H a (.tup [.int t, .int u])) (.ref a) (frD q) := by
  subst h1 h2
  exact dp_fr_mk (SqT.of upd_same)
theorem new_row {xs : List V} {qs : List Rat} {w : Int} (n : H a = none) (hb : SqT K H b xs) (d : DpAll K H xs (frs qs)) : Dp K (upd H a (.tup [.ref b, .int w])) (.ref a) (rowD qs w) :=
  dp_row_mk (SqT.of upd_same) (Same.tup (same_upd n) hb) (dps_same (same_upd n) _ _ d)
theorem new_rowD {v : V} {qs : List Rat} {w : Int} (n : H a = none) (d : Dp K H v (.tuple (frs qs))) : Dp K (upd H a (.tup [v, .int w])) (.ref a) (rowD qs w) :=
  .tup (SqT.of upd_same) (.cons (dp_same (same_upd n) _ _ d) (.cons (.int w) .nil))
theorem new_tup {xs : List V} {ds : List PyData} (n : H a = none) (d : DpAll K H xs ds) : Dp K (upd H a (.tup xs)) (.ref a) (.tuple ds) := .tup (SqT.of upd_same) (dps_same (same_upd n) _ _ d)
theorem new_lst {xs : List V} {ds : List PyData} (n : H a = none) (d : DpAll K H xs ds) : Dp K (upd H a (.lst xs)) (.ref a) (.list ds) := .lst (SqL.of upd_same) (dps_same (same_upd n) _ _ d)
theorem same2 {o1 o2 : HO} (n1 : H a = none) (n2 : (upd H a o1) b = none) : Same H (upd (upd H a o1) b o2) := Same.trans (same_upd n1) (same_upd n2)
theorem same3 {c : Addr} {o1 o2 o3 : HO} (n1 : H a = none) (n2 : (upd H a o1) b = none) (n3 : (upd (upd H a o1) b o2) c = none) : Same H (upd (upd (upd H a o1) b o2) c o3) := Same.trans (same2 n1 n2) (same_upd n3)
theorem Same.new {H1 : Hp} {o : HO} (s : Same H H1) (n : H1 a = none) : Same H (upd H1 a o) := s.trans (same_upd n)
end
/-! ### == of FRACTIONs and ROWs -/
theorem eqv_fr (q r : Rat) : PyData.eqv (frD q) (frD r) = decide (q = r) := by
  have e : PyData.eqv (frD q) (frD r) = ((q.num == r.num) && ((q.den : Int) == (r.den : Int) && true)) := by
    unfold frD
    simp [PyData.eqv, PyData.eqvAll]
  rw [e, Bool.eq_iff_iff]
  simp only [Bool.and_true, Bool.and_eq_true, beq_iff_eq, decide_eq_true_eq]
  constructor
  · rintro ⟨h1, h2⟩
    exact Rat.ext h1 (by omega)
  · rintro rfl
    exact ⟨rfl, rfl⟩
theorem sh_fr (q : Rat) : SeqAt.shaped (frD q) = true := by
  unfold frD SeqAt.shaped
  simp [PyData.canLay0, PyData.canLayAll0, PyData.depth, PyData.depthAll]
theorem lay_frs : ∀ qs : List Rat, PyData.canLayAll0 (frs qs) = true
  | [] => by simp [frs, PyData.canLayAll0]
  | q :: qs => by
    have ih := lay_frs qs
    have e : frs (q :: qs) = frD q :: frs qs := rfl
    rw [e]
    simp only [PyData.canLayAll0, ih, Bool.and_true]
    simp [frD, PyData.canLay0, PyData.canLayAll0]
theorem dep_frs : ∀ qs : List Rat, PyData.depthAll (frs qs) ≤ 1
  | [] => by simp [frs, PyData.depthAll]
  | q :: qs => by
    have ih := dep_frs qs
    have e : frs (q :: qs) = frD q :: frs qs := rfl
    rw [e]
    simp only [PyData.depthAll]
    have e2 : (frD q).depth = 1 := by simp [frD, PyData.depth, PyData.depthAll]
    omega
theorem sh_frs (qs : List Rat) : SeqAt.shaped (.tuple (frs qs)) = true := by
  unfold SeqAt.shaped
  rw [Bool.and_eq_true]
  refine ⟨?_, decide_eq_true ?_⟩
  · simp only [PyData.canLay0]
    exact lay_frs qs
  · simp only [PyData.depth]
    have := dep_frs qs
    omega
theorem sh_row (qs : List Rat) (x : Int) : SeqAt.shaped (rowD qs x) = true := by
  unfold SeqAt.shaped rowD
  rw [Bool.and_eq_true]
  refine ⟨?_, decide_eq_true ?_⟩
  · simp only [PyData.canLay0, PyData.canLayAll0, lay_frs, Bool.and_true]
  · simp only [PyData.depth, PyData.depthAll]
    have := dep_frs qs
    omega
theorem eqv_self {d : PyData} (h : SeqAt.shaped d = true) : PyData.eqv d d = true := by
  unfold SeqAt.shaped at h
  rw [Bool.and_eq_true] at h
  exact SeqAt.eqv_refl d h.1
theorem walk_revT {K : PySem.W.Frag} {a : Addr} {xs : List V} : Walk (RT.ItvT K a xs.length) xs.length (fun H => SqT K H a xs) (fun i H x H' => H' = H ∧ xs[xs.length - 1 - i]? = some x) :=
  ⟨fun i H hi q => ⟨hi, xs, xs[xs.length - 1 - i]'(by omega), q, by simp [show xs.length - 1 - i < xs.length by omega]⟩, fun H q => Nat.le_refl _, fun i H x H' hi q y => ⟨y.1, y.2 xs q⟩⟩
/-! ### rules by data: tuples cut and joined, lists cut and joined -/
def cutG {α : Type} (xs : List α) (lo hi : Option Int) : List α := (xs.drop (HT.sIx xs.length 0 lo)).take (HT.sIx xs.length xs.length hi - HT.sIx xs.length 0 lo)
theorem dps_cut {K : PySem.W.Frag} {H : Hp} {xs : List V} {ds : List PyData} (lo hi : Option Int) (h : DpAll K H xs ds) : DpAll K H (cutV xs lo hi) (cutG ds lo hi) := by
  have e := dps_len h
  unfold cutV cutG
  rw [e]
  exact dps_take _ (dps_drop _ h)
theorem cutG_map {α β : Type} (f : α → β) (xs : List α) (lo hi : Option Int) : cutG (xs.map f) lo hi = (cutG xs lo hi).map f := by
  unfold cutG
  rw [List.length_map, List.map_take, List.map_drop]
theorem cut_frs (qs : List Rat) (lo hi : Option Int) : cutG (frs qs) lo hi = frs (cutG qs lo hi) := cutG_map frD qs lo hi
theorem cutG_to {α : Type} (xs : List α) (i : Nat) : cutG xs none (some (i : Int)) = xs.take i := by
  unfold cutG
  rw [HT.sIx_none, HT.sIx_nat, List.drop_zero, Nat.sub_zero]
  by_cases h : i ≤ xs.length
  · rw [Nat.min_eq_left h]
  · rw [Nat.min_eq_right (by omega), List.take_length, List.take_of_length_le (by omega)]
theorem cutG_from {α : Type} (xs : List α) (i : Nat) : cutG xs (some (i : Int)) none = xs.drop i := by
  unfold cutG
  rw [HT.sIx_none, HT.sIx_nat]
  by_cases h : i ≤ xs.length
  · rw [Nat.min_eq_left h]
    exact List.take_of_length_le (by rw [List.length_drop]; omega)
  · rw [Nat.min_eq_right (by omega), List.drop_of_length_le (Nat.le_refl _), List.drop_of_length_le (by omega), List.take_nil]
theorem cutG_amid {α : Type} (xs : List α) (i j : Nat) : cutG xs (some (i : Int)) (some (j : Int)) = (xs.drop i).take (j - i) := by
  unfold cutG
  rw [HT.sIx_nat, HT.sIx_nat]
  by_cases h : i ≤ xs.length
  · rw [Nat.min_eq_left h]
    by_cases h2 : j ≤ xs.length
    · rw [Nat.min_eq_left h2]
    · rw [Nat.min_eq_right (by omega), List.take_of_length_le (by rw [List.length_drop]; omega), List.take_of_length_le (by rw [List.length_drop]; omega)]
  · rw [List.drop_of_length_le (show xs.length ≤ min i xs.length by omega), List.drop_of_length_le (show xs.length ≤ i by omega), List.take_nil, List.take_nil]
theorem cutG_last {α : Type} (xs : List α) (x : α) : cutG (xs ++ [x]) none (some (-1)) = xs := by
  unfold cutG
  have e : HT.sIx (xs ++ [x]).length (xs ++ [x]).length (some (-1)) = xs.length := by
    show (if (-1 : Int) < 0 then ((-1 : Int) + ((xs ++ [x]).length : Int)).toNat else min (-1 : Int).toNat (xs ++ [x]).length) = xs.length
    rw [if_pos (by decide), List.length_append]
    simp
    omega
  rw [e, HT.sIx_none, List.drop_zero, Nat.sub_zero]
  simp
def rSlD (K : PySem.W.Frag) : V → Option Int → Option Int → Hp → VK → Prop := fun x lo hi H Q => ∃ ds, Dp K H x (.tuple ds) ∧ ∀ (v : V) (H' : Hp), Same H H' → Dp K H' v (.tuple (cutG ds lo hi)) → Q v H'
def rCatD (K : PySem.W.Frag) : R2 := fun x y H Q => ∃ d1 d2, Dp K H x (.tuple d1) ∧ Dp K H y (.tuple d2) ∧ d1.length + d2.length ≤ 1000 ∧ ∀ (v : V) (H' : Hp), Same H H' → Dp K H' v (.tuple (d1 ++ d2)) → Q v H'
section
variable {X : Cx}
theorem sl_tupD : SlR X (rSlD X.K) := fun pins s σ H x v vl vu lo hi sl Q I rx hs pl pu h => by
  obtain ⟨ds, d, q⟩ := h
  obtain ⟨a, xs, rfl, ha, hxs⟩ := dp_tup d
  refine sl_tupA pins s σ H _ v vl vu lo hi sl Q I rx hs pl pu ⟨a, xs, rfl, ha, fun hw => ?_, fun _ p np => ?_⟩
  · refine q _ _ (Same.refl H) (.tup ha ?_)
    have e : cutV xs lo hi = xs := by
      unfold cutV
      rw [hw.1, hw.2, List.drop_zero, Nat.sub_zero, List.take_length]
    have d2 := dps_cut lo hi hxs
    rw [e] at d2
    exact d2
  · exact q _ _ (same_upd np) (new_tup np (dps_cut lo hi hxs))
theorem op_catD : OpR X (binaryOp .Add) (rCatD X.K) := fun pins s σ H x y v u Q I rx ry h => by
  obtain ⟨d1, d2, e1, e2, hl, q⟩ := h
  obtain ⟨a, xs, rfl, ha, hxs⟩ := dp_tup e1
  obtain ⟨b, ys, rfl, hb, hys⟩ := dp_tup e2
  have l1 := dps_len hxs
  have l2 := dps_len hys
  refine op_catA pins s σ H _ _ v u Q I rx ry ⟨a, b, xs, ys, rfl, rfl, ha, hb, Nat.le_of_lt (Nat.lt_of_le_of_lt (by omega) (by decide : 1000 < sizeLine)), fun e => ?_, fun _ e => ?_, fun _ _ p np => ?_⟩
  · subst e
    cases hxs
    exact q _ _ (Same.refl H) e2
  · subst e
    cases hys
    rw [List.append_nil] at q
    exact q _ _ (Same.refl H) e1
  · exact q _ _ (same_upd np) (new_tup np (dps_app hxs hys))
end
theorem dps_erase {K : PySem.W.Frag} {H : Hp} : ∀ {xs : List V} {us : List PyData} (n : Nat), DpAll K H xs us → DpAll K H (xs.eraseIdx n) (us.eraseIdx n)
  | _, _, _, .nil => .nil
  | _, _, 0, .cons _ t => t
  | _, _, n + 1, .cons r t => .cons r (dps_erase n t)
theorem seqIx {i : Int} {n : Nat} (h0 : 0 ≤ i) (h1 : i < (n : Int)) : seqIndex? i n = some i.toNat := by
  unfold seqIndex?
  have e : (if i < 0 then i + (n : Int) else i) = i := if_neg (by omega)
  simp only [e]
  rw [if_pos (by simp [h0, h1])]
/-! ### lists of FRACTIONs cut, joined, turned about -/
def rSlLq (K : PySem.W.Frag) : V → Option Int → Option Int → Hp → VK → Prop := fun x lo hi H Q => ∃ L qs, x = .ref L ∧ Lq K H L qs ∧ ∀ (M : Addr) (H' : Hp), Same H H' → H M = none → Lq K H' M (cutG qs lo hi) → Q (.ref M) H'
def rCatLq (K : PySem.W.Frag) : R2 := fun x y H Q => ∃ L M q1 q2, x = .ref L ∧ y = .ref M ∧ Lq K H L q1 ∧ Lq K H M q2 ∧ q1.length + q2.length ≤ 1000 ∧ ∀ (N : Addr) (H' : Hp), Same H H' → H N = none → Lq K H' N (q1 ++ q2) → Q (.ref N) H'
theorem Lq.len {K : PySem.W.Frag} {H : Hp} {L : Addr} {qs : List Rat} (h : Lq K H L qs) : ∃ us, H L = some (.lst us) ∧ us.length = qs.length ∧ DpAll K H us (frs qs) := by
  obtain ⟨us, a, b⟩ := h
  exact ⟨us, a, by rw [dps_len b]; exact List.length_map .., b⟩
theorem Lq.new {K : PySem.W.Frag} {H : Hp} {M : Addr} {xs : List V} {qs : List Rat} (n : H M = none) (d : DpAll K H xs (frs qs)) : Lq K (upd H M (.lst xs)) M qs := ⟨xs, upd_same, dps_same (same_upd n) _ _ d⟩
theorem Lq.last {K : PySem.W.Frag} {H : Hp} {L : Addr} {ls : List Rat} {l : Rat} (h : Lq K H L (ls ++ [l])) : ∃ us u, H L = some (.lst (us ++ [u])) ∧ Dp K H u (frD l) := by
  obtain ⟨us, a, b⟩ := h
  rw [frs_app] at b
  have hl := dps_len b
  have e : us = us.take ls.length ++ us.drop ls.length := (List.take_append_drop _ _).symm
  have d2 := dps_drop ls.length b
  have e2 : (frs ls ++ frs [l]).drop ls.length = frs [l] := by
    have e3 : (frs ls).length = ls.length := List.length_map ..
    rw [← e3]
    exact List.drop_left
  rw [e2] at d2
  generalize us.drop ls.length = ds at *
  cases d2 with
  | cons x t =>
    cases t
    rw [e] at a
    exact ⟨_, _, a, x⟩
section
variable {X : Cx}
theorem sl_lq : SlR X (rSlLq X.K) := fun pins s σ H x v vl vu lo hi sl Q I rx hs pl pu h => by
  obtain ⟨L, qs, rfl, ⟨us, a, b⟩, q⟩ := h
  refine sl_list pins s σ H _ v vl vu lo hi sl Q I rx hs pl pu ⟨L, us, rfl, SqL.of a, fun p np => q p _ (same_upd np) np (Lq.new np ?_)⟩
  rw [← cut_frs]
  exact dps_cut lo hi b
theorem op_catLq : OpR X (binaryOp .Add) (rCatLq X.K) := fun pins s σ H x y v u Q I rx ry h => by
  obtain ⟨L, M, q1, q2, rfl, rfl, l1, l2, hl, q⟩ := h
  obtain ⟨us, a, ua, b⟩ := l1.len
  obtain ⟨us2, a2, ua2, b2⟩ := l2.len
  refine op_cat pins s σ H _ _ v u Q I rx ry ⟨L, M, us, us2, rfl, rfl, a, a2, Nat.le_of_lt (Nat.lt_of_le_of_lt (by omega) (by decide : 1000 < sizeLine)), fun p np => q p _ (same_upd np) np (Lq.new np ?_)⟩
  rw [frs_app]
  exact dps_app b b2
end
theorem cut_to_i {α : Type} {xs : List α} {i : Int} {n : Nat} (h : i = (n : Int)) : cutG xs none (some i) = xs.take n := by
  rw [h]
  exact cutG_to xs n
theorem cut_from_i {α : Type} {xs : List α} {i : Int} {n : Nat} (h : i = (n : Int)) : cutG xs (some i) none = xs.drop n := by
  rw [h]
  exact cutG_from xs n
theorem cut_amid_i {α : Type} {xs : List α} {i j : Int} {n m : Nat} (h : i = (n : Int)) (h2 : j = (m : Int)) : cutG xs (some i) (some j) = (xs.drop n).take (m - n) := by
  rw [h, h2]
  exact cutG_amid xs n m
end Ep
namespace Ep
open PySem PySem.Spec PyProof.Rows L2
/-! ### a law that shows things as texts: it must know that nothing is being shown around it -/
section
variable {P : Program} {w : World} {K : PySem.W.Frag} {mg : Str → Option Value} {base : Heap}
/-- a def's run in one surrounding alone -/
theorem fn_at {A : Around} {k : Nat} {x qual : Str} {st : Stmt} {f : Addr} {fd : FuncData} {N ps : List Str} {sp : Sp} (F : Fun K x qual st f fd) (S : FnScope N ps (defScope st)) (len : ∀ vs H Q E, sp vs H Q E → vs.length = ps.length)
    (hbody : ∀ (cdv : Value) (outer : List Env) (s : Shared) (H : Hp) (vs : List V) (Q : VK) (E : XK), Room k (A.deeper (envOfC qual (defScope st) s.heap.objs.size f cdv)) → sp vs H Q E →
      ∃ t, PSs (cxOf CX0 P w K mg base N qual (defScope st) f cdv A outer s H E).nox (defBody st) t ∧ t { nx := fun _ H' => Q .non H', rt := Q } (start N vs) H)
    {outer : List Env} {s : Shared} {H : Hp} {args : Args} {us : List Value} {vs : List V} {Q : VK} {E : XK} (hr : Room (k + 1) A) (e0 : Env0 P w K mg base A outer s H) (hb : BindsTo s fd args (ps.zip us)) (r : Vals vs us) (hsp : sp vs H Q E) :
    codeAny (model P w) A (.call (.ref f) args) (CR CX0 outer P w H s Q E) s := by
  obtain ⟨oc, od, kV, doc, pm, an, cdv, ct, osl, rfl, lk, hcd⟩ := F.ex
  have old : ∀ b o, base.get? b = some o → s.heap.get? b = some o := fun b o e => (e0.bs b o e).1
  have KX : K.In s.heap := e0.mod.kin.keeps old
  refine codeAny_call_function hr.depth (KX _ _ lk) rfl S.co S.gen rfl (PySem.W.codeRec_of KX hcd) (hb _ _ _ _ (wpAny_newFunctionEnv_cells S.kind (fun ⟨y, v⟩ hy => ?_) fun env he sN x => ?_))
  · rcases S.par y (List.of_mem_zip hy).1 with z | z
    · exact Or.inl z
    · exact Or.inr ⟨z, PySem.W.cellsFrom_some _ _ _ (Or.inl z)⟩
  · subst he
    refine ⟨(e0.mod.nolimit.keeps old).keeps x.toInCall.keep, codeAny_func ?_⟩
    obtain ⟨t, ht, hq⟩ := hbody cdv outer s H vs Q E (hr.deeper _) hsp
    have I : Inv (cxOf CX0 P w K mg base N qual (defScope st) f cdv A outer s H E) [] (start N vs) H sN := inv_start S hr.hd e0 (len _ _ _ _ hsp) r x
    refine wpAny_mono (ht.nox.run [] sN (start N vs) H _ I hq) (fun fl sE hs => ?_) fun e sE hs => hs
    cases fl with
    | ret u =>
      obtain ⟨v, σE, HE, J, rv, q⟩ := hs
      exact ⟨v, HE, J.os, J.bare, J.base, J.hok, rv, q⟩
    | next =>
      obtain ⟨σE, HE, J, q⟩ := hs
      exact ⟨V.non, HE, J.os, J.bare, J.base, J.hok, rfl, q⟩
    | brk =>
      obtain ⟨_, _, _, q⟩ := hs
      exact q.elim
    | cont =>
      obtain ⟨_, _, _, q⟩ := hs
      exact q.elim
/-- the law's call where it is called -/
theorem call_here {mb : Str → Option Value} {fa a : Addr} {sA : Shared} {vs : List Value} {ns : List Int} (KX : K.In sA.heap) (hns : sA.heap.Ns mainGlobals mg) (hb : sA.heap.Ns builtinsNs mb) (hbb : ∀ x : Str, x ≠ "__name__" → mb x = bootBuiltins x) (hlim : sA.heap.NoLimit)
    (hg : sA.gens = #[]) (ha : sA.heap.get? a = some { cls := .type "list", data := .seq vs.toArray }) (hi : IntsAre vs ns) (hl : ns.length ≤ sizeLine)
    (R : ∀ (base : Heap) (H : Hp), Env0 P w K mg base callerA [] sA H → SqL K H a (ns.map V.int) → codeAny (model P w) callerA (.call (.ref fa) ⟨[.ref a], []⟩) (CR CX0 [] P w H sA (fun v _ => v = .bl true) (fun _ _ _ => False)) sA) :
    codeAny (model P w) callerA (.call (.ref fa) ⟨[.ref a], []⟩) (fun r sE => r = .ok (.ret (.bool true)) ∧ OldK sA.heap sE.heap ∧ sE.os = sA.os ∧ AllBare sE.gens) sA := by
  have rv := vals_ints hi
  have hll : (ns.map V.int).length ≤ sizeLine := by rw [List.length_map]; exact hl
  obtain ⟨H, hH, hS⟩ : ∃ H : Hp, (∀ b u, H b = some u → b = a ∧ K.lookup a = none ∧ u = .frz { cls := .type "list", data := .seq vs.toArray } (.lst (ns.map V.int))) ∧ SqL K H a (ns.map V.int) := by
    cases hk : K.lookup a with
    | some o =>
      have e := (KX a o hk).symm.trans ha
      cases e
      refine ⟨fun _ => none, fun b u (e : (none : Option HO) = some u) => (nomatch e), .inr ⟨_, vs.toArray, _, hk, rfl, rfl, rfl, ?_, ?_⟩⟩
      · rw [List.size_toArray, ← rv.length]
        exact hll
      · simpa using rv
    | none =>
      refine ⟨fun b => if b = a then some (.frz { cls := .type "list", data := .seq vs.toArray } (.lst (ns.map V.int))) else none, fun b u e => ?_, .inl (.inr ⟨_, if_pos rfl⟩)⟩
      by_cases hab : b = a
      · have z := (if_pos hab).symm.trans e
        exact ⟨hab, rfl, (Option.some.inj z).symm⟩
      · have z := (if_neg hab).symm.trans e
        cases z
  have hok : HOk P w H sA.heap := fun b u e => by
    obtain ⟨rfl, _, rfl⟩ := hH b u e
    exact ⟨ha, hll, vs, _, rv, ha⟩
  have plain : ∀ {b : Addr} {o : Obj}, sA.heap.get? b = some o → (∀ its n, o.data ≠ .seq its n) → H b = none := fun {b o} e nd => by
    cases q : H b with
    | none => rfl
    | some u =>
      obtain ⟨rfl, _, _⟩ := hH b u q
      have z := ha.symm.trans e
      cases z
      exact absurd rfl (nd _ _)
  have hid : ∀ {b : Addr} {o : Obj}, sA.heap.get? b = some o → H b = none → (hidT sA.heap H).get? b = some o := fun e n => hidT_get e n
  have nsH : ∀ {b : Addr} {m : Str → Option Value}, sA.heap.Ns b m → (hidT sA.heap H).Ns b m := fun {b m} ⟨o, es, ep, e, d, rr⟩ => ⟨o, es, ep, hid e (plain e fun its n z => by rw [d] at z; cases z), d, rr⟩
  have KH : K.In (hidT sA.heap H) := fun b o e => hid (KX b o e) (by
    cases q : H b with
    | none => rfl
    | some u =>
      obtain ⟨rfl, z, _⟩ := hH b u q
      rw [z] at e
      cases e)
  have hM : Mod K mg (hidT sA.heap H) := ⟨KH, nsH hns, ⟨mb, nsH hb, hbb⟩, by
    obtain ⟨mc, h1, h2⟩ := hlim
    exact ⟨mc, nsH h1, h2⟩⟩
  have e0 : Env0 P w K mg (hidT sA.heap H) callerA [] sA H := ⟨rfl, hM, fun b o e => of_hidT e, Nat.le_of_eq (hidT_size _ _), trivial, fun b hbm => absurd (show b ∈ ([] : List Addr) from hbm) List.not_mem_nil, hok, .of_eq hg⟩
  refine codeAny_mono (R _ H e0 hS) fun rs sE h => ?_
  cases rs with
  | error e => exact h.elim
  | ok fl =>
    cases fl with
    | next => exact h.elim
    | brk => exact h.elim
    | cont => exact h.elim
    | ret u =>
      obtain ⟨v, HE, os, bare, un, okE, re, q⟩ := h
      cases (show v = .bl true from q)
      cases (show u = Value.bool true from re)
      refine ⟨rfl, OldK.of_keep fun b o e => ?_, os, bare⟩
      cases qb : H b with
      | none => exact un.keep b o e qb (fun z => absurd (show b ∈ ([] : List Addr) from z) List.not_mem_nil) List.not_mem_nil
      | some u =>
        obtain ⟨rfl, _, rfl⟩ := hH b u qb
        obtain ⟨e2, _⟩ := okE b _ (un.frzs b _ _ qb)
        have z := ha.symm.trans e
        cases z
        exact e2
end
/-- the end of a law row, the law's def run where it is called -/
theorem walk_here {l : PySem.W.OpenLaw} {n k : Nat} {q : Program} {loose : List Str} {XP : (Str → Option Value) → Heap → Prop} {YP : World → Heap → Prop} {d : DefRec} {K : Params → PySem.W.Frag}
    (hn : l.most = some n) (hn2 : n ≤ sizeLine) (hdf : d.params.defaults = []) (hr : Room k callerA) (hY : ∀ (w : World) (h : Heap), YP w h → (K w.params).In h)
    (F : ∀ (w : World) (mg : Str → Option Value) (fa : Addr) (h : Heap), (K w.params).In h → h.Ns mainGlobals mg → mg d.name = some (.ref fa) →
      ∀ (base : Heap) (H : Hp) (s : Shared) (a : Addr) (ns : List Int), ns.length ≤ n → Env0 l.prog w (K w.params) mg base callerA [] s H → SqL (K w.params) H a (ns.map V.int) →
        codeAny (model l.prog w) callerA (.call (.ref fa) ⟨[.ref a], []⟩) (CR CX0 [] l.prog w H s (fun v _ => v = .bl true) (fun _ _ _ => False)) s) :
    PySem.W.WalkO q loose XP YP l.row.toRowW d [] (fun f vs => PySem.call f vs) := by
  refine Att.attach_call hn hdf fun w sZ sA mg mb fa o pm cd doc a vs ns G Y ho hd hcd hmg hobj hints hlen hg => ?_
  exact call_here (hY w _ Y) G.T.g G.T.b G.T.builtins G.T.nolimit hg hobj hints (Nat.le_trans hlen hn2) fun base H e0 hS => F w mg fa _ (hY w _ Y) G.T.g hmg base H sA a ns hlen e0 hS
/-! ### repr of data -/
section
variable {X : Cx}
def rReprD (K : PySem.W.Frag) : List V → Hp → VK → Prop := fun xs H Q => ∃ (v : V) (d : PyData), xs = [v] ∧ Dp K H v d ∧ PyData.showable d = true ∧ PyData.depth d ≤ 1000 ∧ (PyData.shown d).length ≤ sizeLine ∧ Q (.str (PyData.shown d)) H
mutual
theorem dp_nodict {K : PySem.W.Frag} {H : Hp} : ∀ (d : PyData) (v : V), Dp K H v d → PyData.hasDict d = false
  | .none, _, _ => by simp [PyData.hasDict]
  | .bool _, _, _ => by simp [PyData.hasDict]
  | .int _, _, _ => by simp [PyData.hasDict]
  | .str _, _, _ => by simp [PyData.hasDict]
  | .list ds, _, h => by
    cases h with
    | lst hs ha =>
      simp only [PyData.hasDict]
      exact dps_nodict ds _ ha
  | .tuple ds, _, h => by
    cases h with
    | tup hs ha =>
      simp only [PyData.hasDict]
      exact dps_nodict ds _ ha
  | .dict _, _, h => by cases h
theorem dps_nodict {K : PySem.W.Frag} {H : Hp} : ∀ (ds : List PyData) (vs : List V), DpAll K H vs ds → PyData.hasDictAll ds = false
  | [], _, _ => by simp [PyData.hasDictAll]
  | d :: ds, _, h => by
    cases h with
    | cons a b =>
      simp only [PyData.hasDictAll]
      rw [dp_nodict d _ a, dps_nodict ds _ b]
      rfl
end
theorem call_reprD (hg : X.A.guards = some []) (hu : X.A.units + 1002 < cLine) : CallR X (.builtin "repr") (rReprD X.K) := by
  intro pins s σ H xs us Q I r h
  obtain ⟨v, d, rfl, hd, hs, hdep, hz, q⟩ := h
  obtain ⟨u, rfl, ru⟩ := vals1 r
  obtain ⟨as, rd⟩ := Dp.reads I d v u hd ru
  have hsm : d.hasDict = true → sysModules ∉ as := PyData.noDict_hsm (dp_nodict d v hd)
  cases d with
  | none =>
    cases hd
    cases ru
    exact PySem.P.repr_of_none ⟨.str _, H, I.tok _, ⟨_, rfl⟩, by simpa only [PyData.shown] using q⟩
  | bool b =>
    cases hd
    cases ru
    exact PySem.P.repr_of_bool ⟨.str _, H, I.tok _, ⟨_, rfl⟩, by simpa only [PyData.shown] using q⟩
  | int i =>
    cases hd
    obtain ⟨t, rfl⟩ := ru
    exact PySem.P.repr_of_int (by simpa [PyData.showable] using hs) ⟨.str _, H, I.tok _, ⟨_, rfl⟩, by simpa only [PyData.shown] using q⟩
  | str x =>
    cases hd
    obtain ⟨t, rfl⟩ := ru
    exact PySem.P.repr_of_str ⟨.str _, H, I.tok _, ⟨_, rfl⟩, by simpa only [PyData.shown] using q⟩ (by simpa only [PyData.shown] using hz)
  | list ds =>
    obtain ⟨a, xs, rfl, _, _⟩ := dp_lst hd
    cases ru
    exact repr_of_reads' rd hs hsm hg (by omega) (fun _ _ e => e) (fun h' t' tk hk => ⟨.str _, H, I.kept hk, ⟨_, rfl⟩, q⟩) hz
  | tuple ds =>
    obtain ⟨a, xs, rfl, _, _⟩ := dp_tup hd
    cases ru
    exact repr_of_reads' rd hs hsm hg (by omega) (fun _ _ e => e) (fun h' t' tk hk => ⟨.str _, H, I.kept hk, ⟨_, rfl⟩, q⟩) hz
  | dict kvs => cases hd
end
end Ep
namespace Ep
open PySem PySem.Spec PyProof.Rows L2
/-! ### data whose lists stand elsewhere than where S says -/
mutual
inductive Dx (K : PySem.W.Frag) (H : Hp) (S : Addr → Prop) : V → PyData → Prop
  | non : Dx K H S .non .none
  | bl (b : Bool) : Dx K H S (.bl b) (.bool b)
  | int (i : Int) : Dx K H S (.int i) (.int i)
  | str (x : Str) : Dx K H S (.str x) (.str x)
  | lst {a : Addr} {xs : List V} {ds : List PyData} : ¬ S a → H a = some (.lst xs) → DxAll K H S xs ds → Dx K H S (.ref a) (.list ds)
  | tup {a : Addr} {xs : List V} {ds : List PyData} : SqT K H a xs → DxAll K H S xs ds → Dx K H S (.ref a) (.tuple ds)
inductive DxAll (K : PySem.W.Frag) (H : Hp) (S : Addr → Prop) : List V → List PyData → Prop
  | nil : DxAll K H S [] []
  | cons {v : V} {vs : List V} {d : PyData} {ds : List PyData} : Dx K H S v d → DxAll K H S vs ds → DxAll K H S (v :: vs) (d :: ds)
end
section
variable {K : PySem.W.Frag} {H H' : Hp} {S S' : Addr → Prop}
mutual
theorem dx_dp : ∀ (d : PyData) (v : V), Dx K H S v d → Dp K H v d
  | .none, _, h => by cases h; exact .non
  | .bool b, _, h => by cases h; exact .bl b
  | .int i, _, h => by cases h; exact .int i
  | .str x, _, h => by cases h; exact .str x
  | .list ds, _, h => by
    cases h with
    | lst _ hs ha => exact .lst (SqL.of hs) (dxs_dp ds _ ha)
  | .tuple ds, _, h => by
    cases h with
    | tup hs ha => exact .tup hs (dxs_dp ds _ ha)
  | .dict _, _, h => by cases h
theorem dxs_dp : ∀ (ds : List PyData) (vs : List V), DxAll K H S vs ds → DpAll K H vs ds
  | [], _, h => by cases h; exact .nil
  | d :: ds, _, h => by
    cases h with
    | cons a b => exact .cons (dx_dp d _ a) (dxs_dp ds _ b)
end
mutual
theorem dx_to (h1 : ∀ b l, ¬ S b → H b = some (.lst l) → H' b = some (.lst l) ∧ ¬ S' b) (h2 : ∀ a xs, SqT K H a xs → SqT K H' a xs) : ∀ (d : PyData) (v : V), Dx K H S v d → Dx K H' S' v d
  | .none, _, h => by cases h; exact .non
  | .bool b, _, h => by cases h; exact .bl b
  | .int i, _, h => by cases h; exact .int i
  | .str x, _, h => by cases h; exact .str x
  | .list ds, _, h => by
    cases h with
    | lst n hs ha => exact .lst (h1 _ _ n hs).2 (h1 _ _ n hs).1 (dxs_to h1 h2 ds _ ha)
  | .tuple ds, _, h => by
    cases h with
    | tup hs ha => exact .tup (h2 _ _ hs) (dxs_to h1 h2 ds _ ha)
  | .dict _, _, h => by cases h
theorem dxs_to (h1 : ∀ b l, ¬ S b → H b = some (.lst l) → H' b = some (.lst l) ∧ ¬ S' b) (h2 : ∀ a xs, SqT K H a xs → SqT K H' a xs) : ∀ (ds : List PyData) (vs : List V), DxAll K H S vs ds → DxAll K H' S' vs ds
  | [], _, h => by cases h; exact .nil
  | d :: ds, _, h => by
    cases h with
    | cons a b => exact .cons (dx_to h1 h2 d _ a) (dxs_to h1 h2 ds _ b)
end
mutual
theorem dx_noL : ∀ (d : PyData) (v : V), noL d = true → Dp K H v d → Dx K H S v d
  | .none, _, _, h => by cases h; exact .non
  | .bool b, _, _, h => by cases h; exact .bl b
  | .int i, _, _, h => by cases h; exact .int i
  | .str x, _, _, h => by cases h; exact .str x
  | .list ds, _, n, h => by cases n
  | .tuple ds, _, n, h => by
    cases h with
    | tup hs ha => exact .tup hs (dxs_noL ds _ n ha)
  | .dict _, _, _, h => by cases h
theorem dxs_noL : ∀ (ds : List PyData) (vs : List V), noLs ds = true → DpAll K H vs ds → DxAll K H S vs ds
  | [], _, _, h => by cases h; exact .nil
  | d :: ds, _, n, h => by
    have n2 : noL d = true ∧ noLs ds = true := by simpa [noLs] using n
    cases h with
    | cons a b => exact .cons (dx_noL d _ n2.1 a) (dxs_noL ds _ n2.2 b)
end
theorem dx_same {d : PyData} {v : V} (e : Same H H') (h : Dx K H S v d) : Dx K H' S v d := dx_to (fun _ _ n x => ⟨e _ _ x, n⟩) (fun _ _ x => Same.tup e x) d v h
theorem dxs_same {ds : List PyData} {vs : List V} (e : Same H H') (h : DxAll K H S vs ds) : DxAll K H' S vs ds := dxs_to (fun _ _ n x => ⟨e _ _ x, n⟩) (fun _ _ x => Same.tup e x) ds vs h
theorem dx_chg {p : Addr} {l : List V} {d : PyData} {v : V} (c : Chg p H H') (hp : H p = some (.lst l)) (s : S p) (h : Dx K H S v d) : Dx K H' S v d :=
  dx_to (fun b _ n x => ⟨c _ _ (fun e => n (e ▸ s)) x, n⟩) (fun _ _ x => c.tup hp x) d v h
theorem dxs_chg {p : Addr} {l : List V} {ds : List PyData} {vs : List V} (c : Chg p H H') (hp : H p = some (.lst l)) (s : S p) (h : DxAll K H S vs ds) : DxAll K H' S vs ds :=
  dxs_to (fun b _ n x => ⟨c _ _ (fun e => n (e ▸ s)) x, n⟩) (fun _ _ x => c.tup hp x) ds vs h
/-- what is laid anew is none of the old things' lists -/
theorem dx_more {L : Addr} {d : PyData} {v : V} (hL : H L = none) (h : Dx K H S v d) : Dx K H (fun b => S b ∨ b = L) v d :=
  dx_to (fun b l n x => ⟨x, fun z => z.elim n (fun e => by subst e; rw [hL] at x; cases x)⟩) (fun _ _ x => x) d v h
theorem dxs_more {L : Addr} {ds : List PyData} {vs : List V} (hL : H L = none) (h : DxAll K H S vs ds) : DxAll K H (fun b => S b ∨ b = L) vs ds :=
  dxs_to (fun b l n x => ⟨x, fun z => z.elim n (fun e => by subst e; rw [hL] at x; cases x)⟩) (fun _ _ x => x) ds vs h
theorem dxs_len : ∀ {vs : List V} {ds : List PyData}, DxAll K H S vs ds → vs.length = ds.length
  | _, _, .nil => rfl
  | _, _, .cons _ t => congrArg Nat.succ (dxs_len t)
theorem dxs_get : ∀ {vs : List V} {ds : List PyData} {i : Nat} {v : V}, DxAll K H S vs ds → vs[i]? = some v → ∃ d, ds[i]? = some d ∧ Dx K H S v d
  | _, _, _, _, .nil, e => by simp at e
  | _, _, 0, _, .cons r _, e => by simp at e; subst e; exact ⟨_, rfl, r⟩
  | _, _, i + 1, x, .cons _ t, e => by
    obtain ⟨u, h1, h2⟩ := dxs_get (i := i) (v := x) t (by simpa using e)
    exact ⟨u, by simpa using h1, h2⟩
theorem dxs_mem {vs : List V} {ds : List PyData} {v : V} (h : DxAll K H S vs ds) (m : v ∈ vs) : ∃ d, d ∈ ds ∧ Dx K H S v d := by
  obtain ⟨i, hi⟩ := List.getElem?_of_mem m
  obtain ⟨d, e, x⟩ := dxs_get h hi
  exact ⟨d, List.mem_of_getElem? e, x⟩
theorem dxs_app : ∀ {xs ys : List V} {us ws : List PyData}, DxAll K H S xs us → DxAll K H S ys ws → DxAll K H S (xs ++ ys) (us ++ ws)
  | _, _, _, _, .nil, s => s
  | _, _, _, _, .cons r t, s => .cons r (dxs_app t s)
theorem dxs_take : ∀ {xs : List V} {us : List PyData} (n : Nat), DxAll K H S xs us → DxAll K H S (xs.take n) (us.take n)
  | _, _, 0, _ => .nil
  | _, _, _ + 1, .nil => .nil
  | _, _, n + 1, .cons r t => .cons r (dxs_take n t)
theorem dxs_drop : ∀ {xs : List V} {us : List PyData} (n : Nat), DxAll K H S xs us → DxAll K H S (xs.drop n) (us.drop n)
  | _, _, 0, r => r
  | _, _, _ + 1, .nil => .nil
  | _, _, n + 1, .cons _ t => dxs_drop n t
theorem dxs_cut {xs : List V} {ds : List PyData} (lo hi : Option Int) (h : DxAll K H S xs ds) : DxAll K H S (cutV xs lo hi) (cutG ds lo hi) := by
  have e := dxs_len h
  unfold cutV cutG
  rw [e]
  exact dxs_take _ (dxs_drop _ h)
theorem dxs_rep {xs : List V} {ds : List PyData} (h : DxAll K H S xs ds) : ∀ n : Nat, DxAll K H S (List.replicate n xs).flatten (List.replicate n ds).flatten
  | 0 => .nil
  | n + 1 => by
    rw [List.replicate_succ, List.replicate_succ, List.flatten_cons, List.flatten_cons]
    exact dxs_app h (dxs_rep h n)
theorem dx_tup {v : V} {ds : List PyData} (h : Dx K H S v (.tuple ds)) : ∃ a xs, v = .ref a ∧ SqT K H a xs ∧ DxAll K H S xs ds := by
  cases h with
  | tup hs ha => exact ⟨_, _, rfl, hs, ha⟩
theorem dx_lst {v : V} {ds : List PyData} (h : Dx K H S v (.list ds)) : ∃ a xs, v = .ref a ∧ ¬ S a ∧ H a = some (.lst xs) ∧ DxAll K H S xs ds := by
  cases h with
  | lst n hs ha => exact ⟨_, _, rfl, n, hs, ha⟩
theorem newx_tup {a : Addr} {xs : List V} {ds : List PyData} (n : H a = none) (d : DxAll K H S xs ds) : Dx K (upd H a (.tup xs)) S (.ref a) (.tuple ds) := .tup (SqT.of upd_same) (dxs_same (same_upd n) d)
theorem newx_lst {a : Addr} {xs : List V} {ds : List PyData} (n : H a = none) (s : ∀ b, S b → ∃ o, H b = some o) (d : DxAll K H S xs ds) : Dx K (upd H a (.lst xs)) S (.ref a) (.list ds) :=
  .lst (fun z => by obtain ⟨o, e⟩ := s a z; rw [n] at e; cases e) upd_same (dxs_same (same_upd n) d)
end
/-! ### how much there is of it -/
mutual
def sz : PyData → Nat
  | .list ds => 1 + szs ds
  | .tuple ds => 1 + szs ds
  | _ => 1
def szs : List PyData → Nat
  | [] => 0
  | d :: ds => sz d + szs ds
end
mutual
def okI (B : Nat) : PyData → Bool
  | .none => true
  | .bool _ => true
  | .int i => decide (i.natAbs ≤ B)
  | .str x => decide ((reprText x).length ≤ 12)
  | .list ds => okIs B ds
  | .tuple ds => okIs B ds
  | .dict _ => false
def okIs (B : Nat) : List PyData → Bool
  | [] => true
  | d :: ds => okI B d && okIs B ds
end
structure Th (B N : Nat) (d : PyData) : Prop where
  ok : okI B d = true
  sz : sz d ≤ N
structure Ths (B N : Nat) (ds : List PyData) : Prop where
  ok : okIs B ds = true
  sz : szs ds ≤ N
theorem sz_pos (d : PyData) : 1 ≤ sz d := by
  cases d <;> simp only [sz] <;> omega
theorem szs_len : ∀ ds : List PyData, ds.length ≤ szs ds
  | [] => Nat.le_refl _
  | d :: ds => by
    have a := szs_len ds
    have b := sz_pos d
    simp only [List.length_cons, szs]
    omega
theorem szs_app : ∀ (a b : List PyData), szs (a ++ b) = szs a + szs b
  | [], b => by simp [szs]
  | d :: a, b => by
    rw [List.cons_append]
    simp only [szs, szs_app a b]
    omega
theorem okIs_app {B : Nat} : ∀ (a b : List PyData), okIs B (a ++ b) = (okIs B a && okIs B b)
  | [], b => by simp [okIs]
  | d :: a, b => by
    rw [List.cons_append]
    simp only [okIs, okIs_app a b, Bool.and_assoc]
theorem okIs_mem {B : Nat} : ∀ (ds : List PyData), okIs B ds = true ↔ ∀ d ∈ ds, okI B d = true
  | [] => by simp [okIs]
  | d :: ds => by
    simp only [okIs, Bool.and_eq_true, okIs_mem ds, List.mem_cons, forall_eq_or_imp]
theorem szs_mem : ∀ (ds : List PyData) (d : PyData), d ∈ ds → sz d ≤ szs ds
  | x :: ds, d, h => by
    simp only [szs]
    rcases List.mem_cons.mp h with rfl | h
    · omega
    · have := szs_mem ds d h
      omega
theorem szs_rep (ds : List PyData) : ∀ n : Nat, szs (List.replicate n ds).flatten = n * szs ds
  | 0 => by simp [szs]
  | n + 1 => by
    rw [List.replicate_succ, List.flatten_cons, szs_app, szs_rep ds n, Nat.succ_mul]
    omega
mutual
theorem okI_le {B C : Nat} (h : B ≤ C) : ∀ d : PyData, okI B d = true → okI C d = true
  | .none, _ => by simp [okI]
  | .bool _, _ => by simp [okI]
  | .int i, e => by
    simp only [okI, decide_eq_true_eq] at e ⊢
    omega
  | .str x, e => by simpa [okI] using e
  | .list ds, e => by
    simp only [okI] at e ⊢
    exact okIs_le h ds e
  | .tuple ds, e => by
    simp only [okI] at e ⊢
    exact okIs_le h ds e
  | .dict _, e => by simp [okI] at e
theorem okIs_le {B C : Nat} (h : B ≤ C) : ∀ ds : List PyData, okIs B ds = true → okIs C ds = true
  | [], _ => by simp [okIs]
  | d :: ds, e => by
    simp only [okIs, Bool.and_eq_true] at e ⊢
    exact ⟨okI_le h d e.1, okIs_le h ds e.2⟩
end
theorem Th.le {B N C M : Nat} {d : PyData} (h : Th B N d) (h1 : B ≤ C) (h2 : N ≤ M) : Th C M d := ⟨okI_le h1 d h.ok, Nat.le_trans h.sz h2⟩
theorem Ths.le {B N C M : Nat} {ds : List PyData} (h : Ths B N ds) (h1 : B ≤ C) (h2 : N ≤ M) : Ths C M ds := ⟨okIs_le h1 ds h.ok, Nat.le_trans h.sz h2⟩
theorem Ths.mem {B N : Nat} {ds : List PyData} (h : Ths B N ds) {d : PyData} (m : d ∈ ds) : Th B N d := ⟨(okIs_mem ds).mp h.ok d m, Nat.le_trans (szs_mem ds d m) h.sz⟩
theorem Ths.app {B N M : Nat} {a b : List PyData} (h : Ths B N a) (g : Ths B M b) : Ths B (N + M) (a ++ b) := ⟨by rw [okIs_app, h.ok, g.ok]; rfl, by rw [szs_app]; have := h.sz; have := g.sz; omega⟩
theorem Ths.tup {B N : Nat} {ds : List PyData} (h : Ths B N ds) : Th B (1 + N) (.tuple ds) := ⟨by simp only [okI]; exact h.ok, by simp only [Ep.sz]; have := h.sz; omega⟩
theorem Ths.lst {B N : Nat} {ds : List PyData} (h : Ths B N ds) : Th B (1 + N) (.list ds) := ⟨by simp only [okI]; exact h.ok, by simp only [Ep.sz]; have := h.sz; omega⟩
theorem Ths.cons {B N M : Nat} {d : PyData} {ds : List PyData} (a : Th B N d) (b : Ths B M ds) : Ths B (N + M) (d :: ds) := ⟨by simp only [okIs, a.ok, b.ok]; rfl, by simp only [Ep.szs]; have := a.sz; have := b.sz; omega⟩
theorem Ths.nil {B : Nat} : Ths B 0 [] := ⟨by simp [okIs], by simp [szs]⟩
theorem Th.tup {B N : Nat} {ds : List PyData} (h : Th B N (.tuple ds)) : Ths B (N - 1) ds := ⟨by have := h.ok; simpa only [okI] using this, by have := h.sz; simp only [Ep.sz] at this; omega⟩
theorem Th.len {B N : Nat} {ds : List PyData} (h : Ths B N ds) : ds.length ≤ N := Nat.le_trans (szs_len ds) h.sz
theorem szs_part : ∀ {a b : List PyData}, a.Sublist b → szs a ≤ szs b
  | _, _, .slnil => Nat.le_refl _
  | _, _, .cons d h => by
    have := szs_part h
    simp only [szs]
    omega
  | _, _, .cons₂ d h => by
    have := szs_part h
    simp only [szs]
    omega
theorem Ths.sub {B N : Nat} {a b : List PyData} (h : Ths B N b) (s : a.Sublist b) : Ths B N a :=
  ⟨(okIs_mem a).mpr fun d m => (okIs_mem b).mp h.ok d (s.subset m), Nat.le_trans (szs_part s) h.sz⟩
theorem th_int {B : Nat} {i : Int} (h : i.natAbs ≤ B) : Th B 1 (.int i) := ⟨by simp only [okI]; exact decide_eq_true h, by simp [Ep.sz]⟩
/-! how long its text is -/
mutual
theorem depth_sz {B : Nat} : ∀ d : PyData, okI B d = true → PyData.depth d ≤ sz d
  | .none, _ => by simp [PyData.depth]
  | .bool _, _ => by simp [PyData.depth]
  | .int _, _ => by simp [PyData.depth]
  | .str _, _ => by simp [PyData.depth]
  | .list ds, h => by
    have := depths_sz (B := B) ds (by simpa only [okI] using h)
    simp only [PyData.depth, sz]
    omega
  | .tuple ds, h => by
    have := depths_sz (B := B) ds (by simpa only [okI] using h)
    simp only [PyData.depth, sz]
    omega
  | .dict _, h => by simp [okI] at h
theorem depths_sz {B : Nat} : ∀ ds : List PyData, okIs B ds = true → PyData.depthAll ds ≤ szs ds
  | [], _ => by simp [PyData.depthAll]
  | d :: ds, h => by
    simp only [okIs, Bool.and_eq_true] at h
    have := depth_sz (B := B) d h.1
    have := depths_sz (B := B) ds h.2
    simp only [PyData.depthAll, szs]
    omega
end
theorem from_len : ∀ (ts : List Str) (k : Nat) (acc : Str), (textFrom k acc ts).length ≤ acc.length + piled ts
  | [], k, acc => by show acc.length ≤ _; omega
  | t :: ts, k, acc => by
    show (textFrom (k + 1) (acc ++ (if k > 0 then ", " else "" : String) ++ t) ts).length ≤ _
    have h := from_len ts (k + 1) (acc ++ (if k > 0 then ", " else "" : String) ++ t)
    have e : (acc ++ (if k > 0 then ", " else "" : String) ++ t).length ≤ acc.length + 2 + t.length := by
      rw [strLen_append, strLen_append]
      split
      · have : (Str.ofString ", ").length = 2 := rfl
        omega
      · have : (Str.ofString "").length = 0 := rfl
        omega
    rw [piled_cons]
    omega
mutual
theorem shown_sz {B : Nat} (hB : B < 1000000) : ∀ d : PyData, okI B d = true → (PyData.shown d).length + 2 ≤ 16 * sz d
  | .none, _ => by simp only [PyData.shown, sz]; decide +kernel
  | .bool true, _ => by simp only [PyData.shown, sz]; decide +kernel
  | .bool false, _ => by simp only [PyData.shown, sz]; decide +kernel
  | .int i, h => by
    simp only [okI, decide_eq_true_eq] at h
    have e := int_text_length_le10 (a := i) (k := 6) (by decide) (by omega)
    have e2 : (Str.ofString (toString i)).length = (toString i).length := PySem.ofString_length _
    simp only [PyData.shown, sz]
    omega
  | .str x, h => by
    simp only [okI, decide_eq_true_eq] at h
    simp only [PyData.shown, sz]
    omega
  | .list ds, h => by
    have a := showns_sz hB ds (by simpa only [okI] using h)
    simp only [PyData.shown, sz]
    show (textFrom 0 "[" (PyData.shownAll ds) ++ "]").length + 2 ≤ _
    rw [strLen_append]
    have b := from_len (PyData.shownAll ds) 0 "["
    have c : (Str.ofString "[").length = 1 := rfl
    have c2 : (Str.ofString "]").length = 1 := rfl
    omega
  | .tuple ds, h => by
    have a := showns_sz hB ds (by simpa only [okI] using h)
    simp only [PyData.shown, sz]
    unfold tupleText
    rw [strLen_append, strLen_append]
    have b : (Str.join ", " (PyData.shownAll ds)).length ≤ piled (PyData.shownAll ds) := by
      by_cases e : PyData.shownAll ds = []
      · rw [e]
        exact Nat.zero_le _
      · have := join_length_add _ e
        omega
    have c : (Str.ofString "(").length = 1 := rfl
    have c2 : (Str.ofString (if (PyData.shownAll ds).length == 1 then ",)" else ")" : String)).length ≤ 2 := by
      split
      · exact Nat.le_refl 2
      · exact Nat.le_succ 1
    omega
  | .dict _, h => by simp [okI] at h
theorem showns_sz {B : Nat} (hB : B < 1000000) : ∀ ds : List PyData, okIs B ds = true → piled (PyData.shownAll ds) ≤ 16 * szs ds
  | [], _ => by simp [PyData.shownAll, piled]
  | d :: ds, h => by
    simp only [okIs, Bool.and_eq_true] at h
    have a := shown_sz hB d h.1
    have b := showns_sz hB ds h.2
    simp only [PyData.shownAll, szs]
    rw [piled_cons]
    omega
end
theorem Th.text {B N : Nat} {d : PyData} (h : Th B N d) (hB : B < 1000000) (hN : N ≤ 1000000) : (PyData.shown d).length ≤ sizeLine := by
  have a := shown_sz hB d h.ok
  have b := h.sz
  have c : sizeLine = 16777216 := by decide
  omega
mutual
theorem ok_showable {B : Nat} (hB : B < 1000000) : ∀ d : PyData, okI B d = true → PyData.showable d = true
  | .none, _ => by simp [PyData.showable]
  | .bool _, _ => by simp [PyData.showable]
  | .str _, _ => by simp [PyData.showable]
  | .int i, h => by
    simp only [okI, decide_eq_true_eq] at h
    simp only [PyData.showable, decide_eq_true_eq]
    by_cases h0 : i.natAbs = 0
    · rw [h0]
      decide
    · exact (Nat.log2_lt h0).mpr (Nat.lt_of_lt_of_le (Nat.lt_of_le_of_lt h hB) (Nat.le_trans (by decide : 1000000 ≤ 2 ^ 20) (Nat.pow_le_pow_right (by decide) (by decide))))
  | .list ds, h => by
    simp only [PyData.showable]
    exact oks_showable hB ds (by simpa only [okI] using h)
  | .tuple ds, h => by
    simp only [PyData.showable]
    exact oks_showable hB ds (by simpa only [okI] using h)
  | .dict _, h => by simp [okI] at h
theorem oks_showable {B : Nat} (hB : B < 1000000) : ∀ ds : List PyData, okIs B ds = true → PyData.showableAll ds = true
  | [], _ => by simp [PyData.showableAll]
  | d :: ds, h => by
    simp only [okIs, Bool.and_eq_true] at h
    simp only [PyData.showableAll, ok_showable hB d h.1, oks_showable hB ds h.2]
    rfl
end

/-! ### isinstance of data -/
def clsD : PyData → String
  | .none => "NoneType"
  | .bool _ => "bool"
  | .int _ => "int"
  | .str _ => "str"
  | .list _ => "list"
  | .tuple _ => "tuple"
  | .dict _ => "dict"
def isC (c t : String) : Bool := c == t || (t == "int" && c == "bool")
def isD (t : String) (d : PyData) : Bool := isC (clsD d) t
theorem kitC {c t : String} (hc : c = "NoneType" ∨ c = "bool" ∨ c = "int" ∨ c = "str" ∨ c = "list" ∨ c = "tuple") (ht : t = "tuple" ∨ t = "int" ∨ t = "bool") : kitB c t = some (isC c t) := by
  rcases hc with rfl | rfl | rfl | rfl | rfl | rfl <;> rcases ht with rfl | rfl | rfl <;> decide +kernel
def rIsD (K : PySem.W.Frag) : List V → Hp → VK → Prop := fun xs H Q => ∃ (v : V) (d : PyData) (t : String), xs = [v, .ty t] ∧ Dp K H v d ∧ (t = "tuple" ∨ t = "int" ∨ t = "bool") ∧ Q (.bl (isD t d)) H
section
variable {X : Cx}
theorem call_isD : CallR X (.builtin "isinstance") (rIsD X.K) := by
  intro pins s σ H xs us Q I r h
  obtain ⟨v, d, t, rfl, hd, ht, q⟩ := h
  refine call_isi pins s σ H _ us Q I r ?_
  cases d with
  | none =>
    cases hd
    exact ⟨_, _, _, _, _, rfl, .ty _, .base .non, kit_ty (kitC (c := "NoneType") (by simp) ht), q⟩
  | bool b =>
    cases hd
    exact ⟨_, _, _, _, _, rfl, .ty _, .base (.bl b), kit_ty (kitC (c := "bool") (by simp) ht), q⟩
  | int b =>
    cases hd
    exact ⟨_, _, _, _, _, rfl, .ty _, .base (.int b), kit_ty (kitC (c := "int") (by simp) ht), q⟩
  | str b =>
    cases hd
    exact ⟨_, _, _, _, _, rfl, .ty _, .base (.str b), kit_ty (kitC (c := "str") (by simp) ht), q⟩
  | list ds =>
    obtain ⟨a, ys, rfl, hs, _⟩ := dp_lst hd
    exact ⟨_, _, _, _, _, rfl, .ty _, ty_lst hs, kit_ty (kitC (c := "list") (by simp) ht), q⟩
  | tuple ds =>
    obtain ⟨a, ys, rfl, hs, _⟩ := dp_tup hd
    exact ⟨_, _, _, _, _, rfl, .ty _, ty_tup hs, kit_ty (kitC (c := "tuple") (by simp) ht), q⟩
  | dict kvs => cases hd
/-! ### tuples of such data cut, joined, told so many times -/
theorem tuple_self (l : Addr) (items : Array Value) (n : Nat) (dd : Option Addr) (sl : Array (Option Value)) (x : Int) (u : Tok) (c0 : (decide (x < -(2 ^ 63)) || decide (x ≥ 2 ^ 63)) = false) (c1 : (items.isEmpty || x == 1) = true) :
    Meets (Builtin.«tuple.__mul__» ⟨[.ref l, .int x u], []⟩) (fun _ R s => s.heap.get? l = some { cls := .type "tuple", dict := dd, data := .seq items n, slots := sl } ∧ R (.ok (.ret (Value.ref l))) s) :=
  .of_wp fun prog w A R s h => by
    obtain ⟨hp, g, d, tk, os⟩ := s
    obtain ⟨hl, h⟩ := h
    have f1 := AutoSeq1.idx_int
    wp_walk using AutoSeq1.wpAny_loadPart' hl
    repeat (first
      | (refine wpAny_ite_false (decide_eq_false (by rw [c0]; exact Bool.false_ne_true)) ?_; wp_walk using AutoSeq1.wpAny_loadPart' hl)
      | (refine wpAny_ite_true (decide_eq_true c1) ?_; wp_walk using AutoSeq1.wpAny_loadPart' hl))
    exact ⟨_, rfl, h⟩
theorem tuple_nought (l : Addr) (items : Array Value) (n : Nat) (dd : Option Addr) (sl : Array (Option Value)) (u : Tok) (hne : items.isEmpty = false) :
    Meets (Builtin.«tuple.__mul__» ⟨[.ref l, .int 0 u], []⟩) (fun _ R s => s.heap.get? l = some { cls := .type "tuple", dict := dd, data := .seq items n, slots := sl } ∧
      R (.ok (.ret (Value.ref s.heap.objs.size))) { s with heap := s.heap.push { cls := Value.type "tuple", data := Data.seq #[] }, toks := s.toks }) :=
  .of_wp fun prog w A R s h => by
    obtain ⟨hp, g, d, tk, os⟩ := s
    obtain ⟨hl, h⟩ := h
    have f1 := AutoSeq1.idx_int
    have c1 : (items.isEmpty || (0 : Int) == 1) = false := by
      rw [hne]
      rfl
    wp_walk using AutoSeq1.wpAny_loadPart' hl
    repeat (first
      | (refine wpAny_ite_false (decide_eq_false (by rw [c1]; exact Bool.false_ne_true)) ?_; wp_walk using AutoSeq1.wpAny_loadPart' hl))
    exact ⟨_, rfl, h⟩
def rRepX (K : PySem.W.Frag) (S : Addr → Prop) : R2 := fun x y H Q => ∃ (k : Int) (ds : List PyData), y = .int k ∧ Dx K H S x (.tuple ds) ∧ 0 ≤ k ∧ k ≤ 1000 ∧ ds.length ≤ 1000 ∧ ∀ (v : V) (H' : Hp), Same H H' → Dx K H' S v (.tuple (List.replicate k.toNat ds).flatten) → Q v H'
theorem op_repX {S : Addr → Prop} : OpR X (binaryOp .Mult) (rRepX X.K S) := by
  intro pins s σ H x y v u Q I rx ry h
  obtain ⟨k, ds, rfl, dd, hk0, hk1, hl1, q⟩ := h
  obtain ⟨l, xs, rfl, hT, hxs⟩ := dx_tup dd
  by_cases h2 : 2 ≤ k ∧ xs ≠ []
  · refine op_repT pins s σ H _ _ v u Q I rx ry ⟨l, k, xs, rfl, rfl, hT, h2.2, h2.1, hk1, by rw [dxs_len hxs]; exact hl1, fun p np => q _ _ (same_upd np) ?_⟩
    exact newx_tup np (dxs_rep hxs _)
  · cases rx
    obtain ⟨t, rfl⟩ := ry
    obtain ⟨its, r, ⟨⟨cls, di, data, sl⟩, ho, hc, n, hd⟩, hs⟩ := I.tuple hT
    simp only at hc hd
    subst hc hd
    have c0 : (decide (k < -(2 ^ 63)) || decide (k ≥ 2 ^ 63)) = false := by
      rw [decide_eq_false (by omega), decide_eq_false (by omega)] <;> rfl
    by_cases h3 : xs = [] ∨ k = 1
    · have c1 : (its.toArray.isEmpty || k == 1) = true := by
        rcases h3 with e | e
        · subst e
          cases r
          rfl
        · rw [e]
          simp
      have e : (List.replicate k.toNat ds).flatten = ds := by
        rcases h3 with e | e
        · subst e
          cases hxs
          simp
        · rw [e]
          simp
      rw [e] at q
      refine wpAny_binaryOp_repeat_ref (T := "tuple") (U := "int") (by decide) ⟨_, ho, rfl⟩ (fun s2 => typeIs_int s2 k t) noFill_tuple_mul F.fills_int_mul F.slot_int_rmul repeat_tuple F.slot_int_index.lookup
        (call_meets F.slot_int_rmul (typeIs_int s k t) F.entry_int_rmul (F.args_int_rmul_2 _ _) (int_rmul_tuple k t l its.toArray n di sl) ⟨ho, rfl, ⟨_, ho, rfl⟩, call_meets F.slot_tuple_mul ⟨_, ho, rfl⟩ F.entry_tuple_mul (F.args_tuple_mul_2 _ _) (tuple_self l its.toArray n di sl k t c0 c1) ⟨ho, ?_⟩⟩)
      exact ⟨.ref l, H, I, rfl, q _ _ (Same.refl H) dd⟩
    · have k0 : k = 0 := by
        have n1 : xs ≠ [] := fun z => h3 (.inl z)
        have n2 : k ≠ 1 := fun z => h3 (.inr z)
        have n3 : ¬ 2 ≤ k := fun z => h2 ⟨z, n1⟩
        omega
      subst k0
      have hi : its.toArray.isEmpty = false := by
        cases its with
        | nil =>
          cases r
          exact absurd (.inl rfl) h3
        | cons a b => rfl
      refine wpAny_binaryOp_repeat_ref (T := "tuple") (U := "int") (by decide) ⟨_, ho, rfl⟩ (fun s2 => typeIs_int s2 0 t) noFill_tuple_mul F.fills_int_mul F.slot_int_rmul repeat_tuple F.slot_int_index.lookup
        (call_meets F.slot_int_rmul (typeIs_int s 0 t) F.entry_int_rmul (F.args_int_rmul_2 _ _) (int_rmul_tuple 0 t l its.toArray n di sl) ⟨ho, rfl, ⟨_, ho, rfl⟩, call_meets F.slot_tuple_mul ⟨_, ho, rfl⟩ F.entry_tuple_mul (F.args_tuple_mul_2 _ _) (tuple_nought l its.toArray n di sl t hi) ⟨ho, ?_⟩⟩)
      have fresh := I.hok.fresh (Nat.le_refl _)
      refine ⟨.ref s.heap.objs.size, _, I.laid (t' := s.toks) (o := .tup []) (fun b ob q => Heap.get?_push_of_some _ q) (Nat.le_refl _) ⟨Nat.zero_le _, [], .nil, IsTup.new _ _⟩, rfl, q _ _ (same_upd fresh) ?_⟩
      exact newx_tup fresh .nil
def rSlX (K : PySem.W.Frag) (S : Addr → Prop) : V → Option Int → Option Int → Hp → VK → Prop := fun x lo hi H Q => ∃ ds, Dx K H S x (.tuple ds) ∧ ∀ (v : V) (H' : Hp), Same H H' → Dx K H' S v (.tuple (cutG ds lo hi)) → Q v H'
def rCatX (K : PySem.W.Frag) (S : Addr → Prop) : R2 := fun x y H Q => ∃ d1 d2, Dx K H S x (.tuple d1) ∧ Dx K H S y (.tuple d2) ∧ d1.length + d2.length ≤ 10000 ∧ ∀ (v : V) (H' : Hp), Same H H' → Dx K H' S v (.tuple (d1 ++ d2)) → Q v H'
theorem sl_tupX {S : Addr → Prop} : SlR X (rSlX X.K S) := fun pins s σ H x v vl vu lo hi sl Q I rx hs pl pu h => by
  obtain ⟨ds, d, q⟩ := h
  obtain ⟨a, xs, rfl, ha, hxs⟩ := dx_tup d
  refine sl_tupA pins s σ H _ v vl vu lo hi sl Q I rx hs pl pu ⟨a, xs, rfl, ha, fun hw => ?_, fun _ p np => ?_⟩
  · refine q _ _ (Same.refl H) (.tup ha ?_)
    have e : cutV xs lo hi = xs := by
      unfold cutV
      rw [hw.1, hw.2, List.drop_zero, Nat.sub_zero, List.take_length]
    have d2 := dxs_cut lo hi hxs
    rw [e] at d2
    exact d2
  · exact q _ _ (same_upd np) (newx_tup np (dxs_cut lo hi hxs))
theorem op_catX {S : Addr → Prop} : OpR X (binaryOp .Add) (rCatX X.K S) := fun pins s σ H x y v u Q I rx ry h => by
  obtain ⟨d1, d2, e1, e2, hl, q⟩ := h
  obtain ⟨a, xs, rfl, ha, hxs⟩ := dx_tup e1
  obtain ⟨b, ys, rfl, hb, hys⟩ := dx_tup e2
  have l1 := dxs_len hxs
  have l2 := dxs_len hys
  refine op_catA pins s σ H _ _ v u Q I rx ry ⟨a, b, xs, ys, rfl, rfl, ha, hb, Nat.le_of_lt (Nat.lt_of_le_of_lt (by omega) (by decide : 10000 < sizeLine)), fun e => ?_, fun _ e => ?_, fun _ _ p np => ?_⟩
  · subst e
    cases hxs
    exact q _ _ (Same.refl H) e2
  · subst e
    cases hys
    rw [List.append_nil] at q
    exact q _ _ (Same.refl H) e1
  · exact q _ _ (same_upd np) (newx_tup np (dxs_app hxs hys))
/-! ### things written out -/
/-- an expression that tells the data d, laid anew: none of its lists is an old one -/
def tLit (K : PySem.W.Frag) (d : PyData) : TE := fun _ H Q => ∀ (v : V) (H' : Hp), Same H H' → (∀ S : Addr → Prop, (∀ b, S b → ∃ o, H b = some o) → Dx K H' S v d) → Q v H'
def tLits (K : PySem.W.Frag) (ds : List PyData) : TA := fun _ H Q => ∀ (vs : List V) (H' : Hp), Same H H' → (∀ S : Addr → Prop, (∀ b, S b → ∃ o, H b = some o) → DxAll K H' S vs ds) → Q vs H'
theorem PE.to {e : Expr} {t t' : TE} (h : PE X e t) (g : ∀ σ H Q, t' σ H Q → t σ H Q) : PE X e t' := ⟨fun pins s σ H Q I x => h.run pins s σ H Q I (g σ H Q x)⟩
theorem PA.to {e : List Expr} {t t' : TA} (h : PA X e t) (g : ∀ σ H Q, t' σ H Q → t σ H Q) : PA X e t' := ⟨fun pos pins s σ H Q I x => h.run pos pins s σ H Q I (g σ H Q x)⟩
theorem lit_int {i : Int} {j : Nat} {pos : Pos} : PE X (.Constant (.int i) j pos) (tLit X.K (.int i)) := PE.to pe_int fun σ H Q x => x _ _ (Same.refl H) fun _ _ => .int i
theorem lit_neg {i : Int} {j : Nat} {p pos : Pos} : PE X (.UnaryOp .USub (.Constant (.int i) j p) pos) (tLit X.K (.int (-i))) := PE.to (pe_un un_neg pe_int) fun σ H Q x => ⟨i, rfl, x _ _ (Same.refl H) fun _ _ => .int (-i)⟩
theorem lit_bl {b : Bool} {j : Nat} {pos : Pos} : PE X (.Constant (.bool b) j pos) (tLit X.K (.bool b)) := PE.to pe_bl fun σ H Q x => x _ _ (Same.refl H) fun _ _ => .bl b
theorem lit_non {j : Nat} {pos : Pos} : PE X (.Constant .none j pos) (tLit X.K .none) := PE.to pe_non fun σ H Q x => x _ _ (Same.refl H) fun _ _ => .non
theorem lit_str {z : Str} {j : Nat} {pos : Pos} : PE X (.Constant (.str z) j pos) (tLit X.K (.str z)) := PE.to pe_str fun σ H Q x => x _ _ (Same.refl H) fun _ _ => .str z
theorem lits_nil : PA X [] (tLits X.K []) := PA.to pa_nil fun σ H Q x => x _ _ (Same.refl H) fun _ _ => .nil
theorem lits_cons {e : Expr} {es : List Expr} {d : PyData} {ds : List PyData} (ha : PE X e (tLit X.K d)) (hr : PA X es (tLits X.K ds)) (hs : starEach (e :: es) X.env = (false, eval e X.env) :: starEach es X.env := by rfl) : PA X (e :: es) (tLits X.K (d :: ds)) :=
  PA.to (pa_cons ha hr hs) fun σ H Q x v H1 s1 d1 vs H2 s2 d2 => x _ _ (s1.trans s2) fun S hS => .cons (dx_same s2 (d1 S hS)) (d2 S fun b hb => by
    obtain ⟨o, e⟩ := hS b hb
    exact ⟨o, s1 _ _ e⟩)
theorem lits_len {K : PySem.W.Frag} {H : Hp} {vs : List V} {ds : List PyData} (h : ∀ S : Addr → Prop, (∀ b, S b → ∃ o, H b = some o) → DxAll K H S vs ds) : vs.length = ds.length := dxs_len (h (fun _ => False) (fun _ z => z.elim))
theorem lit_tup {es : List Expr} {ds : List PyData} {x1 : _} {pos : Pos} (h : PA X es (tLits X.K ds)) (hl : ds.length ≤ 1000 := by decide) : PE X (.Tuple es x1 pos) (tLit X.K (.tuple ds)) :=
  PE.to (pe_tup h) fun σ H Q x vs H1 s1 d1 => by
    have e : vs.length = ds.length := dxs_len (d1 (fun _ => False) (fun _ z => z.elim))
    refine ⟨by rw [e]; exact Nat.le_of_lt (small1000 hl), fun p np => x _ _ (Same.new s1 np) fun S hS => newx_tup np (d1 S hS)⟩
theorem lit_lst {es : List Expr} {ds : List PyData} {pos : Pos} (h : PA X es (tLits X.K ds)) (hl : ds.length ≤ 1000 := by decide) : PE X (.List es pos) (tLit X.K (.list ds)) :=
  PE.to (pe_lst h) fun σ H Q x vs H1 s1 d1 => by
    have e : vs.length = ds.length := dxs_len (d1 (fun _ => False) (fun _ z => z.elim))
    refine ⟨by rw [e]; exact Nat.le_of_lt (small1000 hl), fun p np => x _ _ (Same.new s1 np) fun S hS => newx_lst np (fun b hb => ?_) (d1 S hS)⟩
    obtain ⟨o, e⟩ := hS b hb
    exact ⟨o, s1 _ _ e⟩
end
end Ep
namespace Ep
open PySem PySem.Spec PyProof.Rows L2
/-! ### cells of the script, the box, a draw -/
def topS (i : Nat) : Stmt := PySem.Challenge.pw_echopanes_k01_what_is_a_row.main.body.getD i (.Pass ⟨0, 0, 0, 0⟩)
abbrev sCell : Stmt := topS 9
abbrev sBox : Stmt := topS 10
abbrev sTake : Stmt := topS 11
abbrev sOf : Stmt := topS 12
theorem scCell : FnScope ["_law_script", "_law_k"] ["_law_script", "_law_k"] (defScope sCell) := ⟨rfl, rfl, rfl, by decide +kernel, rfl, by decide +kernel, by decide +kernel⟩
theorem scBox : FnScope ["_law_script", "_law_k", "_law_core"] ["_law_script", "_law_k"] (defScope sBox) := ⟨rfl, rfl, rfl, by decide +kernel, rfl, by decide +kernel, by decide +kernel⟩
theorem scTake : FnScope ["_law_box_here", "_law_size", "_law_found", "_law_once", "_law_twice"] ["_law_box_here", "_law_size"] (defScope sTake) := ⟨rfl, rfl, rfl, by decide +kernel, rfl, by decide +kernel, by decide +kernel⟩
theorem scOf : FnScope ["_law_box_here", "_law_some"] ["_law_box_here", "_law_some"] (defScope sOf) := ⟨rfl, rfl, rfl, by decide +kernel, rfl, by decide +kernel, by decide +kernel⟩
def spCell (K : PySem.W.Frag) : Sp := fun vs H Q _ => ∃ (a : Addr) (k : Int) (ns : List Int), vs = [.ref a, .int k] ∧ SqL K H a (ns.map V.int) ∧ 0 ≤ k ∧ ∀ c : Int, Q (.int c) H
def spBox (K : PySem.W.Frag) : Sp := fun vs H Q _ => ∃ (a : Addr) (k : Int) (ns : List Int), vs = [.ref a, .int k] ∧ SqL K H a (ns.map V.int) ∧ 0 ≤ k ∧ k ≤ 63 ∧ ∀ (p : Addr) (H' : Hp), H p = none → Same H H' → Bx H' p 0 → Q (.ref p) H'
def spTake : Sp := fun vs H Q _ => ∃ (p : Addr) (z : Int) (n : Nat), vs = [.ref p, .int z] ∧ Bx H p n ∧ n < 1000000 ∧ 0 < z ∧ z < 1000000 ∧
  ∀ (r : Int) (H' : Hp), 0 ≤ r → r < z → Chg p H H' → Bx H' p (n + 1) → Q (.int r) H'
def spOf (K : PySem.W.Frag) : Sp := fun vs H Q _ => ∃ (p l : Addr) (xs : List V) (n : Nat), vs = [.ref p, .ref l] ∧ Bx H p n ∧ n < 1000000 ∧ H l = some (.lst xs) ∧ l ≠ p ∧ xs ≠ [] ∧ xs.length < 1000 ∧
  ∀ (v : V) (H' : Hp), v ∈ xs → Chg p H H' → Bx H' p (n + 1) → Q v H'
section
variable {P : Program} {w : World} {K : PySem.W.Frag} {mg : Str → Option Value} {base : Heap}
theorem ok_cell {f : Addr} {fd : FuncData} {k : Nat} (F : Fun K "_law_cell_at" "_law_cell_at" sCell f fd) (ml : mg "len" = none) : FnOk P w K mg base CX0 (k + 1) f fd ["_law_script", "_law_k"] (spCell K) := by
  refine F.ok scCell (fun vs H Q E h => ?_) (fun cdv A outer s H vs Q E hr h => ?_)
  · obtain ⟨a, k, ns, rfl, _⟩ := h
    rfl
  · obtain ⟨a, k, ns, rfl, hS, hk, q⟩ := h
    refine ⟨_, pss_cons (ps_if (pt_cmpR op_lt (pv 1) (pe_callB call_len_seq (by rfl) ml PySem.boot_len (pa_cons (pv 0) pa_nil)) (nomark _)) (pss_one (ps_ret (pe_ix ix_list (pv 0) (pv 1) (fun _ _ => rfl)))) pss_nil) (pss_one (ps_ret pe_int)), ?_⟩
    refine ⟨.int k, rfl, .ref a, rfl, a, _, rfl, .inl hS, _, _, rfl, rfl, _, rfl, ite2 (fun e => ?_) (fun e => ?_)⟩
    · have e1 : k < ((ns.map V.int).length : Int) := of_decide_eq_true e
      rw [List.length_map] at e1
      have hlt : k.toNat < ns.length := by omega
      refine ⟨.ref a, rfl, .int k, rfl, a, _, _, .int ns[k.toNat], rfl, rfl, hS, ?_, q _⟩
      refine at_of (j := k.toNat) (by omega) ?_
      rw [List.getElem?_map, List.getElem?_eq_getElem hlt]
      rfl
    · exact q 0
theorem ok_box {f fC : Addr} {fd fdC : FuncData} {k : Nat} (F : Fun K "_law_box" "_law_box" sBox f fd) (FC : Fun K "_law_cell_at" "_law_cell_at" sCell fC fdC) (bC : Binds K fdC ["_law_script", "_law_k"] []) (gC : mg "_law_cell_at" = some (.ref fC))
    (ml : mg "len" = none) (ma : mg "abs" = none) (mi : mg "int" = none) : FnOk P w K mg base CX0 (k + 2) f fd ["_law_script", "_law_k"] (spBox K) := by
  have GC : FnOk P w K mg base CX0 (k + 1) fC fdC ["_law_script", "_law_k"] (spCell K) := ok_cell FC ml
  refine F.ok scBox (fun vs H Q E h => ?_) (fun cdv A outer s H vs Q E hr h => ?_)
  · obtain ⟨a, k, ns, rfl, _⟩ := h
    rfl
  · obtain ⟨a, k, ns, rfl, hS, hk, hk2, q⟩ := h
    refine ⟨_, pss_cons (ps_set (i := 2) scBox.nd rfl (.inl rfl) (pe_call GC hr (by rfl) gC FC.kp bC .nil pass0 (pa_cons (pv 0) (pa_cons (pv 1) pa_nil))))
      (pss_one (ps_ret (pe_lst (pa_cons (pe_op op_mul (pe_callB call_abs (by rfl) ma (by decide +kernel) (pa_cons (pv 2) pa_nil)) (pe_callTy call_int1 (by rfl) mi PyProof.Rows.boot_int (pa_cons (pe_cmpR op_ge (pe_callB call_abs (by rfl) ma (by decide +kernel) (pa_cons (pv 2) pa_nil)) (pe_op op_pow pe_int pe_int) (nomark _)) pa_nil)))
        (pa_cons (pe_op op_add (pe_op op_add (pe_op op_mod (pv 2) pe_int) (pe_op op_mul pe_int (pv 1))) pe_int) (pa_cons pe_int pa_nil)))))), ?_⟩
    refine ⟨.ref a, rfl, .int k, rfl, a, k, ns, rfl, hS, hk, fun c => ?_⟩
    refine ⟨.int c, rfl, c, rfl, .int c, rfl, c, rfl, 10, 18, rfl, rfl, ⟨by decide, by decide, by decide⟩, _, _, rfl, rfl, .inr ⟨_, rfl, _, _, rfl, rfl, .inr ?_, ?_⟩⟩
    · split <;> split <;> decide
    · refine ⟨.int c, rfl, _, _, rfl, rfl, (by decide : (0 : Int) < 2305843009213693951), .int k, rfl, _, _, rfl, rfl, .inl ⟨by decide, by decide⟩, _, _, rfl, rfl, _, _, rfl, rfl, (by decide : 3 ≤ sizeLine), fun p hp => ?_⟩
      refine q p _ hp (same_upd hp) ⟨_, _, _, upd_same, ?_, ?_, ?_, Int.le_refl _, Int.le_refl _⟩
      · split <;> split <;> omega
      · omega
      · omega
theorem ok_take {f : Addr} {fd : FuncData} {k : Nat} (F : Fun K "_law_take" "_law_take" sTake f fd) : FnOk P w K mg base CX0 (k + 1) f fd ["_law_box_here", "_law_size"] spTake := by
  refine F.ok scTake (fun vs H Q E h => ?_) (fun cdv A outer s H vs Q E hr h => ?_)
  · obtain ⟨p, z, n, rfl, _⟩ := h
    rfl
  · obtain ⟨p, z, n, rfl, hb, hn, hz, hz2, q⟩ := h
    obtain ⟨x, y, c, hp, hx, hy, hy2, hc, hcn⟩ := hb.ex
    refine ⟨_, pss_cons (ps_if (pt_cmpR op_gt (pe_ix ix_list (pv 0) pe_int (fun _ _ => rfl)) pe_int (nomark _))
        (pss_cons (ps_set (i := 2) scTake.nd rfl (.inl rfl) (pe_op op_mod (pe_ix ix_list (pv 0) pe_int (fun _ _ => rfl)) (pv 1)))
        (pss_cons (ps_asg (pe_op op_fdiv (pe_ix ix_list (pv 0) pe_int (fun _ _ => rfl)) (pv 1)) (pg_sub (pv 0) pe_int set_list))
        (pss_one (ps_ret (pv 2))))) pss_nil)
      (pss_cons (ps_asg (pe_op op_add (pe_ix ix_list (pv 0) pe_int (fun _ _ => rfl)) pe_int) (pg_sub (pv 0) pe_int set_list))
      (pss_cons (ps_set (i := 3) scTake.nd rfl (.inl rfl) (pe_op op_mod (pe_op op_mul (pe_op op_add (pe_ix ix_list (pv 0) pe_int (fun _ _ => rfl)) (pe_op op_mul pe_int (pe_ix ix_list (pv 0) pe_int (fun _ _ => rfl)))) (pe_op op_add pe_int (pe_ix ix_list (pv 0) pe_int (fun _ _ => rfl)))) pe_int))
      (pss_cons (ps_set (i := 4) scTake.nd rfl (.inl rfl) (pe_op op_mod (pe_op op_mul (pe_op op_add (pe_op op_add (pv 3) (pe_ix ix_list (pv 0) pe_int (fun _ _ => rfl))) (pe_op op_fdiv (pe_ix ix_list (pv 0) pe_int (fun _ _ => rfl)) pe_int)) (pe_op op_add (pe_op op_mod (pv 3) pe_int) pe_int)) pe_int))
      (pss_one (ps_ret (pe_op op_mod (pe_op op_fdiv (pe_op op_mod (pe_op op_add (pe_op op_mul (pv 4) pe_int) (pv 3)) pe_int) pe_int) (pv 1))))))), ?_⟩
    refine ⟨.ref p, rfl, p, _, 0, _, rfl, rfl, SqL.of hp, atI_nat (j := 0) rfl, _, _, rfl, rfl, _, rfl, ite2 (fun e => ?_) (fun e => ?_)⟩
    · -- the great number
      refine ⟨.ref p, rfl, p, _, 0, _, rfl, rfl, SqL.of hp, atI_nat (j := 0) rfl, .int z, rfl, _, _, rfl, rfl, hz, ?_⟩
      refine ⟨.ref p, rfl, p, _, 0, _, rfl, rfl, SqL.of hp, atI_nat (j := 0) rfl, .int z, rfl, _, _, rfl, rfl, ⟨hz, by omega⟩, ?_⟩
      refine ⟨.ref p, rfl, p, _, 0, 0, rfl, rfl, hp, rfl, ?_⟩
      refine ⟨_, rfl, q _ _ (Int.emod_nonneg _ (by omega)) (Int.emod_lt_of_pos _ hz) chg_upd ⟨_, _, _, upd_same, Int.ediv_nonneg hx (by omega), hy, hy2, hc, by omega⟩⟩
    · refine ⟨.ref p, rfl, p, _, 2, _, rfl, rfl, SqL.of hp, atI_nat (j := 2) rfl, _, _, rfl, rfl, .ref p, rfl, p, _, 2, 2, rfl, rfl, hp, rfl, ?_⟩
      have hp2 : (upd H p (.lst [.int x, .int y, .int (c + 1)])) p = some (.lst [.int x, .int y, .int (c + 1)]) := upd_same
      refine ⟨.ref p, rfl, p, _, 1, _, rfl, rfl, SqL.of hp2, atI_nat (j := 1) rfl, .ref p, rfl, p, _, 2, _, rfl, rfl, SqL.of hp2, atI_nat (j := 2) rfl, _, _, rfl, rfl, .inl ⟨by decide, by decide⟩, _, _, rfl, rfl,
        .ref p, rfl, p, _, 2, _, rfl, rfl, SqL.of hp2, atI_nat (j := 2) rfl, _, _, rfl, rfl, _, _, rfl, rfl, .inl ⟨by omega, by omega⟩, _, _, rfl, rfl, (by decide : (0 : Int) < 2147483647), ?_⟩
      generalize e1 : (y + 48271 * (c + 1)) * (39373 + (c + 1)) % 2147483647 = o
      have ho : 0 ≤ o ∧ o < 2147483647 := by omega
      refine ⟨_, rfl, .ref p, rfl, p, _, 2, _, rfl, rfl, SqL.of hp2, atI_nat (j := 2) rfl, _, _, rfl, rfl, .ref p, rfl, p, _, 1, _, rfl, rfl, SqL.of hp2, atI_nat (j := 1) rfl, _, _, rfl, rfl, ⟨by decide, by decide⟩, _, _, rfl, rfl,
        _, rfl, _, _, rfl, rfl, (by decide : (0 : Int) < 40009), _, _, rfl, rfl, _, _, rfl, rfl, .inl ⟨by omega, by omega⟩, _, _, rfl, rfl, (by decide : (0 : Int) < 2147483629), ?_⟩
      generalize e2 : (o + (c + 1) + y / 1000003) * (o % 40009 + 7) % 2147483629 = o2
      have ho2 : 0 ≤ o2 ∧ o2 < 2147483629 := by omega
      refine ⟨_, rfl, _, _, rfl, rfl, .inl ⟨by omega, by omega⟩, _, rfl, _, _, rfl, rfl, _, _, rfl, rfl, (by decide : (0 : Int) < 2147483587), _, _, rfl, rfl, ⟨by decide, by decide⟩, .int z, rfl, _, _, rfl, rfl, hz, ?_⟩
      exact q _ _ (Int.emod_nonneg _ (by omega)) (Int.emod_lt_of_pos _ hz) chg_upd ⟨_, _, _, hp2, hx, hy, hy2, by omega, by omega⟩
theorem ok_of {f fT : Addr} {fd fdT : FuncData} {k : Nat} (F : Fun K "_law_of" "_law_of" sOf f fd) (FT : Fun K "_law_take" "_law_take" sTake fT fdT) (bT : Binds K fdT ["_law_box_here", "_law_size"] []) (gT : mg "_law_take" = some (.ref fT))
    (ml : mg "len" = none) : FnOk P w K mg base CX0 (k + 2) f fd ["_law_box_here", "_law_some"] (spOf K) := by
  have GT : FnOk P w K mg base CX0 (k + 1) fT fdT ["_law_box_here", "_law_size"] spTake := ok_take FT
  refine F.ok scOf (fun vs H Q E h => ?_) (fun cdv A outer s H vs Q E hr h => ?_)
  · obtain ⟨p, l, xs, n, rfl, _⟩ := h
    rfl
  · obtain ⟨p, l, xs, n, rfl, hb, hn, hl, hlp, hne, hlen, q⟩ := h
    have hpos : 0 < xs.length := List.length_pos_iff.mpr hne
    refine ⟨_, pss_one (ps_ret (pe_ix ix_list (pv 1) (pe_call GT hr (by rfl) gT FT.kp bT .nil pass0 (pa_cons (pv 0) (pa_cons (pe_callB call_len_seq (by rfl) ml PySem.boot_len (pa_cons (pv 1) pa_nil)) pa_nil))) (fun _ _ => rfl))), ?_⟩
    refine ⟨.ref l, rfl, .ref p, rfl, .ref l, rfl, l, _, rfl, .inl (SqL.of hl), p, _, n, rfl, hb, hn, by omega, by omega, fun r H' h0 h1 c b => ?_⟩
    have hlt : r.toNat < xs.length := by omega
    refine ⟨l, _, _, xs[r.toNat], rfl, rfl, SqL.of (c _ _ hlp hl), at_of (j := r.toNat) (by omega) (List.getElem?_eq_getElem hlt), q _ _ (List.getElem_mem hlt) c b⟩
end
/-! ### FRACTIONs by the program and by the law's own sums -/
abbrev sFrac : Stmt := topS 14
theorem scFrac : FnScope ["_law_top", "_law_under", "_law_big", "_law_small", "_law_sign"] ["_law_top", "_law_under"] (defScope sFrac) := ⟨rfl, rfl, rfl, by decide +kernel, rfl, by decide +kernel, by decide +kernel⟩
/-- a FRACTION of two whole numbers is told, as a new pair -/
def spFrac (K : PySem.W.Frag) : Sp := fun vs H Q _ => ∃ (t u : Int) (b : Nat), vs = [.int t, .int u] ∧ 0 < u ∧ t.natAbs < 2 ^ b ∧ u.natAbs < 2 ^ b ∧ 0 < b ∧ b ≤ 9000 ∧
  ∀ (v : V) (H' : Hp), Same H H' → Dp K H' v (frD (Rat.divInt t u)) → Q v H'
section
variable {P : Program} {w : World} {K : PySem.W.Frag} {mg : Str → Option Value} {base : Heap}
theorem abs_gcd (a b : Int) : Int.gcd (if a < 0 then -a else a) (if b < 0 then -b else b) = Int.gcd a b := by
  unfold Int.gcd
  congr 1 <;> split <;> omega
theorem g_le {t u : Int} {b : Nat} (hu : 0 < u) (h : u.natAbs < 2 ^ b) : (Int.gcd t u : Int).natAbs < 2 ^ b := by
  have : Int.gcd t u ≤ u.natAbs := Int.gcd_le_natAbs_right t (by omega)
  omega
theorem ok_frac {f : Addr} {fd : FuncData} {k : Nat} (F : Fun K "_law_frac" "_law_frac" sFrac f fd) (ma : mg "abs" = none) : FnOk P w K mg base CX0 (k + 1) f fd ["_law_top", "_law_under"] (spFrac K) := by
  refine F.ok scFrac (fun vs H Q E h => ?_) (fun cdv A outer s H vs Q E hr h => ?_)
  · obtain ⟨t, u, b, rfl, _⟩ := h
    rfl
  · obtain ⟨t, u, b, rfl, hu, ht, hub, hb0, hb9, q⟩ := h
    refine ⟨_, pss_cons (ps_par (by rfl) scFrac.nd (i := 2) (j := 3) rfl rfl (by decide) rfl rfl (pa_cons (pe_callB call_abs (by rfl) ma (by decide +kernel) (pa_cons (pv 0) pa_nil)) (pa_cons (pe_callB call_abs (by rfl) ma (by decide +kernel) (pa_cons (pv 1) pa_nil)) pa_nil)) (by rfl))
      (pss_cons (ps_while PassesOwn.never (pt_cmpR op_gt (pv 3) pe_int (nomark _)) (pss_one (ps_par (by rfl) scFrac.nd (i := 2) (j := 3) rfl rfl (by decide) rfl rfl (pa_cons (pv 3) (pa_cons (pe_op op_mod (pv 2) (pv 3)) pa_nil)) (by rfl))))
      (pss_cons (ps_set (i := 4) scFrac.nd rfl (.inl rfl) (pe_ifExp (pt_cmpR op_gt (pv 1) pe_int (nomark _)) pe_int (pe_un un_neg pe_int)))
      (pss_one (ps_ret (pe_tup (pa_cons (pe_op op_fdivW (pe_op op_mul (pv 4) (pv 0)) (pv 2)) (pa_cons (pe_op op_fdivW (pe_callB call_abs (by rfl) ma (by decide +kernel) (pa_cons (pv 1) pa_nil)) (pv 2)) pa_nil))))))), ?_⟩
    refine ⟨.int t, rfl, t, rfl, .int u, rfl, u, rfl, _, _, rfl, ?_⟩
    refine ⟨fun m σ H1 => ∃ x y : Int, σ = [some (.int t), some (.int u), some (.int x), some (.int y), none] ∧ 0 ≤ x ∧ 0 ≤ y ∧ Int.gcd x y = Int.gcd t u ∧ H1 = H ∧ m = y.toNat,
      ⟨_, _, _, rfl, ?_, ?_, abs_gcd t u, rfl, rfl⟩, ?_⟩
    · split <;> omega
    · split <;> omega
    · rintro m σ H1 ⟨x, y, rfl, hx, hy, hg, rfl, rfl⟩
      refine ⟨.int y, rfl, _, _, rfl, rfl, _, rfl, ite2 (fun e => ?_) (fun e => ?_)⟩
      · have e1 : 0 < y := of_decide_eq_true e
        have m1 := Int.emod_nonneg x (show y ≠ 0 by omega)
        have m2 := Int.emod_lt_of_pos x e1
        refine ⟨fun σ' H' => ∃ x' y' : Int, σ' = [some (.int t), some (.int u), some (.int x'), some (.int y'), none] ∧ 0 ≤ x' ∧ 0 ≤ y' ∧ Int.gcd x' y' = Int.gcd t u ∧ H' = H1 ∧ y' < y, fun σ' H' hN => ?_, ?_⟩
        · obtain ⟨x', y', e2, h1, h2, h3, h4, h5⟩ := hN
          exact ⟨y'.toNat, by omega, x', y', e2, h1, h2, h3, h4, rfl⟩
        · refine ⟨.int y, rfl, .int x, rfl, .int y, rfl, _, _, rfl, rfl, e1, _, _, rfl, y, x % y, rfl, hy, m1, ?_, rfl, m2⟩
          rw [gcd_emod x y (by omega)]
          exact hg
      · have e1 : ¬ 0 < y := fun z => e (decide_eq_true z)
        have y0 : y = 0 := by omega
        subst y0
        have ex : x = (Int.gcd t u : Int) := by
          rw [← hg, Int.gcd_zero_right]
          omega
        subst ex
        have hgp := gcd_pos (t := t) hu
        have hg1 := g_le (t := t) hu hub
        refine ⟨.int u, rfl, _, _, rfl, rfl, _, rfl, ite2 (fun _ => ?_) (fun z => absurd (decide_eq_true hu) z)⟩
        refine ⟨_, rfl, .int t, rfl, _, _, rfl, rfl, .inl ⟨by decide, by decide⟩, _, rfl, _, _, rfl, rfl, wide_div (by omega) hg1 hb0 hb9, .int u, rfl, u, rfl, _, rfl, _, _, rfl, rfl, wide_div (by omega) hg1 hb0 hb9, (by decide : 2 ≤ sizeLine), fun p hp => ?_⟩
        refine q _ _ (same_upd hp) (dp_fr_mk (SqT.of ?_))
        rw [upd_same, if_neg (by omega), fr_num hu, fr_den hu, Int.one_mul]
end
abbrev sCommon : Stmt := topS 2
theorem scCommon : FnScope ["one", "other"] ["one", "other"] (defScope sCommon) := ⟨rfl, rfl, rfl, by decide +kernel, rfl, by decide +kernel, by decide +kernel⟩
def spCommon : Sp := fun vs H Q _ => ∃ (t u : Int), vs = [.int t, .int u] ∧ Q (.int (Int.gcd t u : Int)) H
section
variable {P : Program} {w : World} {K : PySem.W.Frag} {mg : Str → Option Value} {base : Heap}
theorem fmod_small (x : Int) {y : Int} (h : y ≠ 0) : (x.fmod y).natAbs < y.natAbs := by
  rw [Int.fmod_eq_emod]
  have a1 := Int.emod_nonneg x h
  have a2 := Int.emod_lt x h
  split
  · omega
  · rename_i z
    have z2 : ¬ y ∣ x := fun w => z (Or.inr w)
    have z3 : x % y ≠ 0 := fun w => z2 (Int.dvd_of_emod_eq_zero w)
    omega
theorem ok_common {f : Addr} {fd : FuncData} {k : Nat} (F : Fun K "common_part" "common_part" sCommon f fd) (ma : mg "abs" = none) : FnOk P w K mg base CX0 (k + 1) f fd ["one", "other"] spCommon := by
  refine F.ok scCommon (fun vs H Q E h => ?_) (fun cdv A outer s H vs Q E hr h => ?_)
  · obtain ⟨t, u, rfl, _⟩ := h
    rfl
  · obtain ⟨t, u, rfl, q⟩ := h
    refine ⟨_, pss_cons (ps_while PassesOwn.never (pt_truth (pv 1) (by intro _; rfl)) (pss_one (ps_par (by rfl) scCommon.nd (i := 0) (j := 1) rfl rfl (by decide) rfl rfl (pa_cons (pv 1) (pa_cons (pe_op op_modN (pv 0) (pv 1)) pa_nil)) (by rfl))))
      (pss_one (ps_ret (pe_callB call_abs (by rfl) ma (by decide +kernel) (pa_cons (pv 0) pa_nil)))), ?_⟩
    refine ⟨fun m σ H1 => ∃ x y : Int, σ = [some (.int x), some (.int y)] ∧ Int.gcd x y = Int.gcd t u ∧ H1 = H ∧ m = y.natAbs, ⟨_, t, u, rfl, rfl, rfl, rfl⟩, ?_⟩
    rintro m σ H1 ⟨x, y, rfl, hg, rfl, rfl⟩
    refine ⟨.int y, rfl, _, rfl, ite2 (fun e => ?_) (fun e => ?_)⟩
    · have y0 : y ≠ 0 := by simpa using e
      refine ⟨fun σ' H' => ∃ x' y' : Int, σ' = [some (.int x'), some (.int y')] ∧ Int.gcd x' y' = Int.gcd t u ∧ H' = H1 ∧ y'.natAbs < y.natAbs, fun σ' H' hN => ?_, ?_⟩
      · obtain ⟨x', y', e2, h1, h2, h3⟩ := hN
        exact ⟨_, h3, x', y', e2, h1, h2, rfl⟩
      · refine ⟨.int y, rfl, .int x, rfl, .int y, rfl, _, _, rfl, rfl, y0, _, _, rfl, y, x.fmod y, rfl, ?_, rfl, ?_⟩
        · rw [gcd_fmod x y y0]
          exact hg
        · exact fmod_small x y0
    · have y0 : y = 0 := by simpa using e
      subst y0
      refine ⟨.int x, rfl, x, rfl, ?_⟩
      have ex : (if x < 0 then -x else x) = (Int.gcd t u : Int) := by
        rw [← hg, Int.gcd_zero_right]
        split <;> omega
      rw [ex]
      exact q
end
/-! ### a drawn pane, a drawn row, a drawn weight -/
abbrev sPane : Stmt := topS 15
abbrev sRow : Stmt := topS 16
theorem scPane : FnScope ["_law_box_here", "_law_under", "_law_any_one"] ["_law_box_here"] (defScope sPane) := ⟨rfl, rfl, rfl, by decide +kernel, rfl, by decide +kernel, by decide +kernel⟩
theorem scRow : FnScope ["_law_box_here", "_law_most", "_law_panes", "_law_turn"] ["_law_box_here", "_law_most"] (defScope sRow) := ⟨rfl, rfl, rfl, by decide +kernel, rfl, by decide +kernel, by decide +kernel⟩
def spPane (K : PySem.W.Frag) : Sp := fun vs H Q _ => ∃ (p : Addr) (n : Nat), vs = [.ref p] ∧ Bx H p n ∧ n < 900000 ∧
  ∀ (v : V) (H' : Hp) (q : Rat), PaneQ q → Chg p H H' → Bx H' p (n + 4) → Dp K H' v (frD q) → Q v H'
def WallI (x : Int) : Prop := x = 0 ∨ x = 1 ∨ x = -1
def spRow (K : PySem.W.Frag) : Sp := fun vs H Q _ => ∃ (p : Addr) (m n : Nat), vs = [.ref p, .int m] ∧ Bx H p n ∧ n < 500000 ∧ m ≤ 100 ∧
  ∀ (v : V) (H' : Hp) (qs : List Rat) (x : Int), (∀ q ∈ qs, PaneQ q) → qs.length ≤ m → WallI x → Chg p H H' → Bx H' p (n + 4 * m + 2) → Dp K H' v (rowD qs x) → Q v H'
section
variable {P : Program} {w : World} {K : PySem.W.Frag} {mg : Str → Option Value} {base : Heap}
theorem mem8 {K : PySem.W.Frag} {H : Hp} {a b c d e f g h v : V} (i1 : IsPane K H a) (i2 : IsPane K H b) (i3 : IsPane K H c) (i4 : IsPane K H d) (i5 : IsPane K H e) (i6 : IsPane K H f) (i7 : IsPane K H g) (i8 : IsPane K H h) (hm : v ∈ [a, b, c, d, e, f, g, h]) : IsPane K H v := by
  simp only [List.mem_cons, List.not_mem_nil, or_false] at hm
  rcases hm with rfl | rfl | rfl | rfl | rfl | rfl | rfl | rfl <;> assumption
theorem ok_pane {f fT fO fC : Addr} {fd fdT fdO fdC : FuncData} {k : Nat} (F : Fun K "_law_pane" "_law_pane" sPane f fd)
    (FT : Fun K "_law_take" "_law_take" sTake fT fdT) (bT : Binds K fdT ["_law_box_here", "_law_size"] []) (gT : mg "_law_take" = some (.ref fT))
    (FO : Fun K "_law_of" "_law_of" sOf fO fdO) (bO : Binds K fdO ["_law_box_here", "_law_some"] []) (gO : mg "_law_of" = some (.ref fO))
    (FC : Fun K "_law_frac" "_law_frac" sFrac fC fdC) (bC : Binds K fdC ["_law_top", "_law_under"] []) (gC : mg "_law_frac" = some (.ref fC))
    (ml : mg "len" = none) (ma : mg "abs" = none) : FnOk P w K mg base CX0 (k + 3) f fd ["_law_box_here"] (spPane K) := by
  have GT : FnOk P w K mg base CX0 (k + 2) fT fdT ["_law_box_here", "_law_size"] spTake := ok_take FT
  have GO : FnOk P w K mg base CX0 (k + 2) fO fdO ["_law_box_here", "_law_some"] (spOf K) := ok_of FO FT bT gT ml
  have GC : FnOk P w K mg base CX0 (k + 2) fC fdC ["_law_top", "_law_under"] (spFrac K) := ok_frac FC ma
  refine F.ok scPane (fun vs H Q E h => ?_) (fun cdv A outer s H vs Q E hr h => ?_)
  · obtain ⟨p, n, rfl, _⟩ := h
    rfl
  · obtain ⟨p, n, rfl, hb, hn, q⟩ := h
    refine ⟨_, pss_cons (ps_set (i := 1) scPane.nd rfl (.inl rfl) (pe_op op_add pe_int (pe_call GT hr (by rfl) gT FT.kp bT .nil pass0 (pa_cons (pv 0) (pa_cons (pe_ix ix_list (pe_lst (pa_cons pe_int (pa_cons pe_int (pa_cons pe_int pa_nil)))) (pe_call GT hr (by rfl) gT FT.kp bT .nil pass0 (pa_cons (pv 0) (pa_cons pe_int pa_nil))) (fun _ _ => rfl)) pa_nil)))))
      (pss_cons (ps_set (i := 2) scPane.nd rfl (.inl rfl) (pe_call GC hr (by rfl) gC FC.kp bC .nil pass0 (pa_cons (pe_op op_add (pe_op op_sub (pe_call GT hr (by rfl) gT FT.kp bT .nil pass0 (pa_cons (pv 0) (pa_cons (pe_op op_sub (pe_op op_mul pe_int (pv 1)) pe_int) pa_nil))) (pv 1)) pe_int) (pa_cons (pv 1) pa_nil))))
      (pss_one (ps_ret (pe_call GO hr (by rfl) gO FO.kp bO .nil pass0 (pa_cons (pv 0) (pa_cons (pe_lst (pa_cons (pv 2) (pa_cons (pv 2) (pa_cons (pv 2) (pa_cons (pe_tup (pa_cons pe_int (pa_cons pe_int pa_nil))) (pa_cons (pe_tup (pa_cons (pe_un un_neg pe_int) (pa_cons pe_int pa_nil))) (pa_cons (pe_tup (pa_cons pe_int (pa_cons pe_int pa_nil))) (pa_cons (pe_tup (pa_cons pe_int (pa_cons pe_int pa_nil))) (pa_cons (pe_tup (pa_cons (pe_op op_sub pe_int (pv 1)) (pa_cons (pv 1) pa_nil))) pa_nil))))))))) pa_nil)))))), ?_⟩
    -- under
    refine ⟨.ref p, rfl, (by decide : 3 ≤ sizeLine), fun l hl => ?_⟩
    have b0 := hb.same (same_upd (o := .lst [.int 3, .int 8, .int 59]) hl)
    have nlp : l ≠ p := by
      obtain ⟨x, e⟩ := hb.at
      exact (ne_of_none e hl).symm
    refine ⟨.ref p, rfl, p, 3, n, rfl, b0, by omega, by decide, by decide, fun r H1 h0 h3 c1 b1 => ?_⟩
    obtain ⟨z, hz, hz1, hz2⟩ := pick3 h0 h3
    refine ⟨l, _, _, _, rfl, rfl, SqL.of (c1 _ _ nlp upd_same), hz, p, z, n + 1, rfl, b1, by omega, hz1, by omega, fun r2 H2 h20 h2z c2 b2 => ?_⟩
    have C2 : Chg p H H2 := (Chg.of_same (same_upd hl)).trans (c1.trans c2)
    refine ⟨_, _, rfl, rfl, ?_⟩
    -- any one
    refine ⟨.ref p, rfl, _, rfl, _, _, rfl, rfl, .inl ⟨by decide, by decide⟩, _, _, rfl, rfl, p, _, n + 2, rfl, b2, by omega, by omega, by omega, fun r3 H3 h30 h3z c3 b3 => ?_⟩
    refine ⟨_, rfl, _, _, rfl, rfl, _, _, rfl, rfl, _, rfl, _, _, 6, rfl, by omega, by omega, by omega, by decide, by decide, fun v H4 s4 d4 => ?_⟩
    have P0 : PaneQ (Rat.divInt (r3 - (2 + r2) + 1) (2 + r2)) := pane_fr (by omega) (by omega) (by omega)
    have i0 : IsPane K H4 v := ⟨_, P0, d4⟩
    have b4 : Bx H4 p (n + 3) := b3.same s4
    have C4 : Chg p H H4 := C2.trans (c3.trans (Chg.of_same s4))
    -- the menu
    refine ⟨.ref p, rfl, v, rfl, v, rfl, v, rfl, (by decide : 2 ≤ sizeLine), fun a1 n1 => ⟨1, rfl, (by decide : 2 ≤ sizeLine), fun a2 n2 => ⟨(by decide : 2 ≤ sizeLine), fun a3 n3 => ⟨(by decide : 2 ≤ sizeLine), fun a4 n4 => ⟨_, rfl, _, _, rfl, rfl, _, rfl, (by decide : 2 ≤ sizeLine), fun a5 n5 => ⟨(by decide : 8 ≤ sizeLine), fun l2 nl2 => ?_⟩⟩⟩⟩⟩⟩
    have S1 := same_upd (o := .tup [.int 1, .int 2]) n1
    have S2 := same_upd (o := .tup [.int (-1), .int 2]) n2
    have S3 := same_upd (o := .tup [.int 1, .int 3]) n3
    have S4 := same_upd (o := .tup [.int 0, .int 1]) n4
    have S5 := same_upd (o := .tup [.int (1 - (2 + r2)), .int (2 + r2)]) n5
    have S6 := same_upd (o := .lst [v, v, v, .ref a1, .ref a2, .ref a3, .ref a4, .ref a5]) nl2
    have i1 := (((((pane_lit (K := K) (by decide) (by decide) (by decide) (by decide) (SqT.of (upd_same (H := H4) (a := a1) (o := .tup [.int 1, .int 2])))).same S2).same S3).same S4).same S5).same S6
    have i2 := ((((pane_lit (K := K) (by decide) (by decide) (by decide) (by decide) (SqT.of (upd_same (a := a2) (o := .tup [.int (-1), .int 2])))).same S3).same S4).same S5).same S6
    have i3 := (((pane_lit (K := K) (by decide) (by decide) (by decide) (by decide) (SqT.of (upd_same (a := a3) (o := .tup [.int 1, .int 3])))).same S4).same S5).same S6
    have i4 := ((pane_lit (K := K) (by decide) (by decide) (by decide) (by decide) (SqT.of (upd_same (a := a4) (o := .tup [.int 0, .int 1])))).same S5).same S6
    have i5 := (pane_lit (K := K) (gcd_one_less (2 + r2)) (by omega) (by omega) (by omega) (SqT.of (upd_same (a := a5) (o := .tup [.int (1 - (2 + r2)), .int (2 + r2)])))).same S6
    have SS := ((((S1.trans S2).trans S3).trans S4).trans S5).trans S6
    have i0' := i0.same SS
    have b5 := b4.same SS
    have nl2p : l2 ≠ p := by
      obtain ⟨x, e⟩ := (b4.same ((((S1.trans S2).trans S3).trans S4).trans S5)).at
      exact (ne_of_none e nl2).symm
    refine ⟨p, l2, _, n + 3, rfl, b5, by omega, upd_same, nl2p, by simp, (by decide : 8 < 1000), fun v2 H5 hm c5 b6 => ?_⟩
    obtain ⟨q2, pq, dq⟩ := mem8 i0' i0' i0' i1 i2 i3 i4 i5 hm
    exact q v2 H5 q2 pq (C4.trans ((Chg.of_same SS).trans c5)) b6 (b5.dp c5 dq (noL_fr q2))
theorem ok_row {f fT fO fP : Addr} {fd fdT fdO fdP : FuncData} {k : Nat} (F : Fun K "_law_row" "_law_row" sRow f fd)
    (kT : PySem.W.keepIn K (.ref fT) = true) (GT : FnOk P w K mg base CX0 (k + 3) fT fdT ["_law_box_here", "_law_size"] spTake) (bT : Binds K fdT ["_law_box_here", "_law_size"] []) (gT : mg "_law_take" = some (.ref fT))
    (kO : PySem.W.keepIn K (.ref fO) = true) (GO : FnOk P w K mg base CX0 (k + 3) fO fdO ["_law_box_here", "_law_some"] (spOf K)) (bO : Binds K fdO ["_law_box_here", "_law_some"] []) (gO : mg "_law_of" = some (.ref fO))
    (kP : PySem.W.keepIn K (.ref fP) = true) (GP : FnOk P w K mg base CX0 (k + 3) fP fdP ["_law_box_here"] (spPane K)) (bP : Binds K fdP ["_law_box_here"] []) (gP : mg "_law_pane" = some (.ref fP))
    (mr : mg "range" = none) (mt : mg "tuple" = none) : FnOk P w K mg base CX0 (k + 4) f fd ["_law_box_here", "_law_most"] (spRow K) := by
  refine F.ok scRow (fun vs H Q E h => ?_) (fun cdv A outer s H vs Q E hr h => ?_)
  · obtain ⟨p, m, n, rfl, _⟩ := h
    rfl
  · obtain ⟨p, m, n, rfl, hb, hn, hm, q⟩ := h
    refine ⟨_, pss_cons (ps_set (i := 2) scRow.nd rfl (.inl rfl) (pe_callTy call_tuple_of (by rfl) mt PyProof.Rows.boot_tuple (pa_cons
        (pe_lc (own := [("_law_turn", 3)]) (g := gName 3) (tt := tYes) rfl scRow.nd (pi_range1 (by rfl) mr (pa_cons (pe_call GT hr (by rfl) gT kT bT .nil pass0 (pa_cons (pv 0) (pa_cons (pe_op op_add (pv 1) pe_int) pa_nil))) pa_nil))
          (blkOk_by (N := ["_law_box_here", "_law_most", "_law_panes", "_law_turn"]) (sc := defScope sRow) (by decide +kernel)) (fun _ _ _ _ _ => pg_name (i := 3) scRow.nd rfl (Or.inl rfl)) (fun _ _ _ _ _ => pts_nil)
          (fun _ _ _ _ _ => pe_call GP hr (by rfl) gP kP bP .nil pass0 (pa_cons (pv 0) pa_nil))) pa_nil)))
      (pss_one (ps_ret (pe_tup (pa_cons (pv 2) (pa_cons (pe_call GO hr (by rfl) gO kO bO .nil pass0 (pa_cons (pv 0) (pa_cons (pe_lst (pa_cons pe_int (pa_cons pe_int (pa_cons pe_int (pa_cons pe_int (pa_cons pe_int (pa_cons (pe_un un_neg pe_int) pa_nil))))))) pa_nil))) pa_nil))))), ?_⟩
    refine ⟨.ref p, rfl, _, rfl, _, _, rfl, rfl, p, _, n, rfl, hb, by omega, by omega, by omega, fun r H1 h0 h1 c1 b1 => ?_⟩
    refine ⟨r, rfl, by omega, by omega, fun D nD => lc_it walk_range (fun i H2 => ∃ (vs : List V) (qs : List Rat), Chg p H H2 ∧ Bx H2 p (n + 1 + 4 * i) ∧ H2 D = some (.lst vs) ∧ DpAll K H2 vs (frs qs) ∧ (∀ q ∈ qs, PaneQ q) ∧ qs.length = i) ?_ (fun _ _ _ _ => trivial) ?_ ?_⟩
    · refine ⟨[], [], c1.trans (Chg.of_same (same_upd nD)), b1.same (same_upd nD), upd_same, .nil, by simp, rfl⟩
    · rintro i x H2 H2' hi ⟨vs, qs, C2, B2, hD, dD, pq, hl⟩ ⟨rfl, rfl⟩
      refine ⟨rfl, .ref p, rfl, p, _, rfl, B2, by omega, fun v H3 q2 pq2 c3 b3 d3 => ?_⟩
      have nDp : D ≠ p := by
        obtain ⟨x, e⟩ := b1.at
        exact (ne_of_none e nD).symm
      have nDH : H D = none := c1.free nDp nD
      have hD3 : H3 D = some (.lst vs) := c3 _ _ nDp hD
      refine ⟨vs, hD3, ?_, vs ++ [v], qs ++ [q2], (C2.trans c3).new_upd nDH, (b3.other nDp.symm).mono (by omega), upd_same, ?_, ?_, ?_⟩
      · rw [dps_len dD]
        unfold frs
        rw [List.length_map]
        exact small1000 (by omega)
      · refine dps_put hD3 (noL_frs _) (dps_snoc (B2.dps c3 dD (noL_frs _)) d3)
      · intro q5 h5
        rcases List.mem_append.mp h5 with h5 | h5
        · exact pq _ h5
        · rw [List.mem_singleton.mp h5]
          exact pq2
      · rw [List.length_append, hl]
        rfl
    · rintro H2 ⟨vs, qs, C2, B2, hD, dD, pq, hl⟩
      refine ⟨D, vs, rfl, .inl ⟨SqL.of hD, fun t nt => ?_⟩⟩
      have St := same_upd (o := .tup vs) nt
      -- (panes, a drawn wall)
      refine ⟨_, rfl, .ref p, rfl, 1, rfl, (by decide : 6 ≤ sizeLine), fun l nl => ?_⟩
      have Sl := same_upd (o := .lst [.int 0, .int 0, .int 0, .int 0, .int 1, .int (-1)]) nl
      have b5 := B2.same (St.trans Sl)
      have nlp : l ≠ p := by
        obtain ⟨x, e⟩ := (B2.same St).at
        exact (ne_of_none e nl).symm
      refine ⟨p, l, _, _, rfl, b5, by omega, upd_same, nlp, by simp, by decide, fun v H5 hv c5 b6 => ?_⟩
      have hw : ∃ x : Int, v = .int x ∧ WallI x := by
        simp only [List.mem_cons, List.not_mem_nil, or_false] at hv
        rcases hv with rfl | rfl | rfl | rfl | rfl | rfl
        · exact ⟨_, rfl, .inl rfl⟩
        · exact ⟨_, rfl, .inl rfl⟩
        · exact ⟨_, rfl, .inl rfl⟩
        · exact ⟨_, rfl, .inl rfl⟩
        · exact ⟨_, rfl, .inr (.inl rfl)⟩
        · exact ⟨_, rfl, .inr (.inr rfl)⟩
      obtain ⟨x, rfl, hx⟩ := hw
      have dT : Dp K _ (.ref t) (.tuple (frs qs)) := .tup (SqT.of (upd_same (H := H2) (a := t) (o := .tup vs))) (dps_same St _ _ dD)
      have dT5 := b5.dp c5 (dp_same Sl _ _ dT) (show noL (.tuple (frs qs)) = true from noL_frs qs)
      refine ⟨(by decide : 2 ≤ sizeLine), fun t2 nt2 => ?_⟩
      have S6 := same_upd (o := .tup [.ref t, .int x]) nt2
      refine q _ _ qs x pq (by omega) hx (C2.trans ((Chg.of_same (St.trans Sl)).trans (c5.trans (Chg.of_same S6)))) ((b6.same S6).mono (by omega)) ?_
      exact .tup (SqT.of upd_same) (.cons (dp_same S6 _ _ dT5) (.cons (.int x) .nil))
end
/-! ### what is alike is told so -/
abbrev sSame : Stmt := topS 13
theorem scSame : FnScope ["_law_found", "_law_due", "_law_one", "_law_two"] ["_law_found", "_law_due"] (defScope sSame) := ⟨rfl, rfl, rfl, by decide +kernel, rfl, by decide +kernel, by decide +kernel⟩
/-- data less than d deep, no list or tuple of more than 1000 -/
def okD : Nat → PyData → Bool
  | 0, _ => false
  | d + 1, .list ds => decide (ds.length ≤ 1000) && ds.all (okD d)
  | d + 1, .tuple ds => decide (ds.length ≤ 1000) && ds.all (okD d)
  | _ + 1, .dict _ => false
  | _ + 1, _ => true
/-- two things that are the same data: True -/
def spSame (K : PySem.W.Frag) (d : Nat) : Sp := fun vs H Q _ => ∃ (x y : V) (D : PyData), vs = [x, y] ∧ Dp K H x D ∧ Dp K H y D ∧ okD d D = true ∧ ∀ H' : Hp, Same H H' → Q (.bl true) H'
theorem ok_list {d : Nat} {ds : List PyData} (h : okD (d + 1) (.list ds) = true) : ds.length ≤ 1000 ∧ ∀ x ∈ ds, okD d x = true := by
  unfold okD at h
  simpa using h
theorem ok_tuple {d : Nat} {ds : List PyData} (h : okD (d + 1) (.tuple ds) = true) : ds.length ≤ 1000 ∧ ∀ x ∈ ds, okD d x = true := by
  unfold okD at h
  simpa using h
theorem all_true (n : Nat) : (List.replicate n true).all id = true := by
  induction n with
  | zero => rfl
  | succ n ih =>
    rw [List.replicate_succ, List.all_cons, ih]
    rfl
theorem rep_snoc (n : Nat) : (List.replicate n true).map V.bl ++ [V.bl true] = (List.replicate (n + 1) true).map V.bl := by
  rw [List.replicate_succ', List.map_append]
  rfl
section
variable {P : Program} {w : World} {K : PySem.W.Frag} {mg : Str → Option Value} {base : Heap}
theorem ok_same {f : Addr} {fd : FuncData} (F : Fun K "_law_same" "_law_same" sSame f fd) (b : Binds K fd ["_law_found", "_law_due"] []) (g : mg "_law_same" = some (.ref f))
    (mI : mg "isinstance" = none) (mdict : mg "dict" = none) (mlist : mg "list" = none) (mtuple : mg "tuple" = none) (ml : mg "len" = none) (mall : mg "all" = none) (mz : mg "zip" = none) (mbool : mg "bool" = none) (mstr : mg "str" = none) (mint : mg "int" = none) :
    ∀ d : Nat, FnOk P w K mg base CX0 d f fd ["_law_found", "_law_due"] (spSame K d)
  | 0 => ⟨fun vs H Q E h => by obtain ⟨x, y, D, rfl, _⟩ := h; rfl, fun A outer s H args us vs Q E _ _ _ _ h => by
      obtain ⟨x, y, D, _, _, _, h0, _⟩ := h
      cases h0⟩
  | d + 1 => by
    have G := ok_same F b g mI mdict mlist mtuple ml mall mz mbool mstr mint d
    refine F.ok scSame (fun vs H Q E h => ?_) (fun cdv A outer s H vs Q E hr h => ?_)
    · obtain ⟨x, y, D, rfl, _⟩ := h
      rfl
    · obtain ⟨x, y, D, rfl, hx, hy, hd, q⟩ := h
      refine ⟨_, pss_cons (ps_if (pt_val (pe_callB call_isi (by rfl) mI PyProof.Rows.boot_isinstance (pa_cons (pv 1) (pa_cons (pe_bltn (v := .ty "dict") (by rfl) mdict PyProof.Rows.boot_dict rfl) pa_nil)))) pss_never pss_nil)
        (pss_cons (ps_if (pt_val (pe_callB call_isiT (by rfl) mI PyProof.Rows.boot_isinstance (pa_cons (pv 1) (pa_cons (pe_tup (pa_cons (pe_bltn (v := .ty "list") (by rfl) mlist PyProof.Rows.boot_list rfl) (pa_cons (pe_bltn (v := .ty "tuple") (by rfl) mtuple PyProof.Rows.boot_tuple rfl) pa_nil))) pa_nil))))
          (pss_cons (ps_if (PW.pt (pw_or (pt_cmpR op_ne (pe_callB call_isi (by rfl) mI PyProof.Rows.boot_isinstance (pa_cons (pv 0) (pa_cons (pe_bltn (v := .ty "list") (by rfl) mlist PyProof.Rows.boot_list rfl) pa_nil))) (pe_callB call_isi (by rfl) mI PyProof.Rows.boot_isinstance (pa_cons (pv 1) (pa_cons (pe_bltn (v := .ty "list") (by rfl) mlist PyProof.Rows.boot_list rfl) pa_nil))) (nomark _))
              (pw_or1 (pt_cmpR op_ne (pe_callB call_isi (by rfl) mI PyProof.Rows.boot_isinstance (pa_cons (pv 0) (pa_cons (pe_bltn (v := .ty "tuple") (by rfl) mtuple PyProof.Rows.boot_tuple rfl) pa_nil))) (pe_callB call_isi (by rfl) mI PyProof.Rows.boot_isinstance (pa_cons (pv 1) (pa_cons (pe_bltn (v := .ty "tuple") (by rfl) mtuple PyProof.Rows.boot_tuple rfl) pa_nil))) (nomark _))))) pss_never pss_nil)
          (pss_one (ps_ret (pe_and (pe_cmpR op_eq (pe_callB call_len_seq (by rfl) ml PySem.boot_len (pa_cons (pv 0) pa_nil)) (pe_callB call_len_seq (by rfl) ml PySem.boot_len (pa_cons (pv 1) pa_nil)) (nomark _))
            (pe_one (pe_callB (cr_all rfl) (by rfl) mall (by decide +kernel) (pa_cons
              (pe_lc (own := [("_law_one", 2), ("_law_two", 3)]) (g := gTup K 2 (gCons (gName 2) (gCons (gName 3) gNil))) (tt := tYes) rfl scSame.nd (RZ.pi_zipA (by rfl) mz (pa_cons (pv 0) (pa_cons (pv 1) pa_nil)))
                (blkOk_by (N := ["_law_found", "_law_due", "_law_one", "_law_two"]) (sc := defScope sSame) (by decide +kernel))
                (fun _ _ _ _ _ => pg_tup rfl (pgs_cons (pg_name (i := 2) scSame.nd rfl (.inl rfl)) (pgs_cons (pg_name (i := 3) scSame.nd rfl (.inl rfl)) pgs_nil))) (fun _ _ _ _ _ => pts_nil)
                (fun _ _ _ _ _ => pe_call G hr (by rfl) g F.kp b .nil pass0 (pa_cons (pv 2) (pa_cons (pv 3) pa_nil)))) pa_nil))))))) pss_nil)
        (pss_cons (ps_if (PW.pt (pw_or (pt_cmpR op_isN (pv 1) pe_non (nomark _)) (pw_or1 (pt_val (pe_callB call_isiT (by rfl) mI PyProof.Rows.boot_isinstance (pa_cons (pv 1) (pa_cons (pe_tup (pa_cons (pe_bltn (v := .ty "bool") (by rfl) mbool PyProof.Rows.boot_bool rfl) (pa_cons (pe_bltn (v := .ty "str") (by rfl) mstr PyProof.Rows.boot_str rfl) pa_nil))) pa_nil)))))))
          (pss_one (ps_ret (pe_and (pe_cmpR op_eq (pv 0) (pv 1) (nomark _)) (pe_and (pe_cmpR op_eq (pe_callB call_isi (by rfl) mI PyProof.Rows.boot_isinstance (pa_cons (pv 0) (pa_cons (pe_bltn (v := .ty "bool") (by rfl) mbool PyProof.Rows.boot_bool rfl) pa_nil))) (pe_callB call_isi (by rfl) mI PyProof.Rows.boot_isinstance (pa_cons (pv 1) (pa_cons (pe_bltn (v := .ty "bool") (by rfl) mbool PyProof.Rows.boot_bool rfl) pa_nil))) (nomark _))
            (pe_one (pe_cmpR op_eq (pe_cmpR op_isN (pv 0) pe_non (nomark _)) (pe_cmpR op_isN (pv 1) pe_non (nomark _)) (nomark _))))))) pss_nil)
        (pss_one (ps_ret (pe_and (pe_callB call_isi (by rfl) mI PyProof.Rows.boot_isinstance (pa_cons (pv 0) (pa_cons (pe_bltn (v := .ty "int") (by rfl) mint PyProof.Rows.boot_int rfl) pa_nil)))
          (pe_and (pe_not (pe_callB call_isi (by rfl) mI PyProof.Rows.boot_isinstance (pa_cons (pv 0) (pa_cons (pe_bltn (v := .ty "bool") (by rfl) mbool PyProof.Rows.boot_bool rfl) pa_nil)))) (pe_one (pe_cmpR op_eq (pv 0) (pv 1) (nomark _))))))))), ?_⟩
      cases D with
      | dict kvs => cases hx
      | none =>
        cases hx
        cases hy
        refine ⟨_, rfl, _, _, _, _, _, rfl, .ty _, .base .non, kit_ty (by decide +kernel), _, rfl, iteF ?_⟩
        refine ⟨_, rfl, (by decide : 2 ≤ sizeLine), fun t nt => ⟨_, t, _, _, _, _, rfl, upd_same, .cons (.ty _) (.cons (.ty _) .nil), .base .non, kitAny_cons (kit_ty (r := false) (by decide +kernel)) (fun _ => kitAny_cons (kit_ty (r := false) (by decide +kernel)) (fun _ => kitAny_nil) (fun z => nomatch z)) (fun z => nomatch z), _, rfl, iteF ?_⟩⟩
        refine ⟨_, rfl, rfl, _, rfl, iteT (iteT ?_)⟩
        refine ⟨_, rfl, _, rfl, rfl, _, rfl, iteT ?_⟩
        refine ⟨_, rfl, _, _, _, _, _, rfl, .ty _, .base .non, kit_ty (r := false) (by decide +kernel), _, rfl, _, _, _, _, _, rfl, .ty _, .base .non, kit_ty (r := false) (by decide +kernel), rfl, _, rfl, iteT ?_⟩
        exact ⟨_, rfl, rfl, _, rfl, rfl, rfl, q _ (same_upd nt)⟩
      | bool v =>
        cases hx
        cases hy
        refine ⟨_, rfl, _, _, _, _, _, rfl, .ty _, .base (.bl v), kit_ty (by decide +kernel), _, rfl, iteF ?_⟩
        refine ⟨_, rfl, (by decide : 2 ≤ sizeLine), fun t nt => ⟨_, t, _, _, _, _, rfl, upd_same, .cons (.ty _) (.cons (.ty _) .nil), .base (.bl v), kitAny_cons (kit_ty (r := false) (by decide +kernel)) (fun _ => kitAny_cons (kit_ty (r := false) (by decide +kernel)) (fun _ => kitAny_nil) (fun z => nomatch z)) (fun z => nomatch z), _, rfl, iteF ?_⟩⟩
        refine ⟨_, rfl, rfl, _, rfl, iteF ?_⟩
        refine ⟨_, rfl, (by decide : 2 ≤ sizeLine), fun t2 nt2 => ⟨_, t2, _, _, _, _, rfl, upd_same, .cons (.ty _) (.cons (.ty _) .nil), .base (.bl v), kitAny_cons (r := true) (kit_ty (r := true) (by decide +kernel)) (fun z => nomatch z) (fun z => rfl), _, rfl, iteT ?_⟩⟩
        refine ⟨_, rfl, _, rfl, rfl, _, congrArg V.bl (decide_eq_true rfl), iteT ?_⟩
        refine ⟨_, rfl, _, _, _, _, _, rfl, .ty _, .base (.bl v), kit_ty (r := true) (by decide +kernel), _, rfl, _, _, _, _, _, rfl, .ty _, .base (.bl v), kit_ty (r := true) (by decide +kernel), rfl, _, rfl, iteT ?_⟩
        exact ⟨_, rfl, rfl, _, rfl, rfl, rfl, q _ ((same_upd nt).trans (same_upd nt2))⟩
      | str v =>
        cases hx
        cases hy
        refine ⟨_, rfl, _, _, _, _, _, rfl, .ty _, .base (.str v), kit_ty (by decide +kernel), _, rfl, iteF ?_⟩
        refine ⟨_, rfl, (by decide : 2 ≤ sizeLine), fun t nt => ⟨_, t, _, _, _, _, rfl, upd_same, .cons (.ty _) (.cons (.ty _) .nil), .base (.str v), kitAny_cons (kit_ty (r := false) (by decide +kernel)) (fun _ => kitAny_cons (kit_ty (r := false) (by decide +kernel)) (fun _ => kitAny_nil) (fun z => nomatch z)) (fun z => nomatch z), _, rfl, iteF ?_⟩⟩
        refine ⟨_, rfl, rfl, _, rfl, iteF ?_⟩
        refine ⟨_, rfl, (by decide : 2 ≤ sizeLine), fun t2 nt2 => ⟨_, t2, _, _, _, _, rfl, upd_same, .cons (.ty _) (.cons (.ty _) .nil), .base (.str v), kitAny_cons (r := true) (kit_ty (r := false) (by decide +kernel)) (fun _ => kitAny_cons (kit_ty (r := true) (by decide +kernel)) (fun z => nomatch z) (fun _ => rfl)) (fun z => nomatch z), _, rfl, iteT ?_⟩⟩
        refine ⟨_, rfl, _, rfl, rfl, _, congrArg V.bl (decide_eq_true rfl), iteT ?_⟩
        refine ⟨_, rfl, _, _, _, _, _, rfl, .ty _, .base (.str v), kit_ty (r := false) (by decide +kernel), _, rfl, _, _, _, _, _, rfl, .ty _, .base (.str v), kit_ty (r := false) (by decide +kernel), rfl, _, rfl, iteT ?_⟩
        exact ⟨_, rfl, rfl, _, rfl, rfl, rfl, q _ ((same_upd nt).trans (same_upd nt2))⟩
      | int v =>
        cases hx
        cases hy
        refine ⟨_, rfl, _, _, _, _, _, rfl, .ty _, .base (.int v), kit_ty (by decide +kernel), _, rfl, iteF ?_⟩
        refine ⟨_, rfl, (by decide : 2 ≤ sizeLine), fun t nt => ⟨_, t, _, _, _, _, rfl, upd_same, .cons (.ty _) (.cons (.ty _) .nil), .base (.int v), kitAny_cons (kit_ty (r := false) (by decide +kernel)) (fun _ => kitAny_cons (kit_ty (r := false) (by decide +kernel)) (fun _ => kitAny_nil) (fun z => nomatch z)) (fun z => nomatch z), _, rfl, iteF ?_⟩⟩
        refine ⟨_, rfl, rfl, _, rfl, iteF ?_⟩
        refine ⟨_, rfl, (by decide : 2 ≤ sizeLine), fun t2 nt2 => ⟨_, t2, _, _, _, _, rfl, upd_same, .cons (.ty _) (.cons (.ty _) .nil), .base (.int v), kitAny_cons (kit_ty (r := false) (by decide +kernel)) (fun _ => kitAny_cons (kit_ty (r := false) (by decide +kernel)) (fun _ => kitAny_nil) (fun z => nomatch z)) (fun z => nomatch z), _, rfl, iteF ?_⟩⟩
        refine ⟨_, rfl, _, _, _, _, _, rfl, .ty _, .base (.int v), kit_ty (by decide +kernel), _, rfl, iteT ?_⟩
        refine ⟨_, rfl, _, _, _, _, _, rfl, .ty _, .base (.int v), kit_ty (r := false) (by decide +kernel), _, rfl, _, rfl, iteT ?_⟩
        refine ⟨_, rfl, _, rfl, rfl, ?_⟩
        rw [decide_eq_true rfl]
        exact q _ ((same_upd nt).trans (same_upd nt2))
      | list ds =>
        obtain ⟨a1, xs, rfl, h1, e1⟩ := dp_lst hx
        obtain ⟨a2, ys, rfl, h2, e2⟩ := dp_lst hy
        obtain ⟨hlen, hmem⟩ := ok_list hd
        refine ⟨_, rfl, _, _, _, _, _, rfl, .ty _, ty_lst h2, kit_ty (by decide +kernel), _, rfl, iteF ?_⟩
        refine ⟨_, rfl, (by decide : 2 ≤ sizeLine), fun t nt => ?_⟩
        have S := same_upd (o := .tup [V.ty "list", V.ty "tuple"]) nt
        have g1 := S.seq h1
        have g2 := S.seq h2
        refine ⟨_, t, _, _, _, _, rfl, upd_same, .cons (.ty _) (.cons (.ty _) .nil), ty_lst g2, kitAny_cons (r := true) (kit_ty (r := true) (by decide +kernel)) (fun z => nomatch z) (fun _ => rfl), _, rfl, iteT ?_⟩
        refine ⟨_, rfl, _, _, _, _, _, rfl, .ty _, ty_lst g1, kit_ty (r := true) (by decide +kernel), _, rfl, _, _, _, _, _, rfl, .ty _, ty_lst g2, kit_ty (r := true) (by decide +kernel), rfl, _, rfl, iteF ?_⟩
        refine ⟨_, rfl, _, _, _, _, _, rfl, .ty _, ty_lst g1, kit_ty (r := false) (by decide +kernel), _, rfl, _, _, _, _, _, rfl, .ty _, ty_lst g2, kit_ty (r := false) (by decide +kernel), rfl, _, rfl, iteF ?_⟩
        have hl : xs.length = ys.length := (dps_len e1).trans (dps_len e2).symm
        have hx9 : xs.length ≤ 1000 := by
          rw [dps_len e1]
          exact hlen
        refine ⟨_, rfl, _, _, rfl, (.inl g1), _, rfl, _, _, rfl, (.inl g2), rfl, _, congrArg V.bl (decide_eq_true (congrArg V.int (congrArg Int.ofNat hl))), iteT ?_⟩
        refine ⟨_, rfl, _, rfl, _, _, xs, ys, rfl, .inl ⟨g1, g2, fun L nL => lc_it (walk_zip (xs := xs) (ys := ys) (n := xs.length) (by omega)) (fun i H2 => Same H H2 ∧ H2 L = some (.lst ((List.replicate i true).map V.bl))) ⟨S.trans (same_upd nL), upd_same⟩ (fun i H2 _ p => ⟨Same.seq p.1 h1, Same.seq p.1 h2⟩) ?_ ?_⟩⟩
        · rintro i v H2 H3 hi ⟨s2, hL⟩ ⟨T, x, y, rfl, nT, rfl, ex, ey⟩
          refine ⟨T, _, rfl, SqT.of upd_same, rfl, x, [y], rfl, y, [], rfl, rfl, rfl, x, rfl, y, rfl, ?_⟩
          obtain ⟨D1, f1, k1⟩ := dps_get e1 ex
          obtain ⟨D2, f2, k2⟩ := dps_get e2 ey
          have eD : D1 = D2 := Option.some.inj (f1.symm.trans f2)
          subst eD
          have S3 := s2.trans (same_upd (o := .tup [x, y]) nT)
          refine ⟨x, y, D1, rfl, dp_same S3 _ _ k1, dp_same S3 _ _ k2, hmem _ (List.mem_of_getElem? f1), fun H4 s4 => ?_⟩
          have hL4 : H4 L = some (.lst ((List.replicate i true).map V.bl)) := s4 _ _ (same_upd nT _ _ hL)
          have nLH : H L = none := S.free nL
          refine ⟨_, hL4, ?_, Same.new_upd (S3.trans s4) nLH, ?_⟩
          · rw [List.length_map, List.length_replicate]
            exact small1000 (by omega)
          · rw [upd_same, rep_snoc]
        · rintro H2 ⟨s2, hL⟩
          refine ⟨L, List.replicate xs.length true, rfl, SqL.of hL, ?_⟩
          rw [all_true]
          exact q _ s2
      | tuple ds =>
        obtain ⟨a1, xs, rfl, h1, e1⟩ := dp_tup hx
        obtain ⟨a2, ys, rfl, h2, e2⟩ := dp_tup hy
        obtain ⟨hlen, hmem⟩ := ok_tuple hd
        refine ⟨_, rfl, _, _, _, _, _, rfl, .ty _, ty_tup h2, kit_ty (by decide +kernel), _, rfl, iteF ?_⟩
        refine ⟨_, rfl, (by decide : 2 ≤ sizeLine), fun t nt => ?_⟩
        have S := same_upd (o := .tup [V.ty "list", V.ty "tuple"]) nt
        have g1 := Same.tup S h1
        have g2 := Same.tup S h2
        refine ⟨_, t, _, _, _, _, rfl, upd_same, .cons (.ty _) (.cons (.ty _) .nil), ty_tup g2, kitAny_cons (r := true) (kit_ty (r := false) (by decide +kernel)) (fun _ => kitAny_cons (kit_ty (r := true) (by decide +kernel)) (fun z => nomatch z) (fun _ => rfl)) (fun z => nomatch z), _, rfl, iteT ?_⟩
        refine ⟨_, rfl, _, _, _, _, _, rfl, .ty _, ty_tup g1, kit_ty (r := false) (by decide +kernel), _, rfl, _, _, _, _, _, rfl, .ty _, ty_tup g2, kit_ty (r := false) (by decide +kernel), rfl, _, rfl, iteF ?_⟩
        refine ⟨_, rfl, _, _, _, _, _, rfl, .ty _, ty_tup g1, kit_ty (r := true) (by decide +kernel), _, rfl, _, _, _, _, _, rfl, .ty _, ty_tup g2, kit_ty (r := true) (by decide +kernel), rfl, _, rfl, iteF ?_⟩
        have hl : xs.length = ys.length := (dps_len e1).trans (dps_len e2).symm
        have hx9 : xs.length ≤ 1000 := by
          rw [dps_len e1]
          exact hlen
        refine ⟨_, rfl, _, _, rfl, (.inr g1), _, rfl, _, _, rfl, (.inr g2), rfl, _, congrArg V.bl (decide_eq_true (congrArg V.int (congrArg Int.ofNat hl))), iteT ?_⟩
        refine ⟨_, rfl, _, rfl, _, _, xs, ys, rfl, .inr ⟨g1, g2, fun L nL => lc_it (walk_zipT (xs := xs) (ys := ys) (n := xs.length) (by omega)) (fun i H2 => Same H H2 ∧ H2 L = some (.lst ((List.replicate i true).map V.bl))) ⟨S.trans (same_upd nL), upd_same⟩ (fun i H2 _ p => ⟨Same.tup p.1 h1, Same.tup p.1 h2⟩) ?_ ?_⟩⟩
        · rintro i v H2 H3 hi ⟨s2, hL⟩ ⟨T, x, y, rfl, nT, rfl, ex, ey⟩
          refine ⟨T, _, rfl, SqT.of upd_same, rfl, x, [y], rfl, y, [], rfl, rfl, rfl, x, rfl, y, rfl, ?_⟩
          obtain ⟨D1, f1, k1⟩ := dps_get e1 ex
          obtain ⟨D2, f2, k2⟩ := dps_get e2 ey
          have eD : D1 = D2 := Option.some.inj (f1.symm.trans f2)
          subst eD
          have S3 := s2.trans (same_upd (o := .tup [x, y]) nT)
          refine ⟨x, y, D1, rfl, dp_same S3 _ _ k1, dp_same S3 _ _ k2, hmem _ (List.mem_of_getElem? f1), fun H4 s4 => ?_⟩
          have hL4 : H4 L = some (.lst ((List.replicate i true).map V.bl)) := s4 _ _ (same_upd nT _ _ hL)
          have nLH : H L = none := S.free nL
          refine ⟨_, hL4, ?_, Same.new_upd (S3.trans s4) nLH, ?_⟩
          · rw [List.length_map, List.length_replicate]
            exact small1000 (by omega)
          · rw [upd_same, rep_snoc]
        · rintro H2 ⟨s2, hL⟩
          refine ⟨L, List.replicate xs.length true, rfl, SqL.of hL, ?_⟩
          rw [all_true]
          exact q _ s2
end
/-! ### what a number, a FRACTION, a pane, a ROW is -/
abbrev s_is_number : Stmt := topS 1
theorem sc_is_number : FnScope ["thing"] ["thing"] (defScope s_is_number) := ⟨rfl, rfl, rfl, by decide +kernel, rfl, by decide +kernel, by decide +kernel⟩
abbrev s__law_is_number : Stmt := topS 17
theorem sc__law_is_number : FnScope ["_law_matter"] ["_law_matter"] (defScope s__law_is_number) := ⟨rfl, rfl, rfl, by decide +kernel, rfl, by decide +kernel, by decide +kernel⟩
abbrev s_is_fraction : Stmt := topS 3
theorem sc_is_fraction : FnScope ["thing", "top", "bottom"] ["thing"] (defScope s_is_fraction) := ⟨rfl, rfl, rfl, by decide +kernel, rfl, by decide +kernel, by decide +kernel⟩
abbrev s_is_pane : Stmt := topS 6
theorem sc_is_pane : FnScope ["thing"] ["thing"] (defScope s_is_pane) := ⟨rfl, rfl, rfl, by decide +kernel, rfl, by decide +kernel, by decide +kernel⟩
abbrev s_is_row : Stmt := topS 7
theorem sc_is_row : FnScope ["thing", "panes", "wall", "pane"] ["thing"] (defScope s_is_row) := ⟨rfl, rfl, rfl, by decide +kernel, rfl, by decide +kernel, by decide +kernel⟩
structure FreesA (mg : Str → Option Value) : Prop where
  mlen : mg "len" = none
  mabs : mg "abs" = none
  misi : mg "isinstance" = none
  mint : mg "int" = none
  mbool : mg "bool" = none
  mtuple : mg "tuple" = none
  mlist : mg "list" = none
  mall : mg "all" = none
  mrange : mg "range" = none
  mmin : mg "min" = none
  mrepr : mg "repr" = none
def isNumB (d : PyData) : Bool := isD "int" d && !isD "bool" d
def isFracB : PyData → Bool
  | .tuple [.int t, .int u] => decide (0 < u) && decide (Int.gcd t u = 1)
  | _ => false
def isPaneB : PyData → Bool
  | .tuple [.int t, .int u] => (decide (0 < u) && decide (Int.gcd t u = 1)) && decide (t.natAbs < u.natAbs)
  | _ => false
def isRowB : PyData → Bool
  | .tuple [.tuple ps, .int w] => ps.all isPaneB && decide (-1 ≤ w ∧ w ≤ 1)
  | _ => false
/-- of any data whether it is so -/
def spData (g : PyData → Bool) (K : PySem.W.Frag) : Sp := fun vs H Q _ => ∃ (v : V) (d : PyData), vs = [v] ∧ Dp K H v d ∧ Th 300 1000 d ∧ ∀ H' : Hp, Same H H' → Q (.bl (g d)) H'
theorem isNum_int {d : PyData} (h : isNumB d = true) : ∃ i, d = .int i := by
  cases d with
  | int i => exact ⟨i, rfl⟩
  | none => exact absurd h (by decide)
  | bool b => exact absurd h (show ¬ (isC "bool" "int" && !isC "bool" "bool") = true by decide)
  | str b => exact absurd h (show ¬ (isC "str" "int" && !isC "str" "bool") = true by decide)
  | list b => exact absurd h (show ¬ (isC "list" "int" && !isC "list" "bool") = true by decide)
  | tuple b => exact absurd h (show ¬ (isC "tuple" "int" && !isC "tuple" "bool") = true by decide)
  | dict b => exact absurd h (show ¬ (isC "dict" "int" && !isC "dict" "bool") = true by decide)
theorem isNum_not {d : PyData} (h : isNumB d = false) (i : Int) : d ≠ .int i := fun e => by
  subst e
  exact absurd h (show ¬ (isC "int" "int" && !isC "int" "bool") = false by decide)
theorem isTup_tup {d : PyData} (h : isD "tuple" d = true) : ∃ ds, d = .tuple ds := by
  cases d with
  | tuple i => exact ⟨i, rfl⟩
  | none => exact absurd h (by decide)
  | bool b => exact absurd h (show ¬ (isC "bool" "tuple") = true by decide)
  | str b => exact absurd h (show ¬ (isC "str" "tuple") = true by decide)
  | list b => exact absurd h (show ¬ (isC "list" "tuple") = true by decide)
  | int b => exact absurd h (show ¬ (isC "int" "tuple") = true by decide)
  | dict b => exact absurd h (show ¬ (isC "dict" "tuple") = true by decide)
theorem isTup_not {d : PyData} (h : isD "tuple" d = false) (ds : List PyData) : d ≠ .tuple ds := fun e => by
  subst e
  exact absurd h (show ¬ (isC "tuple" "tuple") = false by decide)
theorem two_of {ds : List PyData} (h : ds.length = 2) : ∃ a b, ds = [a, b] := by
  match ds, h with
  | [a, b], _ => exact ⟨a, b, rfl⟩
theorem frac_no {d : PyData} (h : ∀ t u, d ≠ .tuple [.int t, .int u]) : isFracB d = false := by
  unfold isFracB
  split
  · exact absurd rfl (h _ _)
  · rfl
theorem pane_no {d : PyData} (h : ∀ t u, d ≠ .tuple [.int t, .int u]) : isPaneB d = false := by
  unfold isPaneB
  split
  · exact absurd rfl (h _ _)
  · rfl
theorem row_no {d : PyData} (h : ∀ ps w, d ≠ .tuple [.tuple ps, .int w]) : isRowB d = false := by
  unfold isRowB
  split
  · exact absurd rfl (h _ _)
  · rfl
theorem dps_two {K : PySem.W.Frag} {H : Hp} {xs : List V} {a b : PyData} (h : DpAll K H xs [a, b]) : ∃ x y, xs = [x, y] ∧ Dp K H x a ∧ Dp K H y b := by
  cases h with
  | cons r t =>
    cases t with
    | cons r2 t2 =>
      cases t2
      exact ⟨_, _, rfl, r, r2⟩
theorem th_two {B N : Nat} {a b : PyData} (h : Th B N (.tuple [a, b])) : Th B N a ∧ Th B N b := by
  have z := h.tup
  exact ⟨(z.mem (d := a) (by simp)).le (Nat.le_refl _) (Nat.sub_le _ _), (z.mem (d := b) (by simp)).le (Nat.le_refl _) (Nat.sub_le _ _)⟩
section
variable {P : Program} {w : World} {K : PySem.W.Frag} {mg : Str → Option Value} {base : Heap}
theorem ok_isnum {f : Addr} {fd : FuncData} {k : Nat} (F : Fun K "is_number" "is_number" s_is_number f fd) (T : FreesA mg) : FnOk P w K mg base CX0 (k + 1) f fd ["thing"] (spData isNumB K) := by
  refine F.ok sc_is_number (fun vs H Q E h => ?_) (fun cdv A outer s H vs Q E hr h => ?_)
  · obtain ⟨v, d, rfl, _⟩ := h
    rfl
  · obtain ⟨v, d, rfl, hd, hT, q⟩ := h
    refine ⟨_, (pss_one (ps_ret (pe_and (pe_callB call_isD (by rfl) T.misi PyProof.Rows.boot_isinstance (pa_cons (pv 0) (pa_cons (pe_bltn (v := .ty "int") (by rfl) T.mint PyProof.Rows.boot_int rfl) pa_nil))) (pe_one (pe_not (pe_callB call_isD (by rfl) T.misi PyProof.Rows.boot_isinstance (pa_cons (pv 0) (pa_cons (pe_bltn (v := .ty "bool") (by rfl) T.mbool PyProof.Rows.boot_bool rfl) pa_nil)))))))), ?_⟩
    refine ⟨v, rfl, v, d, "int", rfl, hd, .inr (.inl rfl), _, rfl, ?_⟩
    have q' := q H (Same.refl H)
    unfold isNumB at q'
    cases h1 : isD "int" d with
    | false =>
      rw [h1] at q'
      exact iteF q'
    | true =>
      rw [h1] at q'
      refine iteT ⟨v, rfl, v, d, "bool", rfl, hd, .inr (.inr rfl), _, rfl, ?_⟩
      exact q'
theorem ok_lisnum {f : Addr} {fd : FuncData} {k : Nat} (F : Fun K "_law_is_number" "_law_is_number" s__law_is_number f fd) (T : FreesA mg) : FnOk P w K mg base CX0 (k + 1) f fd ["_law_matter"] (spData isNumB K) := by
  refine F.ok sc__law_is_number (fun vs H Q E h => ?_) (fun cdv A outer s H vs Q E hr h => ?_)
  · obtain ⟨v, d, rfl, _⟩ := h
    rfl
  · obtain ⟨v, d, rfl, hd, hT, q⟩ := h
    refine ⟨_, (pss_one (ps_ret (pe_and (pe_callB call_isD (by rfl) T.misi PyProof.Rows.boot_isinstance (pa_cons (pv 0) (pa_cons (pe_bltn (v := .ty "int") (by rfl) T.mint PyProof.Rows.boot_int rfl) pa_nil))) (pe_one (pe_not (pe_callB call_isD (by rfl) T.misi PyProof.Rows.boot_isinstance (pa_cons (pv 0) (pa_cons (pe_bltn (v := .ty "bool") (by rfl) T.mbool PyProof.Rows.boot_bool rfl) pa_nil)))))))), ?_⟩
    refine ⟨v, rfl, v, d, "int", rfl, hd, .inr (.inl rfl), _, rfl, ?_⟩
    have q' := q H (Same.refl H)
    unfold isNumB at q'
    cases h1 : isD "int" d with
    | false =>
      rw [h1] at q'
      exact iteF q'
    | true =>
      rw [h1] at q'
      refine iteT ⟨v, rfl, v, d, "bool", rfl, hd, .inr (.inr rfl), _, rfl, ?_⟩
      exact q'
theorem ok_isfrac {f fN fC : Addr} {fd fdN fdC : FuncData} {k : Nat} (F : Fun K "is_fraction" "is_fraction" s_is_fraction f fd) (T : FreesA mg) (cN : Cal P w K mg base (k + 1) "is_number" ["thing"] (spData isNumB K) fN fdN)
    (cC : Cal P w K mg base (k + 1) "common_part" ["one", "other"] spCommon fC fdC) : FnOk P w K mg base CX0 (k + 2) f fd ["thing"] (spData isFracB K) := by
  refine F.ok sc_is_fraction (fun vs H Q E h => ?_) (fun cdv A outer s H vs Q E hr h => ?_)
  · obtain ⟨v, d, rfl, _⟩ := h
    rfl
  · obtain ⟨v, d, rfl, hd, hT, q⟩ := h
    refine ⟨_, (pss_cons (ps_if (PW.pt (pw_or (pt_not (pt_val (pe_callB call_isD (by rfl) T.misi PyProof.Rows.boot_isinstance (pa_cons (pv 0) (pa_cons (pe_bltn (v := .ty "tuple") (by rfl) T.mtuple PyProof.Rows.boot_tuple rfl) pa_nil))))) (pw_or1 (pt_cmpR op_ne (pe_callB call_len_seq (by rfl) T.mlen PySem.boot_len (pa_cons (pv 0) pa_nil)) pe_int (nomark _))))) (pss_one (ps_ret pe_bl)) pss_nil)
      (pss_cons (ps_asg (pv 0) (pg_tup rfl (pgs_cons (pg_name (i := 1) sc_is_fraction.nd rfl (.inl rfl)) (pgs_cons (pg_name (i := 2) sc_is_fraction.nd rfl (.inl rfl)) pgs_nil))))
      (pss_cons (ps_if (PW.pt (pw_or (pt_not (pt_val (pe_c cN hr (by rfl) (pa_cons (pv 1) pa_nil)))) (pw_or1 (pt_not (pt_val (pe_c cN hr (by rfl) (pa_cons (pv 2) pa_nil))))))) (pss_one (ps_ret pe_bl)) pss_nil)
      (pss_one (ps_ret (pe_and (pe_cmpR op_gt (pv 2) pe_int (nomark _)) (pe_one (pe_cmpR op_eq (pe_c cC hr (by rfl) (pa_cons (pv 1) (pa_cons (pv 2) pa_nil))) pe_int (nomark _))))))))), ?_⟩
    refine ⟨v, rfl, v, d, "tuple", rfl, hd, .inl rfl, _, rfl, ?_⟩
    cases h1 : isD "tuple" d with
    | false =>
      refine iteT (iteT ?_)
      have q' := q H (Same.refl H)
      rw [frac_no (fun t u => isTup_not h1 _)] at q'
      exact q'
    | true =>
      obtain ⟨ds, rfl⟩ := isTup_tup h1
      obtain ⟨a, xs, rfl, ha, hxs⟩ := dp_tup hd
      have hl := dps_len hxs
      refine iteF ⟨.ref a, rfl, a, xs, rfl, .inr ha, rfl, _, rfl, ?_⟩
      by_cases h2 : ds.length = 2
      · obtain ⟨d1, d2, rfl⟩ := two_of h2
        obtain ⟨x, y, rfl, dx, dy⟩ := dps_two hxs
        obtain ⟨T1, T2⟩ := th_two hT
        refine iteF ⟨.ref a, rfl, a, _, rfl, ha, rfl, x, [y], rfl, y, [], rfl, rfl, ?_⟩
        refine ⟨x, rfl, x, d1, rfl, dx, T1, fun H1 s1 => ⟨_, rfl, ?_⟩⟩
        cases n1 : isNumB d1 with
        | false =>
          refine iteT (iteT ?_)
          have q' := q H1 s1
          rw [frac_no (fun t u e => isNum_not n1 t (by injection e with e; injection e))] at q'
          exact q'
        | true =>
          refine iteF ⟨y, rfl, y, d2, rfl, dp_same s1 _ _ dy, T2, fun H2 s2 => ⟨_, rfl, ?_⟩⟩
          cases n2 : isNumB d2 with
          | false =>
            refine iteT ?_
            have q' := q H2 (s1.trans s2)
            rw [frac_no (fun t u e => isNum_not n2 u (by injection e with e; injection e with _ e; injection e))] at q'
            exact q'
          | true =>
            obtain ⟨t, rfl⟩ := isNum_int n1
            obtain ⟨u, rfl⟩ := isNum_int n2
            cases dx
            cases dy
            refine iteF ⟨.int u, rfl, _, _, rfl, rfl, _, rfl, ?_⟩
            have q' : Q (.bl (decide (0 < u) && decide (Int.gcd t u = 1))) H2 := q H2 (s1.trans s2)
            by_cases hu : 0 < u
            · rw [decide_eq_true hu]
              refine iteT ⟨.int t, rfl, .int u, rfl, t, u, rfl, ?_⟩
              rw [decide_eq_true hu, Bool.true_and] at q'
              refine ⟨rfl, ?_⟩
              have e : decide (V.int (Int.gcd t u : Int) = V.int 1) = decide (Int.gcd t u = 1) := by
                rw [decide_eq_decide]
                exact ⟨fun z => by injection z with z; omega, fun z => by rw [z]; rfl⟩
              rw [e]
              exact q'
            · rw [decide_eq_false hu]
              rw [decide_eq_false hu, Bool.false_and] at q'
              exact iteF q'
      · have e : ((xs.length : Nat) : Int) ≠ 2 := by omega
        rw [decide_eq_false (fun z => e (V.int.inj z))]
        refine iteT ?_
        have q' := q H (Same.refl H)
        rw [frac_no (fun t u z => h2 (by injection z with z; rw [z]; rfl))] at q'
        exact q'
theorem ok_ispane {f fF : Addr} {fd fdF : FuncData} {k : Nat} (F : Fun K "is_pane" "is_pane" s_is_pane f fd) (T : FreesA mg) (cF : Cal P w K mg base (k + 1) "is_fraction" ["thing"] (spData isFracB K) fF fdF) :
    FnOk P w K mg base CX0 (k + 2) f fd ["thing"] (spData isPaneB K) := by
  refine F.ok sc_is_pane (fun vs H Q E h => ?_) (fun cdv A outer s H vs Q E hr h => ?_)
  · obtain ⟨v, d, rfl, _⟩ := h
    rfl
  · obtain ⟨v, d, rfl, hd, hT, q⟩ := h
    refine ⟨_, (pss_one (ps_ret (pe_and (pe_c cF hr (by rfl) (pa_cons (pv 0) pa_nil)) (pe_one (pe_cmpR op_lt (pe_callB call_abs (by rfl) T.mabs (by decide +kernel) (pa_cons (pe_ix ix_tup (pv 0) pe_int (fun _ _ => rfl)) pa_nil)) (pe_ix ix_tup (pv 0) pe_int (fun _ _ => rfl)) (nomark _)))))), ?_⟩
    refine ⟨v, rfl, v, d, rfl, hd, hT, fun H1 s1 => ⟨_, rfl, ?_⟩⟩
    cases h1 : isFracB d with
    | false =>
      have q' := q H1 s1
      have e : isPaneB d = false := by
        unfold isFracB at h1
        unfold isPaneB
        split at h1
        · show ((decide _ && decide _) && _) = false
          rw [h1]
          rfl
        · rfl
      rw [e] at q'
      exact iteF q'
    | true =>
      obtain ⟨t, u, rfl⟩ : ∃ t u, d = .tuple [.int t, .int u] := by
        unfold isFracB at h1
        split at h1
        · exact ⟨_, _, rfl⟩
        · cases h1
      obtain ⟨a, xs, rfl, ha, hxs⟩ := dp_tup (dp_same s1 _ _ hd)
      obtain ⟨x, y, rfl, dx, dy⟩ := dps_two hxs
      cases dx
      cases dy
      have q' : Q (.bl ((decide (0 < u) && decide (Int.gcd t u = 1)) && decide (t.natAbs < u.natAbs))) H1 := q H1 s1
      have h1' : (decide (0 < u) && decide (Int.gcd t u = 1)) = true := h1
      rw [h1', Bool.true_and] at q'
      have hu : 0 < u := by
        rw [Bool.and_eq_true] at h1'
        exact of_decide_eq_true h1'.1
      refine iteT ⟨.ref a, rfl, a, _, 0, _, rfl, rfl, ha, atI_nat (j := 0) rfl, t, rfl, .ref a, rfl, a, _, 1, _, rfl, rfl, ha, atI_nat (j := 1) rfl, _, _, rfl, rfl, ?_⟩
      have e : decide ((if t < 0 then -t else t) < u) = decide (t.natAbs < u.natAbs) := by
        rw [decide_eq_decide]
        split <;> omega
      show Q (.bl (decide ((if t < 0 then -t else t) < u))) H1
      rw [e]
      exact q'
/-- a walk that looks at each part of a tuple -/
def allB (g : PyData → Bool) (ds : List PyData) (i : Nat) : List V := (ds.take i).map fun d => V.bl (g d)
theorem allB_snoc {g : PyData → Bool} {ds : List PyData} {i : Nat} {d : PyData} (h : ds[i]? = some d) : allB g ds i ++ [V.bl (g d)] = allB g ds (i + 1) := by
  unfold allB
  rw [List.take_add_one, h, List.map_append]
  rfl
theorem allB_all (g : PyData → Bool) (ds : List PyData) : allB g ds ds.length = (ds.map g).map V.bl := by
  unfold allB
  rw [List.take_length, List.map_map]
  rfl
theorem all_map (g : PyData → Bool) (ds : List PyData) : (ds.map g).all id = ds.all g := by
  rw [List.all_map]
  rfl
theorem allB_len {g : PyData → Bool} {ds : List PyData} {i n : Nat} (h : ds.length ≤ n) (hn : n ≤ 1000 := by decide) : (allB g ds i).length < sizeLine := by
  unfold allB
  rw [List.length_map]
  exact small1000 (Nat.le_trans (List.length_take_le' _ _) (Nat.le_trans h hn))
theorem in_walls (i : Int) : inV (.int i) [.int 0, .int 1, .int (-1)] = decide (-1 ≤ i ∧ i ≤ 1) := by
  show (((0 : Int) == i) || (((1 : Int) == i) || (((-1 : Int) == i) || false))) = _
  by_cases h : -1 ≤ i ∧ i ≤ 1
  · rw [decide_eq_true h]
    have z : i = 0 ∨ i = 1 ∨ i = -1 := by omega
    rcases z with rfl | rfl | rfl <;> rfl
  · rw [decide_eq_false h, beq_eq_false_iff_ne.mpr (by omega), beq_eq_false_iff_ne.mpr (by omega), beq_eq_false_iff_ne.mpr (by omega)]
    rfl
theorem ok_isrow {f fN fP WA : Addr} {fd fdN fdP : FuncData} {k : Nat} (F : Fun K "is_row" "is_row" s_is_row f fd) (T : FreesA mg) (cN : Cal P w K mg base (k + 1) "is_number" ["thing"] (spData isNumB K) fN fdN)
    (cP : Cal P w K mg base (k + 1) "is_pane" ["thing"] (spData isPaneB K) fP fdP) (gW : mg "WALLS" = some (.ref WA)) (dW : ∀ H : Hp, SqT K H WA [.int 0, .int 1, .int (-1)]) :
    FnOk P w K mg base CX0 (k + 2) f fd ["thing"] (spData isRowB K) := by
  refine F.ok sc_is_row (fun vs H Q E h => ?_) (fun cdv A outer s H vs Q E hr h => ?_)
  · obtain ⟨v, d, rfl, _⟩ := h
    rfl
  · obtain ⟨v, d, rfl, hd, hT, q⟩ := h
    refine ⟨_, (pss_cons (ps_if (PW.pt (pw_or (pt_not (pt_val (pe_callB call_isD (by rfl) T.misi PyProof.Rows.boot_isinstance (pa_cons (pv 0) (pa_cons (pe_bltn (v := .ty "tuple") (by rfl) T.mtuple PyProof.Rows.boot_tuple rfl) pa_nil))))) (pw_or1 (pt_cmpR op_ne (pe_callB call_len_seq (by rfl) T.mlen PySem.boot_len (pa_cons (pv 0) pa_nil)) pe_int (nomark _))))) (pss_one (ps_ret pe_bl)) pss_nil)
      (pss_cons (ps_asg (pv 0) (pg_tup rfl (pgs_cons (pg_name (i := 1) sc_is_row.nd rfl (.inl rfl)) (pgs_cons (pg_name (i := 2) sc_is_row.nd rfl (.inl rfl)) pgs_nil))))
      (pss_cons (ps_if (PW.pt (pw_or (pt_not (pt_val (pe_c cN hr (by rfl) (pa_cons (pv 2) pa_nil)))) (pw_or1 (pt_cmpR op_notIn_seq (pv 2) (pe_glob (v := .ref WA) (by rfl) gW rfl) rfl)))) (pss_one (ps_ret pe_bl)) pss_nil)
      (pss_one (ps_ret (pe_and (pe_callB call_isD (by rfl) T.misi PyProof.Rows.boot_isinstance (pa_cons (pv 1) (pa_cons (pe_bltn (v := .ty "tuple") (by rfl) T.mtuple PyProof.Rows.boot_tuple rfl) pa_nil))) (pe_one (pe_callB (cr_all rfl) (by rfl) T.mall (by decide +kernel) (pa_cons (pe_lc (own := [("pane", 3)]) (g := (gName 3)) (tt := tYes) rfl sc_is_row.nd (pi_tup (pv 1)) (blkOk_by (N := ["thing", "panes", "wall", "pane"]) (sc := defScope s_is_row) (by decide +kernel)) (fun _ _ _ _ _ => pg_name (i := 3) sc_is_row.nd rfl (.inl rfl)) (fun _ _ _ _ _ => pts_nil) (fun _ _ _ _ _ => (pe_c cP hr (by rfl) (pa_cons (pv 3) pa_nil)))) pa_nil))))))))), ?_⟩
    refine ⟨v, rfl, v, d, "tuple", rfl, hd, .inl rfl, _, rfl, ?_⟩
    cases h1 : isD "tuple" d with
    | false =>
      refine iteT (iteT ?_)
      have q' := q H (Same.refl H)
      rw [row_no (fun t u => isTup_not h1 _)] at q'
      exact q'
    | true =>
      obtain ⟨ds, rfl⟩ := isTup_tup h1
      obtain ⟨a, xs, rfl, ha, hxs⟩ := dp_tup hd
      have hl := dps_len hxs
      refine iteF ⟨.ref a, rfl, a, xs, rfl, .inr ha, rfl, _, rfl, ?_⟩
      by_cases h2 : ds.length = 2
      · obtain ⟨d1, d2, rfl⟩ := two_of h2
        obtain ⟨x, y, rfl, dx, dy⟩ := dps_two hxs
        obtain ⟨T1, T2⟩ := th_two hT
        refine iteF ⟨.ref a, rfl, a, _, rfl, ha, rfl, x, [y], rfl, y, [], rfl, rfl, ?_⟩
        refine ⟨y, rfl, y, d2, rfl, dy, T2, fun H1 s1 => ⟨_, rfl, ?_⟩⟩
        cases n1 : isNumB d2 with
        | false =>
          refine iteT (iteT ?_)
          have q' := q H1 s1
          rw [row_no (fun t u e => isNum_not n1 u (by injection e with e; injection e with _ e; injection e))] at q'
          exact q'
        | true =>
          obtain ⟨i, rfl⟩ := isNum_int n1
          cases dy
          refine iteF ⟨.int i, rfl, WA, _, rfl, .inr (dW H1), rfl, rfl, _, rfl, ?_⟩
          show if (!inV (.int i) [.int 0, .int 1, .int (-1)]) = true then _ else _
          rw [in_walls]
          by_cases hi : -1 ≤ i ∧ i ≤ 1
          · rw [decide_eq_true hi]
            refine iteF ⟨x, rfl, x, d1, "tuple", rfl, dp_same s1 _ _ dx, .inl rfl, _, rfl, ?_⟩
            cases h3 : isD "tuple" d1 with
            | false =>
              have q' := q H1 s1
              rw [row_no (fun t u e => isTup_not h3 t (by injection e with e; injection e))] at q'
              exact iteF q'
            | true =>
              obtain ⟨ps, rfl⟩ := isTup_tup h3
              obtain ⟨b, ys, rfl, hb, hys⟩ := dp_tup (dp_same s1 _ _ dx)
              have T1' := T1.tup
              have lp : ys.length = ps.length := dps_len hys
              refine iteT ⟨.ref b, rfl, b, rfl, ⟨_, hb⟩, fun D nD => lc_it (walk_tup (xs := ys)) (fun i H2 => Same H1 H2 ∧ H2 D = some (.lst (allB isPaneB ps i))) ⟨same_upd nD, upd_same⟩ (fun i H2 _ p => Same.tup p.1 hb) ?_ ?_⟩
              · rintro j z H2 H2' hj ⟨s2, hD⟩ ⟨rfl, ez⟩
                obtain ⟨d, ed, dz⟩ := dps_get hys ez
                refine ⟨rfl, z, rfl, z, d, rfl, dp_same s2 _ _ dz, (T1'.mem (List.mem_of_getElem? ed)).le (by decide) (by decide), fun H3 s3 => ?_⟩
                refine ⟨_, s3 _ _ hD, allB_len (Th.len T1'), Same.new_upd (s2.trans s3) nD, ?_⟩
                rw [upd_same, allB_snoc ed]
              · rintro H2 ⟨s2, hD⟩
                rw [lp, allB_all] at hD
                refine ⟨D, ps.map isPaneB, rfl, SqL.of hD, ?_⟩
                have q' : Q (.bl (ps.all isPaneB && decide (-1 ≤ i ∧ i ≤ 1))) H2 := q H2 (s1.trans s2)
                rw [decide_eq_true hi, Bool.and_true] at q'
                rw [all_map]
                exact q'
          · rw [decide_eq_false hi]
            refine iteT ?_
            have e : isRowB (.tuple [d1, .int i]) = false := by
              unfold isRowB
              split
              · rename_i z
                injection z with z
                injection z with _ z
                injection z with z
                injection z with z
                subst z
                rw [decide_eq_false hi, Bool.and_false]
              · rfl
            have q' := q H1 s1
            rw [e] at q'
            exact q'
      · have e : ((xs.length : Nat) : Int) ≠ 2 := by omega
        rw [decide_eq_false (fun z => e (V.int.inj z))]
        refine iteT ?_
        have q' := q H (Same.refl H)
        rw [row_no (fun t u z => h2 (by injection z with z; rw [z]; rfl))] at q'
        exact q'
end
/-! ### by the law's own look -/
abbrev s__law_is_pane : Stmt := topS 18
theorem sc__law_is_pane : FnScope ["_law_matter", "_law_part"] ["_law_matter"] (defScope s__law_is_pane) := ⟨rfl, rfl, rfl, by decide +kernel, rfl, by decide +kernel, by decide +kernel⟩
abbrev s__law_is_row : Stmt := topS 19
theorem sc__law_is_row : FnScope ["_law_matter", "_law_pane_here"] ["_law_matter"] (defScope s__law_is_row) := ⟨rfl, rfl, rfl, by decide +kernel, rfl, by decide +kernel, by decide +kernel⟩
theorem eqv_frac {t u : Int} (hu : 0 < u) : PyData.eqv (frD (Rat.divInt t u)) (.tuple [.int t, .int u]) = decide (Int.gcd t u = 1) := by
  have e : PyData.eqv (frD (Rat.divInt t u)) (.tuple [.int t, .int u]) = (((Rat.divInt t u).num == t) && (((Rat.divInt t u).den : Int) == u && true)) := by
    unfold frD
    simp [PyData.eqv, PyData.eqvAll]
  rw [e, fr_num hu, fr_den hu, Bool.eq_iff_iff]
  simp only [Bool.and_true, Bool.and_eq_true, beq_iff_eq, decide_eq_true_eq]
  have hg : 0 < Int.gcd t u := gcd_pos hu
  constructor
  · rintro ⟨_, h2⟩
    have h3 : (Int.gcd t u : Int) ∣ u := Int.gcd_dvd_right ..
    have h4 := Int.ediv_mul_cancel h3
    rw [h2] at h4
    have h5 : u * ((Int.gcd t u : Int) - 1) = 0 := by rw [Int.mul_sub, h4]; omega
    rcases Int.mul_eq_zero.mp h5 with h6 | h6 <;> omega
  · intro h
    rw [h]
    simp
theorem sh_two (t u : Int) : SeqAt.shaped (.tuple [.int t, .int u]) = true := by
  unfold SeqAt.shaped
  simp [PyData.canLay0, PyData.canLayAll0, PyData.depth, PyData.depthAll]
theorem th_i {B N : Nat} {i : Int} (h : Th B N (.int i)) : i.natAbs ≤ B := by
  have := h.ok
  simpa [okI] using this
section
variable {P : Program} {w : World} {K : PySem.W.Frag} {mg : Str → Option Value} {base : Heap}
theorem ok_lispane {f fN fF : Addr} {fd fdN fdF : FuncData} {k : Nat} (F : Fun K "_law_is_pane" "_law_is_pane" s__law_is_pane f fd) (T : FreesA mg) (cN : Cal P w K mg base (k + 1) "_law_is_number" ["_law_matter"] (spData isNumB K) fN fdN)
    (cF : Cal P w K mg base (k + 1) "_law_frac" ["_law_top", "_law_under"] (spFrac K) fF fdF) : FnOk P w K mg base CX0 (k + 2) f fd ["_law_matter"] (spData isPaneB K) := by
  refine F.ok sc__law_is_pane (fun vs H Q E h => ?_) (fun cdv A outer s H vs Q E hr h => ?_)
  · obtain ⟨v, d, rfl, _⟩ := h
    rfl
  · obtain ⟨v, d, rfl, hd, hT, q⟩ := h
    refine ⟨_, (pss_cons (ps_if (PW.pt (pw_or (pt_not (pt_val (pe_callB call_isD (by rfl) T.misi PyProof.Rows.boot_isinstance (pa_cons (pv 0) (pa_cons (pe_bltn (v := .ty "tuple") (by rfl) T.mtuple PyProof.Rows.boot_tuple rfl) pa_nil))))) (pw_or (pt_cmpR op_ne (pe_callB call_len_seq (by rfl) T.mlen PySem.boot_len (pa_cons (pv 0) pa_nil)) pe_int (nomark _)) (pw_or1 (pt_not (pt_val (pe_callB (cr_all rfl) (by rfl) T.mall (by decide +kernel) (pa_cons (pe_lc (own := [("_law_part", 1)]) (g := (gName 1)) (tt := tYes) rfl sc__law_is_pane.nd (pi_tup (pv 0)) (blkOk_by (N := ["_law_matter", "_law_part"]) (sc := defScope s__law_is_pane) (by decide +kernel)) (fun _ _ _ _ _ => pg_name (i := 1) sc__law_is_pane.nd rfl (.inl rfl)) (fun _ _ _ _ _ => pts_nil) (fun _ _ _ _ _ => (pe_c cN hr (by rfl) (pa_cons (pv 1) pa_nil)))) pa_nil)))))))) (pss_one (ps_ret pe_bl)) pss_nil)
      (pss_one (ps_ret (pe_and (pe_cmpR op_gt (pe_ix ix_tup (pv 0) pe_int (fun _ _ => rfl)) pe_int (nomark _)) (pe_and (pe_cmpR (op_eqD hr.units) (pe_c cF hr (by rfl) (pa_cons (pe_ix ix_tup (pv 0) pe_int (fun _ _ => rfl)) (pa_cons (pe_ix ix_tup (pv 0) pe_int (fun _ _ => rfl)) pa_nil))) (pv 0) (nomark _)) (pe_one (pe_cmpR op_lt (pe_callB call_abs (by rfl) T.mabs (by decide +kernel) (pa_cons (pe_ix ix_tup (pv 0) pe_int (fun _ _ => rfl)) pa_nil)) (pe_ix ix_tup (pv 0) pe_int (fun _ _ => rfl)) (nomark _)))))))), ?_⟩
    refine ⟨v, rfl, v, d, "tuple", rfl, hd, .inl rfl, _, rfl, ?_⟩
    cases h1 : isD "tuple" d with
    | false =>
      refine iteT (iteT ?_)
      have q' := q H (Same.refl H)
      rw [pane_no (fun t u => isTup_not h1 _)] at q'
      exact q'
    | true =>
      obtain ⟨ds, rfl⟩ := isTup_tup h1
      obtain ⟨a, xs, rfl, ha, hxs⟩ := dp_tup hd
      have hl := dps_len hxs
      refine iteF ⟨.ref a, rfl, a, xs, rfl, .inr ha, rfl, _, rfl, ?_⟩
      by_cases h2 : ds.length = 2
      · obtain ⟨d1, d2, rfl⟩ := two_of h2
        obtain ⟨x, y, rfl, dx, dy⟩ := dps_two hxs
        obtain ⟨T1, T2⟩ := th_two hT
        have T0 := hT.tup
        refine iteF ⟨.ref a, rfl, a, rfl, ⟨_, ha⟩, fun D nD => lc_it (walk_tup (xs := [x, y])) (fun i H2 => Same H H2 ∧ H2 D = some (.lst (allB isNumB [d1, d2] i))) ⟨same_upd nD, upd_same⟩ (fun i H2 _ p => Same.tup p.1 ha) ?_ ?_⟩
        · rintro j z H2 H2' hj ⟨s2, hD⟩ ⟨rfl, ez⟩
          obtain ⟨d, ed, dz⟩ := dps_get hxs ez
          refine ⟨rfl, z, rfl, z, d, rfl, dp_same s2 _ _ dz, (T0.mem (List.mem_of_getElem? ed)).le (by decide) (by decide), fun H3 s3 => ?_⟩
          refine ⟨_, s3 _ _ hD, allB_len (Th.len T0), Same.new_upd (s2.trans s3) nD, ?_⟩
          rw [upd_same, allB_snoc ed]
        · rintro H2 ⟨s2, hD⟩
          have hD' : H2 D = some (.lst (([d1, d2].map isNumB).map V.bl)) := hD
          refine ⟨D, [d1, d2].map isNumB, rfl, SqL.of hD', _, rfl, ?_⟩
          rw [all_map]
          cases h3 : [d1, d2].all isNumB with
          | false =>
            refine iteT ?_
            have q' := q H2 s2
            have e : isPaneB (.tuple [d1, d2]) = false := pane_no (fun t u e => by
              injection e with e
              injection e with e1 e
              injection e with e2 e
              subst e1 e2
              exact absurd h3 (show ¬ ((isC "int" "int" && !isC "int" "bool") && ((isC "int" "int" && !isC "int" "bool") && true)) = false by decide))
            rw [e] at q'
            exact q'
          | true =>
            have h4 : isNumB d1 = true ∧ isNumB d2 = true := by simpa using h3
            obtain ⟨t, rfl⟩ := isNum_int h4.1
            obtain ⟨u, rfl⟩ := isNum_int h4.2
            cases dx
            cases dy
            have ha2 := Same.tup s2 ha
            have q' : ∀ H', Same H H' → Q (.bl ((decide (0 < u) && decide (Int.gcd t u = 1)) && decide (t.natAbs < u.natAbs))) H' := q
            refine iteF ⟨.ref a, rfl, a, _, 1, _, rfl, rfl, ha2, atI_nat (j := 1) rfl, _, _, rfl, rfl, _, rfl, ?_⟩
            by_cases hu : 0 < u
            · rw [decide_eq_true hu] at q' ⊢
              refine iteT ⟨.ref a, rfl, a, _, 0, _, rfl, rfl, ha2, atI_nat (j := 0) rfl, .ref a, rfl, a, _, 1, _, rfl, rfl, ha2, atI_nat (j := 1) rfl, t, u, 10, rfl, hu, Nat.lt_of_le_of_lt (th_i T1) (by decide), Nat.lt_of_le_of_lt (th_i T2) (by decide), by decide, by decide, fun v H3 s3 d3 => ?_⟩
              refine ⟨.ref a, rfl, _, _, d3, dp_same (s2.trans s3) _ _ hd, sh_fr _, sh_two t u, _, rfl, ?_⟩
              rw [eqv_frac hu]
              by_cases hg : Int.gcd t u = 1
              · rw [decide_eq_true hg] at q' ⊢
                have ha3 := Same.tup s3 ha2
                refine iteT ⟨.ref a, rfl, a, _, 0, _, rfl, rfl, ha3, atI_nat (j := 0) rfl, t, rfl, .ref a, rfl, a, _, 1, _, rfl, rfl, ha3, atI_nat (j := 1) rfl, _, _, rfl, rfl, ?_⟩
                have e : decide ((if t < 0 then -t else t) < u) = decide (t.natAbs < u.natAbs) := by
                  rw [decide_eq_decide]
                  split <;> omega
                show Q (.bl (decide ((if t < 0 then -t else t) < u))) H3
                rw [e]
                exact q' H3 (s2.trans s3)
              · rw [decide_eq_false hg] at q' ⊢
                exact iteF (q' H3 (s2.trans s3))
            · rw [decide_eq_false hu] at q' ⊢
              exact iteF (q' H2 s2)
      · have e : ((xs.length : Nat) : Int) ≠ 2 := by omega
        rw [decide_eq_false (fun z => e (V.int.inj z))]
        refine iteT (iteT ?_)
        have q' := q H (Same.refl H)
        rw [pane_no (fun t u z => h2 (by injection z with z; rw [z]; rfl))] at q'
        exact q'
theorem ok_lisrow {f fN fP : Addr} {fd fdN fdP : FuncData} {k : Nat} (F : Fun K "_law_is_row" "_law_is_row" s__law_is_row f fd) (T : FreesA mg) (cN : Cal P w K mg base (k + 1) "_law_is_number" ["_law_matter"] (spData isNumB K) fN fdN)
    (cP : Cal P w K mg base (k + 1) "_law_is_pane" ["_law_matter"] (spData isPaneB K) fP fdP) : FnOk P w K mg base CX0 (k + 2) f fd ["_law_matter"] (spData isRowB K) := by
  refine F.ok sc__law_is_row (fun vs H Q E h => ?_) (fun cdv A outer s H vs Q E hr h => ?_)
  · obtain ⟨v, d, rfl, _⟩ := h
    rfl
  · obtain ⟨v, d, rfl, hd, hT, q⟩ := h
    refine ⟨_, (pss_cons (ps_if (PW.pt (pw_or (pt_not (pt_val (pe_callB call_isD (by rfl) T.misi PyProof.Rows.boot_isinstance (pa_cons (pv 0) (pa_cons (pe_bltn (v := .ty "tuple") (by rfl) T.mtuple PyProof.Rows.boot_tuple rfl) pa_nil))))) (pw_or (pt_cmpR op_ne (pe_callB call_len_seq (by rfl) T.mlen PySem.boot_len (pa_cons (pv 0) pa_nil)) pe_int (nomark _)) (pw_or1 (pt_not (pt_val (pe_callB call_isD (by rfl) T.misi PyProof.Rows.boot_isinstance (pa_cons (pe_ix ix_tup (pv 0) pe_int (fun _ _ => rfl)) (pa_cons (pe_bltn (v := .ty "tuple") (by rfl) T.mtuple PyProof.Rows.boot_tuple rfl) pa_nil))))))))) (pss_one (ps_ret pe_bl)) pss_nil)
      (pss_cons (ps_if (pt_not (pt_val (pe_callB (cr_all rfl) (by rfl) T.mall (by decide +kernel) (pa_cons (pe_lc (own := [("_law_pane_here", 1)]) (g := (gName 1)) (tt := tYes) rfl sc__law_is_row.nd (pi_tup (pe_ix ix_tup (pv 0) pe_int (fun _ _ => rfl))) (blkOk_by (N := ["_law_matter", "_law_pane_here"]) (sc := defScope s__law_is_row) (by decide +kernel)) (fun _ _ _ _ _ => pg_name (i := 1) sc__law_is_row.nd rfl (.inl rfl)) (fun _ _ _ _ _ => pts_nil) (fun _ _ _ _ _ => (pe_c cP hr (by rfl) (pa_cons (pv 1) pa_nil)))) pa_nil)))) (pss_one (ps_ret pe_bl)) pss_nil)
      (pss_one (ps_ret (pe_and (pe_c cN hr (by rfl) (pa_cons (pe_ix ix_tup (pv 0) pe_int (fun _ _ => rfl)) pa_nil)) (pe_one (pe_chain op_le op_le (pe_un un_neg pe_int) (pe_ix ix_tup (pv 0) pe_int (fun _ _ => rfl)) pe_int))))))), ?_⟩
    refine ⟨v, rfl, v, d, "tuple", rfl, hd, .inl rfl, _, rfl, ?_⟩
    cases h1 : isD "tuple" d with
    | false =>
      refine iteT (iteT ?_)
      have q' := q H (Same.refl H)
      rw [row_no (fun t u => isTup_not h1 _)] at q'
      exact q'
    | true =>
      obtain ⟨ds, rfl⟩ := isTup_tup h1
      obtain ⟨a, xs, rfl, ha, hxs⟩ := dp_tup hd
      have hl := dps_len hxs
      refine iteF ⟨.ref a, rfl, a, xs, rfl, .inr ha, rfl, _, rfl, ?_⟩
      by_cases h2 : ds.length = 2
      · obtain ⟨d1, d2, rfl⟩ := two_of h2
        obtain ⟨x, y, rfl, dx, dy⟩ := dps_two hxs
        obtain ⟨T1, T2⟩ := th_two hT
        refine iteF ⟨.ref a, rfl, a, _, 0, _, rfl, rfl, ha, atI_nat (j := 0) rfl, x, d1, "tuple", rfl, dx, .inl rfl, _, rfl, ?_⟩
        cases h3 : isD "tuple" d1 with
        | false =>
          refine iteT ?_
          have q' := q H (Same.refl H)
          rw [row_no (fun t u e => isTup_not h3 t (by injection e with e; injection e))] at q'
          exact q'
        | true =>
          obtain ⟨ps, rfl⟩ := isTup_tup h3
          obtain ⟨b, ys, rfl, hb, hys⟩ := dp_tup dx
          have T1' := T1.tup
          have lp : ys.length = ps.length := dps_len hys
          refine iteF ⟨.ref a, rfl, a, _, 0, _, rfl, rfl, ha, atI_nat (j := 0) rfl, b, rfl, ⟨_, hb⟩, fun D nD => lc_it (walk_tup (xs := ys)) (fun i H2 => Same H H2 ∧ H2 D = some (.lst (allB isPaneB ps i))) ⟨same_upd nD, upd_same⟩ (fun i H2 _ p => Same.tup p.1 hb) ?_ ?_⟩
          · rintro j z H2 H2' hj ⟨s2, hD⟩ ⟨rfl, ez⟩
            obtain ⟨d, ed, dz⟩ := dps_get hys ez
            refine ⟨rfl, z, rfl, z, d, rfl, dp_same s2 _ _ dz, (T1'.mem (List.mem_of_getElem? ed)).le (by decide) (by decide), fun H3 s3 => ?_⟩
            refine ⟨_, s3 _ _ hD, allB_len (Th.len T1'), Same.new_upd (s2.trans s3) nD, ?_⟩
            rw [upd_same, allB_snoc ed]
          · rintro H2 ⟨s2, hD⟩
            rw [lp, allB_all] at hD
            refine ⟨D, ps.map isPaneB, rfl, SqL.of hD, _, rfl, ?_⟩
            rw [all_map]
            cases h4 : ps.all isPaneB with
            | false =>
              refine iteT ?_
              have e : isRowB (.tuple [.tuple ps, d2]) = false := by
                unfold isRowB
                split
                · rename_i z
                  injection z with z
                  injection z with z _
                  injection z with z
                  subst z
                  rw [h4, Bool.false_and]
                · rfl
              have q' := q H2 s2
              rw [e] at q'
              exact q'
            | true =>
              have ha2 := Same.tup s2 ha
              refine iteF ⟨.ref a, rfl, a, _, 1, _, rfl, rfl, ha2, atI_nat (j := 1) rfl, y, d2, rfl, dp_same s2 _ _ dy, T2, fun H3 s3 => ⟨_, rfl, ?_⟩⟩
              cases h5 : isNumB d2 with
              | false =>
                have q' := q H3 (s2.trans s3)
                rw [row_no (fun t u e => isNum_not h5 u (by injection e with e; injection e with _ e; injection e))] at q'
                exact iteF q'
              | true =>
                obtain ⟨i, rfl⟩ := isNum_int h5
                cases dy
                have q' : Q (.bl (ps.all isPaneB && decide (-1 ≤ i ∧ i ≤ 1))) H3 := q H3 (s2.trans s3)
                rw [h4, Bool.true_and] at q'
                have ha3 := Same.tup s3 ha2
                refine iteT ⟨1, rfl, .ref a, rfl, a, _, 1, _, rfl, rfl, ha3, atI_nat (j := 1) rfl, _, _, rfl, rfl, _, rfl, ?_⟩
                by_cases hi : -1 ≤ i
                · refine ite2 (fun _ => ?_) (fun z => absurd (decide_eq_true hi) z)
                  refine ⟨_, _, rfl, rfl, ?_⟩
                  have e : decide (i ≤ 1) = decide (-1 ≤ i ∧ i ≤ 1) := by
                    rw [decide_eq_decide]
                    exact ⟨fun z => ⟨hi, z⟩, fun z => z.2⟩
                  show Q (.bl (decide (i ≤ 1))) H3
                  rw [e]
                  exact q'
                · refine ite2 (fun z => absurd (of_decide_eq_true z) hi) (fun _ => ?_)
                  rw [decide_eq_false (fun z => hi z.1)] at q'
                  exact q'
      · have e : ((xs.length : Nat) : Int) ≠ 2 := by omega
        rw [decide_eq_false (fun z => e (V.int.inj z))]
        refine iteT (iteT ?_)
        have q' := q H (Same.refl H)
        rw [row_no (fun t u z => h2 (by injection z with z; rw [z]; rfl))] at q'
        exact q'
end
/-! ### a pane otherwise -/
abbrev s__law_pane_bent : Stmt := topS 20
theorem sc__law_pane_bent : FnScope ["_law_box_here", "_law_pane_here", "_law_odd", "_law_top", "_law_under", "_law_near", "_law_part"] ["_law_box_here", "_law_pane_here"] (defScope s__law_pane_bent) := ⟨rfl, rfl, rfl, by decide +kernel, rfl, by decide +kernel, by decide +kernel⟩
/-- what stands where S says are lists -/
def Lv (S : Addr → Prop) (H : Hp) : Prop := ∀ b, S b → ∃ l, H b = some (.lst l)
theorem Lv.any {S : Addr → Prop} {H : Hp} (h : Lv S H) : ∀ b, S b → ∃ o, H b = some o := fun b z => by
  obtain ⟨l, e⟩ := h b z
  exact ⟨_, e⟩
theorem Lv.same {S : Addr → Prop} {H H' : Hp} (h : Lv S H) (e : Same H H') : Lv S H' := fun b z => by
  obtain ⟨l, g⟩ := h b z
  exact ⟨l, e _ _ g⟩
def thB (B N : Nat) (d : PyData) : Bool := okI B d && decide (sz d ≤ N)
theorem th_all {B N : Nat} {ds : List PyData} (h : ds.all (thB B N) = true) {d : PyData} (m : d ∈ ds) : Th B N d := by
  have z := List.all_eq_true.mp h d m
  unfold thB at z
  rw [Bool.and_eq_true] at z
  exact ⟨z.1, of_decide_eq_true z.2⟩
def spPB (K : PySem.W.Frag) : Sp := fun vs H Q _ => ∃ (p : Addr) (S : Addr → Prop) (v : V) (d : PyData) (n B N : Nat), vs = [.ref p, v] ∧ Bx H p n ∧ n < 900000 ∧ S p ∧ Lv S H ∧ Dx K H S v d ∧ Th B N d ∧ B ≤ 200 ∧ N ≤ 500 ∧
  ∀ (v' : V) (d' : PyData) (H' : Hp), Chg p H H' → Bx H' p (n + 1) → Dx K H' S v' d' → Th (2 * B + 8) (N + 20) d' → Q v' H'
section
variable {P : Program} {w : World} {K : PySem.W.Frag} {mg : Str → Option Value} {base : Heap}
theorem ok_pbent {f fN fO : Addr} {fd fdN fdO : FuncData} {k : Nat} (F : Fun K "_law_pane_bent" "_law_pane_bent" s__law_pane_bent f fd) (T : FreesA mg) (cN : Cal P w K mg base (k + 1) "_law_is_number" ["_law_matter"] (spData isNumB K) fN fdN)
    (cO : Cal P w K mg base (k + 1) "_law_of" ["_law_box_here", "_law_some"] (spOf K) fO fdO) : FnOk P w K mg base CX0 (k + 2) f fd ["_law_box_here", "_law_pane_here"] (spPB K) := by
  refine F.ok sc__law_pane_bent (fun vs H Q E h => ?_) (fun cdv A outer s H vs Q E hr h => ?_)
  · obtain ⟨p, S, v, d, n, B, N, rfl, _⟩ := h
    rfl
  · obtain ⟨p, S, v, d, n, B, N, rfl, hb, hn, sp, lv, hd, hT, hB, hN, q⟩ := h
    refine ⟨_, (pss_cons (ps_set (i := 2) sc__law_pane_bent.nd rfl (.inl rfl) (lit_lst (lits_cons (lit_tup (lits_cons lit_int (lits_cons lit_int lits_nil))) (lits_cons (lit_tup (lits_cons lit_neg (lits_cons lit_int lits_nil))) (lits_cons (lit_tup (lits_cons lit_int (lits_cons lit_int lits_nil))) (lits_cons (lit_tup (lits_cons lit_int (lits_cons lit_int lits_nil))) (lits_cons (lit_tup (lits_cons lit_int (lits_cons lit_int lits_nil))) (lits_cons (lit_tup (lits_cons lit_int (lits_cons lit_int lits_nil))) (lits_cons (lit_tup (lits_cons lit_int (lits_cons lit_neg lits_nil))) (lits_cons (lit_tup (lits_cons lit_bl (lits_cons lit_int lits_nil))) (lits_cons (lit_tup (lits_cons lit_int (lits_cons lit_bl lits_nil))) (lits_cons (lit_tup (lits_cons lit_non (lits_cons lit_int lits_nil))) (lits_cons (lit_tup (lits_cons lit_str (lits_cons lit_int lits_nil))) lits_nil)))))))))))))
      (pss_cons (ps_set (i := 2) sc__law_pane_bent.nd rfl (.inl rfl) (pe_op op_cat (pv 2) (lit_lst (lits_cons (lit_tup (lits_cons lit_int (lits_cons lit_int (lits_cons lit_int lits_nil)))) (lits_cons (lit_tup (lits_cons lit_int lits_nil)) (lits_cons (lit_tup lits_nil) (lits_cons lit_int (lits_cons lit_non (lits_cons lit_str (lits_cons (lit_lst (lits_cons lit_int (lits_cons lit_int lits_nil))) (lits_cons (lit_tup (lits_cons lit_int (lits_cons lit_int lits_nil))) (lits_cons (lit_tup (lits_cons lit_int (lits_cons lit_int lits_nil))) (lits_cons (lit_tup (lits_cons lit_neg (lits_cons lit_int lits_nil))) lits_nil)))))))))))))
      (pss_cons (ps_if (PW.pt (pw_or (pt_not (pt_val (pe_callB call_isD (by rfl) T.misi PyProof.Rows.boot_isinstance (pa_cons (pv 1) (pa_cons (pe_bltn (v := .ty "tuple") (by rfl) T.mtuple PyProof.Rows.boot_tuple rfl) pa_nil))))) (pw_or (pt_cmpR op_ne (pe_callB call_len_seq (by rfl) T.mlen PySem.boot_len (pa_cons (pv 1) pa_nil)) pe_int (nomark _)) (pw_or1 (pt_not (pt_val (pe_callB (cr_all rfl) (by rfl) T.mall (by decide +kernel) (pa_cons (pe_lc (own := [("_law_part", 6)]) (g := (gName 6)) (tt := tYes) rfl sc__law_pane_bent.nd (pi_tup (pv 1)) (blkOk_by (N := ["_law_box_here", "_law_pane_here", "_law_odd", "_law_top", "_law_under", "_law_near", "_law_part"]) (sc := defScope s__law_pane_bent) (by decide +kernel)) (fun _ _ _ _ _ => pg_name (i := 6) sc__law_pane_bent.nd rfl (.inl rfl)) (fun _ _ _ _ _ => pts_nil) (fun _ _ _ _ _ => (pe_c cN hr (by rfl) (pa_cons (pv 6) pa_nil)))) pa_nil)))))))) (pss_one (ps_ret (pe_c cO hr (by rfl) (pa_cons (pv 0) (pa_cons (pv 2) pa_nil))))) pss_nil)
      (pss_cons (ps_asg (pv 1) (pg_tup rfl (pgs_cons (pg_name (i := 3) sc__law_pane_bent.nd rfl (.inl rfl)) (pgs_cons (pg_name (i := 4) sc__law_pane_bent.nd rfl (.inl rfl)) pgs_nil))))
      (pss_cons (ps_set (i := 5) sc__law_pane_bent.nd rfl (.inl rfl) (pe_lst (pa_cons (pe_tup (pa_cons (pe_op op_add (pv 3) pe_int) (pa_cons (pv 4) pa_nil))) (pa_cons (pe_tup (pa_cons (pv 3) (pa_cons (pe_op op_add (pv 4) pe_int) pa_nil))) (pa_cons (pe_tup (pa_cons (pe_un un_neg (pv 3)) (pa_cons (pv 4) pa_nil))) (pa_cons (pe_tup (pa_cons (pe_op op_mul pe_int (pv 3)) (pa_cons (pe_op op_mul pe_int (pv 4)) pa_nil))) (pa_cons (pe_callTy call_list_of (by rfl) T.mlist PyProof.Rows.boot_list (pa_cons (pv 1) pa_nil)) (pa_cons (pe_tup (pa_cons (pv 1) (pa_cons pe_int pa_nil))) pa_nil))))))))
      (pss_one (ps_ret (pe_c cO hr (by rfl) (pa_cons (pv 0) (pa_cons (pe_op op_cat (pv 2) (pv 5)) pa_nil)))))))))), ?_⟩
    intro v1 H1 s1 D1
    obtain ⟨l1, x1, rfl, nS1, e1, X1⟩ := dx_lst (D1 S lv.any)
    have lv1 := lv.same s1
    refine ⟨.ref l1, rfl, fun v2 H2 s2 D2 => ?_⟩
    obtain ⟨l2, x2, rfl, nS2, e2, X2⟩ := dx_lst (D2 S lv1.any)
    have lv2 := lv1.same s2
    refine ⟨l1, l2, x1, x2, rfl, rfl, s2 _ _ e1, e2, ?_, fun l3 nl3 => ?_⟩
    · rw [dxs_len X1, dxs_len X2]
      decide
    have X3 := dxs_app (dxs_same s2 X1) X2
    have s3 := same_upd (o := .lst (x1 ++ x2)) nl3
    have X3' := dxs_same s3 X3
    have nS3 : ¬ S l3 := fun z => by
      obtain ⟨l, e⟩ := lv2 l3 z
      rw [nl3] at e
      cases e
    have S3 : Same H (upd H2 l3 (.lst (x1 ++ x2))) := s1.trans (s2.trans s3)
    generalize hH3 : upd H2 l3 (.lst (x1 ++ x2)) = H3 at *
    have e3 : H3 l3 = some (.lst (x1 ++ x2)) := by rw [← hH3]; exact upd_same
    have hd3 := dx_same S3 hd
    have b3 := hb.same S3
    have lv3 := lv.same S3
    have nlp : l3 ≠ p := fun z => nS3 (z ▸ sp)
    have hlen : (x1 ++ x2).length = 21 := by
      rw [List.length_append, dxs_len X1, dxs_len X2]
      rfl
    have hne : x1 ++ x2 ≠ [] := fun z => by
      rw [z] at hlen
      cases hlen
    obtain ⟨lp, hp⟩ := b3.at
    have fin : ∀ Hx : Hp, Same H3 Hx → ∀ (v' : V) (H5 : Hp), v' ∈ x1 ++ x2 → Chg p Hx H5 → Bx H5 p (n + 1) → Q v' H5 := fun Hx sx v' H5 hm c5 b5 => by
      obtain ⟨d', md, dx'⟩ := dxs_mem X3' hm
      refine q v' d' H5 ((Chg.of_same (S3.trans sx)).trans c5) b5 (dx_chg c5 (sx _ _ hp) sp (dx_same sx dx')) ((th_all (B := 7) (N := 4) (by decide +kernel) md).le (by omega) (by omega))
    show tSeq _ _ _ [some (.ref p), some v, some (.ref l3), none, none, none, none] _
    have hdp := dx_dp _ _ hd3
    refine ⟨v, rfl, v, d, "tuple", rfl, hdp, .inl rfl, _, rfl, ?_⟩
    cases h1 : isD "tuple" d with
    | false => exact iteT (iteT ⟨.ref p, rfl, .ref l3, rfl, p, l3, _, n, rfl, b3, by omega, e3, nlp, hne, by omega, fin H3 (Same.refl H3)⟩)
    | true =>
      obtain ⟨ds, rfl⟩ := isTup_tup h1
      obtain ⟨a, xs, rfl, ha, hxs⟩ := dx_tup hd3
      have hl := dxs_len hxs
      refine iteF ⟨.ref a, rfl, a, xs, rfl, .inr ha, rfl, _, rfl, ?_⟩
      by_cases h2 : ds.length = 2
      · obtain ⟨d1, d2, rfl⟩ := two_of h2
        have hxp := dxs_dp _ _ hxs
        obtain ⟨x, y, rfl, dx, dy⟩ := dps_two hxp
        have T0 := hT.tup
        obtain ⟨T1, T2⟩ := th_two hT
        refine iteF ⟨.ref a, rfl, a, rfl, ⟨_, ha⟩, fun D nD => lc_it (walk_tup (xs := [x, y])) (fun i H2 => Same H3 H2 ∧ H2 D = some (.lst (allB isNumB [d1, d2] i))) ⟨same_upd nD, upd_same⟩ (fun i H2 _ p => Same.tup p.1 ha) ?_ ?_⟩
        · rintro j z H4 H4' hj ⟨s4, hD⟩ ⟨rfl, ez⟩
          obtain ⟨d, ed, dz⟩ := dps_get hxp ez
          refine ⟨rfl, z, rfl, z, d, rfl, dp_same s4 _ _ dz, (T0.mem (List.mem_of_getElem? ed)).le (by omega) (by omega), fun H5 s5 => ?_⟩
          refine ⟨_, s5 _ _ hD, allB_len (n := 2) (Nat.le_refl _), Same.new_upd (s4.trans s5) nD, ?_⟩
          rw [upd_same, allB_snoc ed]
        · rintro H4 ⟨s4, hD⟩
          have hD' : H4 D = some (.lst (([d1, d2].map isNumB).map V.bl)) := hD
          refine ⟨D, [d1, d2].map isNumB, rfl, SqL.of hD', _, rfl, ?_⟩
          rw [all_map]
          cases h3 : [d1, d2].all isNumB with
          | false => exact iteT ⟨.ref p, rfl, .ref l3, rfl, p, l3, _, n, rfl, b3.same s4, by omega, s4 _ _ e3, nlp, hne, by omega, fin H4 s4⟩
          | true =>
            have h4 : isNumB d1 = true ∧ isNumB d2 = true := by simpa using h3
            obtain ⟨t, rfl⟩ := isNum_int h4.1
            obtain ⟨u, rfl⟩ := isNum_int h4.2
            cases dx
            cases dy
            have ha4 := Same.tup s4 ha
            have t1 := th_i T1
            have t2 := th_i T2
            refine iteF ⟨.ref a, rfl, a, _, rfl, ha4, rfl, .int t, [.int u], rfl, .int u, [], rfl, rfl, ?_⟩
            show tSeq _ _ _ [some (.ref p), some (.ref a), some (.ref l3), some (.int t), some (.int u), none, none] _
            refine ⟨.int t, rfl, _, _, rfl, rfl, .int u, rfl, (by decide : 2 ≤ sizeLine), fun a1 n1 => ?_⟩
            refine ⟨.int t, rfl, .int u, rfl, _, _, rfl, rfl, (by decide : 2 ≤ sizeLine), fun a2 n2 => ?_⟩
            refine ⟨.int t, rfl, t, rfl, .int u, rfl, (by decide : 2 ≤ sizeLine), fun a3 n3 => ?_⟩
            refine ⟨.int t, rfl, _, _, rfl, rfl, .inl ⟨by decide, by decide⟩, .int u, rfl, _, _, rfl, rfl, .inl ⟨by decide, by decide⟩, (by decide : 2 ≤ sizeLine), fun a4 n4 => ?_⟩
            have u1 := same_upd (o := .tup [.int (t + 1), .int u]) n1
            have u2 := same_upd (o := .tup [.int t, .int (u + 1)]) n2
            have u3 := same_upd (o := .tup [.int (-t), .int u]) n3
            have u4 := same_upd (o := .tup [.int (2 * t), .int (2 * u)]) n4
            have U4 := u1.trans (u2.trans (u3.trans u4))
            refine ⟨.ref a, rfl, a, _, rfl, .inr (Same.tup U4 ha4), fun a5 n5 => ?_⟩
            have u5 := same_upd (o := .lst [.int t, .int u]) n5
            refine ⟨.ref a, rfl, (by decide : 2 ≤ sizeLine), fun a6 n6 => ⟨(by decide : 6 ≤ sizeLine), fun l4 nl4 => ?_⟩⟩
            have u6 := same_upd (o := .tup [.ref a, .int 0]) n6
            have u7 := same_upd (o := .lst [.ref a1, .ref a2, .ref a3, .ref a4, .ref a5, .ref a6]) nl4
            have lv4 := lv3.same s4
            have i2 : ∀ (H : Hp) (x y : Int), DxAll K H S [.int x, .int y] [.int x, .int y] := fun H x y => .cons (.int x) (.cons (.int y) .nil)
            have w1 := newx_tup (K := K) (S := S) n1 (i2 _ (t + 1) u)
            have w2 := newx_tup (K := K) (S := S) n2 (i2 _ t (u + 1))
            have w3 := newx_tup (K := K) (S := S) n3 (i2 _ (-t) u)
            have w4 := newx_tup (K := K) (S := S) n4 (i2 _ (2 * t) (2 * u))
            have w5 := newx_lst (K := K) (S := S) n5 (lv4.same U4).any (i2 _ t u)
            have hda : Dx K H4 S (.ref a) (.tuple [.int t, .int u]) := dx_same s4 hd3
            have w6 := newx_tup (K := K) (S := S) (xs := [.ref a, .int 0]) (ds := [.tuple [.int t, .int u], .int 0]) n6 (.cons (dx_same (U4.trans u5) hda) (.cons (.int 0) .nil))
            have W1 := dx_same (u2.trans (u3.trans (u4.trans (u5.trans (u6.trans u7))))) w1
            have W2 := dx_same (u3.trans (u4.trans (u5.trans (u6.trans u7)))) w2
            have W3 := dx_same (u4.trans (u5.trans (u6.trans u7))) w3
            have W4 := dx_same (u5.trans (u6.trans u7)) w4
            have W5 := dx_same (u6.trans u7) w5
            have W6 := dx_same u7 w6
            have S4 := s4.trans (U4.trans (u5.trans (u6.trans u7)))
            refine ⟨.ref p, rfl, .ref l3, rfl, .ref l4, rfl, l3, l4, _, _, rfl, rfl, S4 _ _ e3, upd_same, ?_, fun l5 nl5 => ?_⟩
            · rw [hlen]
              exact (by decide : 21 + 6 ≤ sizeLine)
            have XX := dxs_app (dxs_same S4 X3') (.cons W1 (.cons W2 (.cons W3 (.cons W4 (.cons W5 (.cons W6 .nil))))))
            have u8 := same_upd (o := .lst (x1 ++ x2 ++ [.ref a1, .ref a2, .ref a3, .ref a4, .ref a5, .ref a6])) nl5
            have S5 := S4.trans u8
            have hl5 : l5 ≠ p := fun z => by
              obtain ⟨l, e⟩ := (lv3.same S4) l5 (z ▸ sp)
              rw [nl5] at e
              cases e
            refine ⟨p, l5, _, n, rfl, b3.same S5, by omega, upd_same, hl5, by simp, by rw [List.length_append, hlen]; exact (by decide : 21 + 6 < 1000), fun v' H6 hm c6 b6 => ?_⟩
            obtain ⟨d', md, dx'⟩ := dxs_mem (dxs_same u8 XX) hm
            refine q v' d' H6 ((Chg.of_same (S3.trans S5)).trans c6) b6 (dx_chg c6 (S5 _ _ hp) sp dx') ?_
            rcases List.mem_append.mp md with md | md
            · exact (th_all (B := 7) (N := 4) (by decide +kernel) md).le (by omega) (by omega)
            · have i3 : ∀ x y : Int, x.natAbs ≤ 2 * B + 8 → y.natAbs ≤ 2 * B + 8 → Ths (2 * B + 8) 2 [.int x, .int y] := fun x y h1 h2 => (Ths.cons (th_int h1) (Ths.cons (th_int h2) Ths.nil)).le (Nat.le_refl _) (by omega)
              simp only [List.mem_cons, List.not_mem_nil, or_false] at md
              rcases md with rfl | rfl | rfl | rfl | rfl | rfl
              · exact (i3 _ _ (by omega) (by omega)).tup.le (Nat.le_refl _) (by omega)
              · exact (i3 _ _ (by omega) (by omega)).tup.le (Nat.le_refl _) (by omega)
              · exact (i3 _ _ (by omega) (by omega)).tup.le (Nat.le_refl _) (by omega)
              · exact (i3 _ _ (by omega) (by omega)).tup.le (Nat.le_refl _) (by omega)
              · exact (i3 _ _ (by omega) (by omega)).lst.le (Nat.le_refl _) (by omega)
              · exact (Ths.cons (i3 t u (by omega) (by omega)).tup (Ths.cons (th_int (i := 0) (by omega)) Ths.nil)).tup.le (Nat.le_refl _) (by omega)
      · have e : ((xs.length : Nat) : Int) ≠ 2 := by omega
        rw [decide_eq_false (fun z => e (V.int.inj z))]
        exact iteT (iteT ⟨.ref p, rfl, .ref l3, rfl, p, l3, _, n, rfl, b3, by omega, e3, nlp, hne, by omega, fin H3 (Same.refl H3)⟩)
end
/-! ### a thing otherwise -/
abbrev s__law_bent : Stmt := topS 21
theorem sc__law_bent : FnScope ["_law_box_here", "_law_matter", "_law_way", "_law_panes", "_law_last", "_law_at", "_law_some"] ["_law_box_here", "_law_matter"] (defScope s__law_bent) := ⟨rfl, rfl, rfl, by decide +kernel, rfl, by decide +kernel, by decide +kernel⟩
theorem Lv.chg {S : Addr → Prop} {H H' : Hp} {p : Addr} {n : Nat} (h : Lv S H) (c : Chg p H H') (b : Bx H' p n) : Lv S H' := fun x z => by
  by_cases e : x = p
  · subst e
    exact b.at
  · obtain ⟨l, g⟩ := h x z
    exact ⟨l, c _ _ e g⟩
theorem cut_sub {α : Type} (xs : List α) (lo hi : Option Int) : (cutG xs lo hi).Sublist xs := (List.take_sublist _ _).trans (List.drop_sublist _ _)
theorem Ths.rep {B N : Nat} {ds : List PyData} (h : Ths B N ds) {k : Nat} (hk : k ≤ 2) : Ths B (2 * N) (List.replicate k ds).flatten := by
  refine ⟨(okIs_mem _).mpr fun d m => ?_, ?_⟩
  · obtain ⟨l, hl, hd⟩ := List.mem_flatten.mp m
    rw [List.eq_of_mem_replicate hl] at hd
    exact (okIs_mem _).mp h.ok d hd
  · rw [szs_rep]
    exact Nat.mul_le_mul hk h.sz
def spBent (K : PySem.W.Frag) : Sp := fun vs H Q _ => ∃ (p : Addr) (S : Addr → Prop) (v : V) (d : PyData) (n B N : Nat), vs = [.ref p, v] ∧ Bx H p n ∧ n < 800000 ∧ S p ∧ Lv S H ∧ Dx K H S v d ∧ Th B N d ∧ 7 ≤ B ∧ B ≤ 200 ∧ 10 ≤ N ∧ N ≤ 230 ∧
  ∀ (v' : V) (d' : PyData) (H' : Hp), Chg p H H' → Bx H' p (n + 4) → Dx K H' S v' d' → Th (2 * B + 8) (4 * N + 60) d' → Q v' H'
section
variable {P : Program} {w : World} {K : PySem.W.Frag} {mg : Str → Option Value} {base : Heap}
theorem ok_bent {f fT fO fB : Addr} {fd fdT fdO fdB : FuncData} {k : Nat} (F : Fun K "_law_bent" "_law_bent" s__law_bent f fd) (T : FreesA mg) (cT : Cal P w K mg base (k + 2) "_law_take" ["_law_box_here", "_law_size"] spTake fT fdT)
    (cO : Cal P w K mg base (k + 2) "_law_of" ["_law_box_here", "_law_some"] (spOf K) fO fdO) (cB : Cal P w K mg base (k + 2) "_law_pane_bent" ["_law_box_here", "_law_pane_here"] (spPB K) fB fdB) :
    FnOk P w K mg base CX0 (k + 3) f fd ["_law_box_here", "_law_matter"] (spBent K) := by
  refine F.ok sc__law_bent (fun vs H Q E h => ?_) (fun cdv A outer s H vs Q E hr h => ?_)
  · obtain ⟨p, S, v, d, n, B, N, rfl, _⟩ := h
    rfl
  · obtain ⟨p, S, v, d, n, B, N, rfl, hb, hn, sp, lv, hd, hT, hB0, hB, hN0, hN, q⟩ := h
    refine ⟨_, (pss_cons (ps_set (i := 2) sc__law_bent.nd rfl (.inl rfl) (pe_c cT hr (by rfl) (pa_cons (pv 0) (pa_cons pe_int pa_nil))))
      (pss_cons (ps_if (PW.pt (pw_or (pt_not (pt_val (pe_callB call_isD (by rfl) T.misi PyProof.Rows.boot_isinstance (pa_cons (pv 1) (pa_cons (pe_bltn (v := .ty "tuple") (by rfl) T.mtuple PyProof.Rows.boot_tuple rfl) pa_nil))))) (pw_or (pt_cmpR op_ne (pe_callB call_len_seq (by rfl) T.mlen PySem.boot_len (pa_cons (pv 1) pa_nil)) pe_int (nomark _)) (pw_or1 (pt_not (pt_val (pe_callB call_isD (by rfl) T.misi PyProof.Rows.boot_isinstance (pa_cons (pe_ix ix_tup (pv 1) pe_int (fun _ _ => rfl)) (pa_cons (pe_bltn (v := .ty "tuple") (by rfl) T.mtuple PyProof.Rows.boot_tuple rfl) pa_nil))))))))) (pss_one (ps_ret (pe_c cO hr (by rfl) (pa_cons (pv 0) (pa_cons (pe_lst (pa_cons (pv 1) (pa_cons (pe_lst (pa_cons (pv 1) pa_nil)) (pa_cons (pe_tup (pa_cons (pv 1) (pa_cons pe_int pa_nil))) pa_nil)))) pa_nil))))) pss_nil)
      (pss_cons (ps_asg (pv 1) (pg_tup rfl (pgs_cons (pg_name (i := 3) sc__law_bent.nd rfl (.inl rfl)) (pgs_cons (pg_name (i := 4) sc__law_bent.nd rfl (.inl rfl)) pgs_nil))))
      (pss_cons (ps_set (i := 5) sc__law_bent.nd rfl (.inl rfl) (pe_c cT hr (by rfl) (pa_cons (pv 0) (pa_cons (pe_op op_add (pe_callB call_len_seq (by rfl) T.mlen PySem.boot_len (pa_cons (pv 3) pa_nil)) pe_int) pa_nil))))
      (pss_cons (ps_if (pt_cmpR op_lt (pv 2) pe_int (nomark _)) (pss_cons (ps_set (i := 6) sc__law_bent.nd rfl (.inl rfl) (pe_ifExp (pt_cmpR op_lt (pv 5) (pe_callB call_len_seq (by rfl) T.mlen PySem.boot_len (pa_cons (pv 3) pa_nil)) (nomark _)) (pe_lst (pa_cons (pe_c cB hr (by rfl) (pa_cons (pv 0) (pa_cons (pe_ix ix_tup (pv 3) (pv 5) (fun _ _ => rfl)) pa_nil))) pa_nil)) (pe_lst (pa_cons (pe_c cB hr (by rfl) (pa_cons (pv 0) (pa_cons (lit_tup (lits_cons lit_int (lits_cons lit_int lits_nil))) pa_nil))) pa_nil))))
      (pss_one (ps_ret (pe_tup (pa_cons (pe_op (op_catX (S := S)) (pe_op (op_catX (S := S)) (pe_slice (sl_tupX (S := S)) (pv 3) po_none (po_some (pv 5))) (pe_callTy call_tuple_of (by rfl) T.mtuple PyProof.Rows.boot_tuple (pa_cons (pv 6) pa_nil))) (pe_slice (sl_tupX (S := S)) (pv 3) (po_some (pe_op op_add (pv 5) pe_int)) po_none)) (pa_cons (pv 4) pa_nil)))))) pss_nil)
      (pss_cons (ps_if (pt_cmpR op_eq (pv 2) pe_int (nomark _)) (pss_one (ps_ret (pe_tup (pa_cons (pe_op (op_catX (S := S)) (pe_op (op_catX (S := S)) (pe_slice (sl_tupX (S := S)) (pv 3) po_none (po_some (pv 5))) (pe_op (op_repX (S := S)) (pe_slice (sl_tupX (S := S)) (pv 3) (po_some (pv 5)) (po_some (pe_op op_add (pv 5) pe_int))) (pe_c cT hr (by rfl) (pa_cons (pv 0) (pa_cons pe_int pa_nil))))) (pe_slice (sl_tupX (S := S)) (pv 3) (po_some (pe_op op_add (pv 5) pe_int)) po_none)) (pa_cons (pv 4) pa_nil))))) pss_nil)
      (pss_cons (ps_if (pt_cmpR op_eq (pv 2) pe_int (nomark _)) (pss_one (ps_ret (pe_tup (pa_cons (pv 3) (pa_cons (pe_c cO hr (by rfl) (pa_cons (pv 0) (pa_cons (lit_lst (lits_cons lit_int (lits_cons lit_int (lits_cons lit_neg (lits_cons lit_int (lits_cons lit_neg (lits_cons lit_bl (lits_cons lit_bl (lits_cons lit_non (lits_cons lit_str (lits_cons (lit_tup (lits_cons lit_int (lits_cons lit_int lits_nil))) (lits_cons (lit_tup lits_nil) lits_nil)))))))))))) pa_nil))) pa_nil))))) pss_nil)
      (pss_one (ps_ret (pe_ix ix_list (pe_lst (pa_cons (pe_tup (pa_cons (pe_callTy call_list_of (by rfl) T.mlist PyProof.Rows.boot_list (pa_cons (pv 3) pa_nil)) (pa_cons (pv 4) pa_nil))) (pa_cons (pe_lst (pa_cons (pv 3) (pa_cons (pv 4) pa_nil))) (pa_cons (pe_tup (pa_cons (pv 3) (pa_cons (pv 4) (pa_cons pe_int pa_nil)))) pa_nil)))) (pe_op op_sub (pv 2) pe_int) (fun _ _ => rfl))))))))))), ?_⟩
    refine ⟨.ref p, rfl, p, 9, n, rfl, hb, by omega, by decide, by decide, fun r H1 h0 h9 c1 b1 => ?_⟩
    obtain ⟨l0, hp0⟩ := hb.at
    have hd1 := dx_chg c1 hp0 sp hd
    have lv1 := lv.chg c1 b1
    obtain ⟨l1, hp1⟩ := b1.at
    show tSeq _ _ _ [some (.ref p), some v, some (.int r), none, none, none, none] _
    -- a thing that is none of that form
    have wrap : ∀ (a1 l2 : Addr) (a2 : Addr) (n1 : H1 a1 = none) (n2 : (upd H1 a1 (.lst [v])) a2 = none) (n3 : (upd (upd H1 a1 (.lst [v])) a2 (.tup [v, .int 0])) l2 = none),
        spOf K [.ref p, .ref l2] (upd (upd (upd H1 a1 (.lst [v])) a2 (.tup [v, .int 0])) l2 (.lst [v, .ref a1, .ref a2])) Q E := fun a1 l2 a2 n1 n2 n3 => by
      have s1 := same_upd (o := .lst [v]) n1
      have s2 := same_upd (o := .tup [v, .int 0]) n2
      have s3 := same_upd (o := .lst [v, .ref a1, .ref a2]) n3
      have SS := s1.trans (s2.trans s3)
      have w1 := dx_same (s2.trans s3) (newx_lst (K := K) (S := S) n1 lv1.any (.cons hd1 .nil))
      have w2 := dx_same s3 (newx_tup (K := K) (S := S) (xs := [v, .int 0]) (ds := [d, .int 0]) n2 (.cons (dx_same s1 hd1) (.cons (.int 0) .nil)))
      have nl : l2 ≠ p := fun z => by
        subst z
        have := (s1.trans s2) _ _ hp1
        rw [n3] at this
        cases this
      refine ⟨p, l2, _, n + 1, rfl, b1.same SS, by omega, upd_same, nl, by simp, (by decide : 3 < 1000), fun v' H5 hm c5 b5 => ?_⟩
      obtain ⟨d', md, dx'⟩ := dxs_mem (.cons (dx_same SS hd1) (.cons w1 (.cons w2 .nil))) hm
      refine q v' d' H5 (c1.trans ((Chg.of_same SS).trans c5)) (b5.mono (by omega)) (dx_chg c5 (SS _ _ hp1) sp dx') ?_
      simp only [List.mem_cons, List.not_mem_nil, or_false] at md
      have hT' : Th (2 * B + 8) N d := hT.le (by omega) (Nat.le_refl _)
      rcases md with rfl | rfl | rfl
      · exact hT'.le (Nat.le_refl _) (by omega)
      · exact (Ths.cons hT' Ths.nil).lst.le (Nat.le_refl _) (by omega)
      · exact (Ths.cons hT' (Ths.cons (th_int (i := 0) (by omega)) Ths.nil)).tup.le (Nat.le_refl _) (by omega)
    refine ⟨v, rfl, v, d, "tuple", rfl, dx_dp _ _ hd1, .inl rfl, _, rfl, ?_⟩
    cases h1 : isD "tuple" d with
    | false =>
      refine iteT (iteT ⟨.ref p, rfl, v, rfl, v, rfl, (by decide : 1 ≤ sizeLine), fun a1 n1 => ⟨v, rfl, (by decide : 2 ≤ sizeLine), fun a2 n2 => ⟨(by decide : 3 ≤ sizeLine), fun l2 n3 => wrap a1 l2 a2 n1 n2 n3⟩⟩⟩)
    | true =>
      obtain ⟨ds, rfl⟩ := isTup_tup h1
      obtain ⟨a, xs, rfl, ha, hxs⟩ := dx_tup hd1
      have hl := dxs_len hxs
      refine iteF ⟨.ref a, rfl, a, xs, rfl, .inr ha, rfl, _, rfl, ?_⟩
      by_cases h2 : ds.length = 2
      · obtain ⟨d1, d2, rfl⟩ := two_of h2
        obtain ⟨x, y, rfl, dx, dy⟩ : ∃ x y, xs = [x, y] ∧ Dx K H1 S x d1 ∧ Dx K H1 S y d2 := by
          cases hxs with
          | cons r t =>
            cases t with
            | cons r2 t2 =>
              cases t2
              exact ⟨_, _, rfl, r, r2⟩
        have T0 := hT.tup
        refine iteF ⟨.ref a, rfl, a, _, 0, _, rfl, rfl, ha, atI_nat (j := 0) rfl, x, d1, "tuple", rfl, dx_dp _ _ dx, .inl rfl, _, rfl, ?_⟩
        cases h3 : isD "tuple" d1 with
        | false =>
          exact iteT ⟨.ref p, rfl, _, rfl, _, rfl, (by decide : 1 ≤ sizeLine), fun a1 n1 => ⟨_, rfl, (by decide : 2 ≤ sizeLine), fun a2 n2 => ⟨(by decide : 3 ≤ sizeLine), fun l2 n3 => wrap a1 l2 a2 n1 n2 n3⟩⟩⟩
        | true =>
          obtain ⟨ps, rfl⟩ := isTup_tup h3
          obtain ⟨b, ys, rfl, hbb, hys⟩ := dx_tup dx
          have lp : ys.length = ps.length := dxs_len hys
          have Tq : Th B (N - 1) (.tuple ps) := T0.mem (by simp)
          have Tl : Th B (N - 1) d2 := T0.mem (by simp)
          have Tp : Ths B N ps := Tq.tup.le (Nat.le_refl _) (by omega)
          have lps := Th.len Tp
          have T8 : Ths (2 * B + 8) (szs ps) ps := ⟨okIs_le (by omega) _ Tp.ok, Nat.le_refl _⟩
          have L8 : Th (2 * B + 8) (sz d2) d2 := ⟨okI_le (by omega) _ Tl.ok, Nat.le_refl _⟩
          have hsum : szs ps + sz d2 + 2 ≤ N := by
            have := hT.sz
            simp only [sz, szs] at this
            omega
          refine iteF ⟨.ref a, rfl, a, _, rfl, ha, rfl, .ref b, [y], rfl, y, [], rfl, rfl, ?_⟩
          show tSeq _ _ _ [some (.ref p), some (.ref a), some (.int r), some (.ref b), some y, none, none] _
          refine ⟨.ref p, rfl, .ref b, rfl, b, ys, rfl, .inr hbb, _, _, rfl, rfl, p, _, n + 1, rfl, b1, by omega, by omega, by omega, fun at_ H2 g0 g1 c2 b2 => ?_⟩
          obtain ⟨l2, hp2⟩ := b2.at
          have dx2 : Dx K H2 S (.ref b) (.tuple ps) := dx_chg c2 hp1 sp dx
          have dy2 := dx_chg c2 hp1 sp dy
          have lv2 := lv1.chg c2 b2
          have C2 := c1.trans c2
          show tSeq _ _ _ [some (.ref p), some (.ref a), some (.int r), some (.ref b), some y, some (.int at_), none] _
          refine ⟨.int r, rfl, _, _, rfl, rfl, _, rfl, ite2 (fun e4 => ?_) (fun e4 => ?_)⟩
          · refine ⟨.int at_, rfl, .ref b, rfl, ?_⟩
            obtain ⟨b', ys2, eb, hb2, hys2⟩ := dx_tup dx2
            cases eb
            have lp2 : ys2.length = ps.length := dxs_len hys2
            refine ⟨b, ys2, rfl, .inr hb2, _, _, rfl, rfl, _, rfl, ite2 (fun e5 => ?_) (fun e5 => ?_)⟩
            · have e5' : at_ < (ys2.length : Int) := of_decide_eq_true e5
              have hlt : at_.toNat < ys2.length := by omega
              obtain ⟨dd, edd, ddx⟩ := dxs_get hys2 (List.getElem?_eq_getElem hlt)
              refine ⟨.ref p, rfl, .ref b, rfl, _, rfl, b, _, _, ys2[at_.toNat], rfl, rfl, hb2, at_of (j := at_.toNat) (by omega) (List.getElem?_eq_getElem hlt), p, S, _, dd, n + 2, B, N, rfl, b2, by omega, sp, lv2, ddx, Tp.mem (List.mem_of_getElem? edd), hB, by omega, fun v' d' H3 c3 b3 D3 T3 => ⟨(by decide : 1 ≤ sizeLine), fun l nl => ?_⟩⟩
              obtain ⟨l3, hp3⟩ := b3.at
              have s4 := same_upd (o := .lst [v']) nl
              have dx4 := dx_same s4 (dx_chg c3 hp2 sp dx2)
              have dy4 := dx_same s4 (dx_chg c3 hp2 sp dy2)
              refine ⟨.ref b, rfl, _, rfl, _, rfl, ps, dx4, fun z1 H5 s5 e1 => ?_⟩
              have A1 : Ths (2 * B + 8) (szs ps) (cutG ps none (some at_)) := T8.sub (cut_sub _ _ _)
              refine ⟨.ref l, rfl, l, _, rfl, .inl ⟨SqL.of (s5 _ _ upd_same), fun t2 nt2 => ?_⟩⟩
              have s6 := same_upd (o := .tup [v']) nt2
              have e2 := newx_tup (K := K) (S := S) (xs := [v']) (ds := [d']) nt2 (.cons (dx_same (s4.trans s5) D3) .nil)
              have A2 : Ths (2 * B + 8) (N + 20 + 0) [d'] := Ths.cons T3 Ths.nil
              have l1 := Th.len A1
              refine ⟨_, _, dx_same s6 e1, e2, ?_, fun z2 H7 s7 e3 => ?_⟩
              · show _ + 1 ≤ 10000
                omega
              have A3 := A1.app A2
              have l3 := Th.len A3
              refine ⟨.ref b, rfl, _, rfl, _, _, rfl, rfl, _, rfl, ps, dx_same (s5.trans (s6.trans s7)) dx4, fun z3 H8 s8 e4' => ?_⟩
              have A4 : Ths (2 * B + 8) (szs ps) (cutG ps (some (at_ + 1)) none) := T8.sub (cut_sub _ _ _)
              have l4 := Th.len A4
              refine ⟨_, _, dx_same s8 e3, e4', by omega, fun z4 H9 s9 e5' => ?_⟩
              have SS := s5.trans (s6.trans (s7.trans (s8.trans s9)))
              refine ⟨y, rfl, (by decide : 2 ≤ sizeLine), fun t3 nt3 => ?_⟩
              have s10 := same_upd (o := .tup [z4, y]) nt3
              refine q _ _ _ (C2.trans (c3.trans (Chg.of_same (s4.trans (SS.trans s10))))) ((b3.same (s4.trans (SS.trans s10))).mono (by omega)) (newx_tup nt3 (.cons e5' (.cons (dx_same SS dy4) .nil))) ?_
              exact (Ths.cons (A3.app A4).tup (Ths.cons L8 Ths.nil)).tup.le (Nat.le_refl _) (by omega)
            · refine ⟨.ref p, rfl, fun v5 H5 s5 D5 => ?_⟩
              obtain ⟨lq, hpq⟩ := (b2.same s5).at
              have T5 : Th B N (.tuple [.int 1, .int 2]) := (Ths.cons (th_int (i := 1) (by omega)) (Ths.cons (th_int (i := 2) (by omega)) Ths.nil)).tup.le (Nat.le_refl _) (by omega)
              refine ⟨p, S, _, _, n + 2, B, N, rfl, b2.same s5, by omega, sp, lv2.same s5, D5 S lv2.any, T5, hB, by omega, fun v' d' H3 c5 b3 D3 T3 => ⟨(by decide : 1 ≤ sizeLine), fun l nl => ?_⟩⟩
              have c3 := (Chg.of_same s5 (p := p)).trans c5
              obtain ⟨l3, hp3⟩ := b3.at
              have s4 := same_upd (o := .lst [v']) nl
              have dx4 := dx_same s4 (dx_chg c3 hp2 sp dx2)
              have dy4 := dx_same s4 (dx_chg c3 hp2 sp dy2)
              refine ⟨.ref b, rfl, _, rfl, _, rfl, ps, dx4, fun z1 H5 s5 e1 => ?_⟩
              have A1 : Ths (2 * B + 8) (szs ps) (cutG ps none (some at_)) := T8.sub (cut_sub _ _ _)
              refine ⟨.ref l, rfl, l, _, rfl, .inl ⟨SqL.of (s5 _ _ upd_same), fun t2 nt2 => ?_⟩⟩
              have s6 := same_upd (o := .tup [v']) nt2
              have e2 := newx_tup (K := K) (S := S) (xs := [v']) (ds := [d']) nt2 (.cons (dx_same (s4.trans s5) D3) .nil)
              have A2 : Ths (2 * B + 8) (N + 20 + 0) [d'] := Ths.cons T3 Ths.nil
              have l1 := Th.len A1
              refine ⟨_, _, dx_same s6 e1, e2, ?_, fun z2 H7 s7 e3 => ?_⟩
              · show _ + 1 ≤ 10000
                omega
              have A3 := A1.app A2
              have l3 := Th.len A3
              refine ⟨.ref b, rfl, _, rfl, _, _, rfl, rfl, _, rfl, ps, dx_same (s5.trans (s6.trans s7)) dx4, fun z3 H8 s8 e4' => ?_⟩
              have A4 : Ths (2 * B + 8) (szs ps) (cutG ps (some (at_ + 1)) none) := T8.sub (cut_sub _ _ _)
              have l4 := Th.len A4
              refine ⟨_, _, dx_same s8 e3, e4', by omega, fun z4 H9 s9 e5' => ?_⟩
              have SS := s5.trans (s6.trans (s7.trans (s8.trans s9)))
              refine ⟨y, rfl, (by decide : 2 ≤ sizeLine), fun t3 nt3 => ?_⟩
              have s10 := same_upd (o := .tup [z4, y]) nt3
              refine q _ _ _ (C2.trans (c3.trans (Chg.of_same (s4.trans (SS.trans s10))))) ((b3.same (s4.trans (SS.trans s10))).mono (by omega)) (newx_tup nt3 (.cons e5' (.cons (dx_same SS dy4) .nil))) ?_
              exact (Ths.cons (A3.app A4).tup (Ths.cons L8 Ths.nil)).tup.le (Nat.le_refl _) (by omega)
          · refine ⟨.int r, rfl, rfl, _, rfl, ?_⟩
            have e4' : ¬ r < 4 := fun z => e4 (decide_eq_true z)
            obtain ⟨b', ys2, eb, hb2, hys2⟩ := dx_tup dx2
            cases eb
            have lp2 : ys2.length = ps.length := dxs_len hys2
            by_cases h4 : r = 4
            · subst h4
              rw [decide_eq_true rfl]
              refine iteT ⟨.ref b, rfl, _, rfl, _, rfl, ps, dx2, fun z1 H3 s3 e1 => ?_⟩
              refine ⟨.ref b, rfl, _, rfl, _, rfl, _, rfl, _, _, rfl, rfl, _, rfl, ps, dx_same s3 dx2, fun z2 H4 s4 e2 => ?_⟩
              refine ⟨.ref p, rfl, p, 3, n + 2, rfl, b2.same (s3.trans s4), by omega, by decide, by decide, fun kk H5 k0 k1 c5 b5 => ?_⟩
              have hp4 := (s3.trans s4) _ _ hp2
              have A1 : Ths (2 * B + 8) (szs ps) (cutG ps none (some at_)) := T8.sub (cut_sub _ _ _)
              have A2 : Ths (2 * B + 8) (szs ps) (cutG ps (some at_) (some (at_ + 1))) := T8.sub (cut_sub _ _ _)
              have A4 : Ths (2 * B + 8) (szs ps) (cutG ps (some (at_ + 1)) none) := T8.sub (cut_sub _ _ _)
              have l1 := Th.len A1
              have l2 := Th.len A2
              have l4 := Th.len A4
              refine ⟨kk, _, rfl, dx_chg c5 hp4 sp e2, k0, by omega, by omega, fun z3 H6 s6 e3 => ?_⟩
              have A3 : Ths (2 * B + 8) (2 * szs ps) (List.replicate kk.toNat (cutG ps (some at_) (some (at_ + 1)))).flatten := A2.rep (by omega)
              have l3 := Th.len A3
              refine ⟨_, _, dx_same s6 (dx_chg c5 hp4 sp (dx_same s4 e1)), e3, by omega, fun z4 H7 s7 e5 => ?_⟩
              have A5 := A1.app A3
              have l5 := Th.len A5
              have dx7 := dx_same (s6.trans s7) (dx_chg c5 hp4 sp (dx_same (s3.trans s4) dx2))
              have dy7 := dx_same (s6.trans s7) (dx_chg c5 hp4 sp (dx_same (s3.trans s4) dy2))
              refine ⟨.ref b, rfl, _, rfl, _, _, rfl, rfl, _, rfl, ps, dx7, fun z5 H8 s8 e6 => ?_⟩
              refine ⟨_, _, dx_same s8 e5, e6, by omega, fun z6 H9 s9 e7 => ?_⟩
              refine ⟨y, rfl, (by decide : 2 ≤ sizeLine), fun t3 nt3 => ?_⟩
              have s10 := same_upd (o := .tup [z6, y]) nt3
              have SS := s6.trans (s7.trans (s8.trans (s9.trans s10)))
              refine q _ _ _ (C2.trans ((Chg.of_same (s3.trans s4)).trans (c5.trans (Chg.of_same SS)))) ((b5.same SS).mono (by omega)) (newx_tup nt3 (.cons e7 (.cons (dx_same (s8.trans s9) dy7) .nil))) ?_
              exact (Ths.cons (A5.app A4).tup (Ths.cons L8 Ths.nil)).tup.le (Nat.le_refl _) (by omega)
            · rw [decide_eq_false (fun z => h4 (V.int.inj z))]
              refine iteF ⟨.int r, rfl, rfl, _, rfl, ?_⟩
              by_cases h5 : r = 5
              · subst h5
                rw [decide_eq_true rfl]
                refine iteT ⟨.ref b, rfl, .ref p, rfl, fun v3 H3 s3 D3 => ?_⟩
                obtain ⟨m1, xm, rfl, nS1, em, Xm⟩ := dx_lst (D3 S lv2.any)
                have lm := dxs_len Xm
                refine ⟨p, m1, xm, n + 2, rfl, b2.same s3, by omega, em, fun z => nS1 (z ▸ sp), (fun z => by rw [z] at lm; cases lm), (by rw [lm]; decide), fun v' H4 hm c4 b4 => ?_⟩
                obtain ⟨d', md, dx'⟩ := dxs_mem Xm hm
                have hp3 := s3 _ _ hp2
                refine ⟨(by decide : 2 ≤ sizeLine), fun t3 nt3 => ?_⟩
                have s10 := same_upd (o := .tup [.ref b, v']) nt3
                refine q _ _ _ (C2.trans ((Chg.of_same s3).trans (c4.trans (Chg.of_same s10)))) ((b4.same s10).mono (by omega)) (newx_tup nt3 (.cons (dx_chg c4 hp3 sp (dx_same s3 dx2)) (.cons (dx_chg c4 hp3 sp dx') .nil))) ?_
                exact (Ths.cons T8.tup (Ths.cons ((th_all (B := 7) (N := 4) (by decide +kernel) md).le (by omega) (Nat.le_refl _)) Ths.nil)).tup.le (Nat.le_refl _) (by omega)
              · rw [decide_eq_false (fun z => h5 (V.int.inj z))]
                refine iteF ⟨.ref b, rfl, b, ys2, rfl, .inr hb2, fun m1 nm1 => ⟨y, rfl, (by decide : 2 ≤ sizeLine), fun m2 nm2 => ⟨.ref b, rfl, y, rfl, (by decide : 2 ≤ sizeLine), fun m3 nm3 => ⟨.ref b, rfl, y, rfl, (by decide : 3 ≤ sizeLine), fun m4 nm4 => ⟨(by decide : 3 ≤ sizeLine), fun m5 nm5 => ?_⟩⟩⟩⟩⟩
                have u1 := same_upd (o := .lst ys2) nm1
                have u2 := same_upd (o := .tup [.ref m1, y]) nm2
                have u3 := same_upd (o := .lst [.ref b, y]) nm3
                have u4 := same_upd (o := .tup [.ref b, y, .int 0]) nm4
                have u5 := same_upd (o := .lst [.ref m2, .ref m3, .ref m4]) nm5
                have w1 := newx_lst (K := K) (S := S) nm1 lv2.any hys2
                have w2 := newx_tup (K := K) (S := S) (xs := [.ref m1, y]) (ds := [.list ps, d2]) nm2 (.cons w1 (.cons (dx_same u1 dy2) .nil))
                have U2 := u1.trans u2
                have w3 := newx_lst (K := K) (S := S) (xs := [.ref b, y]) (ds := [.tuple ps, d2]) nm3 (lv2.same U2).any (.cons (dx_same U2 dx2) (.cons (dx_same U2 dy2) .nil))
                have U3 := U2.trans u3
                have w4 := newx_tup (K := K) (S := S) (xs := [.ref b, y, .int 0]) (ds := [.tuple ps, d2, .int 0]) nm4 (.cons (dx_same U3 dx2) (.cons (dx_same U3 dy2) (.cons (.int 0) .nil)))
                have U5 := U3.trans (u4.trans u5)
                have z0 : Th (2 * B + 8) 1 (.int 0) := th_int (by omega)
                have fin : ∀ (v' : V) (d' : PyData), Dx K _ S v' d' → Th (2 * B + 8) (4 * N + 60) d' → Q v' _ := fun v' d' x t => q v' d' _ (C2.trans (Chg.of_same U5)) ((b2.same U5).mono (by omega)) x t
                have hr8 : r = 6 ∨ r = 7 ∨ r = 8 := by omega
                rcases hr8 with rfl | rfl | rfl
                · exact ⟨.int 6, rfl, _, _, rfl, rfl, m5, _, _, _, rfl, rfl, SqL.of upd_same, atI_nat (j := 0) rfl, fin _ _ (dx_same (u3.trans (u4.trans u5)) w2) ((Ths.cons T8.lst (Ths.cons L8 Ths.nil)).tup.le (Nat.le_refl _) (by omega))⟩
                · exact ⟨.int 7, rfl, _, _, rfl, rfl, m5, _, _, _, rfl, rfl, SqL.of upd_same, atI_nat (j := 1) rfl, fin _ _ (dx_same (u4.trans u5) w3) ((Ths.cons T8.tup (Ths.cons L8 Ths.nil)).lst.le (Nat.le_refl _) (by omega))⟩
                · exact ⟨.int 8, rfl, _, _, rfl, rfl, m5, _, _, _, rfl, rfl, SqL.of upd_same, atI_nat (j := 2) rfl, fin _ _ (dx_same u5 w4) ((Ths.cons T8.tup (Ths.cons L8 (Ths.cons z0 Ths.nil))).tup.le (Nat.le_refl _) (by omega))⟩
      · have e : ((xs.length : Nat) : Int) ≠ 2 := by omega
        rw [decide_eq_false (fun z => e (V.int.inj z))]
        exact iteT (iteT ⟨.ref p, rfl, _, rfl, _, rfl, (by decide : 1 ≤ sizeLine), fun a1 n1 => ⟨_, rfl, (by decide : 2 ≤ sizeLine), fun a2 n2 => ⟨(by decide : 3 ≤ sizeLine), fun l2 n3 => wrap a1 l2 a2 n1 n2 n3⟩⟩⟩)
end
/-! ### the law -/
abbrev s_law : Stmt := topS 22
theorem sc_law : FnScope ["_law_script", "_law_k", "_law_box_here", "_law_row_here", "_law_many", "_law_things", "_law_turn", "_law_some", "_law_matter", "_law_kept", "_law_due"] ["_law_script"] (defScope s_law) := ⟨rfl, rfl, rfl, by decide +kernel, rfl, by decide +kernel, by decide +kernel⟩
theorem pane_is {q : Rat} (h : PaneQ q) : isPaneB (frD q) = true := by
  have h1 := (Rat.lt_iff q 1).mp h.hi
  have h2 := (Rat.lt_iff (-1) q).mp h.lo
  have e1 : ((1 : Rat).den : Int) = 1 := rfl
  have e2 : (1 : Rat).num = 1 := rfl
  have e3 : ((-1 : Rat).den : Int) = 1 := rfl
  have e4 : (-1 : Rat).num = -1 := rfl
  rw [e1, e2] at h1
  rw [e3, e4] at h2
  have hd : 0 < q.den := q.den_pos
  have hg : Int.gcd q.num (q.den : Int) = 1 := by
    show Nat.gcd q.num.natAbs (q.den : Int).natAbs = 1
    rw [Int.natAbs_natCast]
    exact q.reduced
  show ((decide (0 < (q.den : Int)) && decide (Int.gcd q.num (q.den : Int) = 1)) && decide (q.num.natAbs < (q.den : Int).natAbs)) = true
  rw [decide_eq_true (by omega), decide_eq_true hg, decide_eq_true (by omega)]
  rfl
theorem th_fr {q : Rat} (h : PaneQ q) : Th 63 3 (frD q) := by
  have a := h.sz.1
  have b := h.sz.2
  exact (Ths.cons (th_int (i := q.num) (by omega)) (Ths.cons (th_int (i := (q.den : Int)) (by omega)) Ths.nil)).tup.le (Nat.le_refl _) (by omega)
theorem th_frs : ∀ (qs : List Rat), (∀ q ∈ qs, PaneQ q) → Ths 63 (3 * qs.length) (frs qs)
  | [], _ => Ths.nil
  | q :: qs, h => (Ths.cons (th_fr (h q (by simp))) (th_frs qs fun z hz => h z (by simp [hz]))).le (Nat.le_refl _) (by simp only [List.length_cons]; omega)
theorem th_row {qs : List Rat} {x : Int} (h : ∀ q ∈ qs, PaneQ q) (hl : qs.length ≤ 12) (hx : WallI x) : Th 63 40 (rowD qs x) := by
  have hx' : x.natAbs ≤ 63 := by
    rcases hx with rfl | rfl | rfl <;> decide
  exact (Ths.cons (th_frs qs h).tup (Ths.cons (th_int hx') Ths.nil)).tup.le (Nat.le_refl _) (by omega)
theorem frs_panes {qs : List Rat} (h : ∀ q ∈ qs, PaneQ q) : (frs qs).all isPaneB = true := by
  rw [List.all_eq_true]
  intro d hd
  obtain ⟨q, hq, rfl⟩ := List.mem_map.mp hd
  exact pane_is (h q hq)
theorem wall_ok {x : Int} (h : WallI x) : decide (-1 ≤ x ∧ x ≤ 1) = true := by
  rcases h with rfl | rfl | rfl <;> decide
theorem frs_len (qs : List Rat) : (frs qs).length = qs.length := List.length_map ..
def halfD : PyData := .tuple [.int 1, .int 2]
def manyD (qs : List Rat) (k : Nat) (x : Int) : PyData := .tuple [.tuple (frs qs ++ (List.replicate k [halfD]).flatten), .int x]
theorem flat_half (k : Nat) : (List.replicate k [halfD]).flatten = List.replicate k halfD := by
  induction k with
  | zero => rfl
  | succ k ih => rw [List.replicate_succ, List.flatten_cons, ih]; rfl
theorem th_half (k : Nat) : Ths 63 (3 * k) (List.replicate k halfD) := by
  induction k with
  | zero => exact Ths.nil
  | succ k ih => exact (Ths.cons ((Ths.cons (th_int (i := 1) (by decide)) (Ths.cons (th_int (i := 2) (by decide)) Ths.nil)).tup) ih).le (Nat.le_refl _) (by omega)
theorem th_many {qs : List Rat} {k : Nat} {x : Int} (h : ∀ q ∈ qs, PaneQ q) (hl : qs.length ≤ 12) (hk : k ≤ 30) (hx : WallI x) : Th 63 200 (manyD qs k x) := by
  have hx' : x.natAbs ≤ 63 := by
    rcases hx with rfl | rfl | rfl <;> decide
  unfold manyD
  rw [flat_half]
  exact (Ths.cons ((th_frs qs h).app (th_half k)).tup (Ths.cons (th_int hx') Ths.nil)).tup.le (Nat.le_refl _) (by omega)
theorem row_is {qs : List Rat} {x : Int} (h : ∀ q ∈ qs, PaneQ q) (hx : WallI x) : isRowB (rowD qs x) = true := by
  show ((frs qs).all isPaneB && decide (-1 ≤ x ∧ x ≤ 1)) = true
  rw [frs_panes h, wall_ok hx]
  rfl
theorem many_is {qs : List Rat} {k : Nat} {x : Int} (h : ∀ q ∈ qs, PaneQ q) (hx : WallI x) : isRowB (manyD qs k x) = true := by
  show ((frs qs ++ (List.replicate k [halfD]).flatten).all isPaneB && decide (-1 ≤ x ∧ x ≤ 1)) = true
  rw [List.all_append, frs_panes h, wall_ok hx, flat_half]
  have e : (List.replicate k halfD).all isPaneB = true := by
    rw [List.all_eq_true]
    intro d hd
    rw [List.eq_of_mem_replicate hd]
    decide
  rw [e]
  rfl
theorem many_noL (qs : List Rat) (k : Nat) : noL (.tuple (frs qs ++ List.replicate k halfD)) = true := by
  show noLs (frs qs ++ List.replicate k halfD) = true
  induction qs with
  | nil =>
    show noLs (List.replicate k halfD) = true
    induction k with
    | zero => rfl
    | succ k ih =>
      rw [List.replicate_succ]
      show (true && noLs (List.replicate k halfD)) = true
      rw [ih]
      rfl
  | cons q qs ih =>
    show (noL (frD q) && noLs (frs qs ++ List.replicate k halfD)) = true
    rw [ih]
    rfl
theorem th_of {K : PySem.W.Frag} {H : Hp} {S : Addr → Prop} {xs : List V} {ds : List PyData} {B N : Nat} (X : DxAll K H S xs ds) (h : ds.all (thB B N) = true) (hB : B ≤ 300 := by decide) (hN : N ≤ 1000 := by decide) : ∀ d ∈ ds, Th 300 1000 d := fun d hd => (th_all h hd).le hB hN
theorem mem_app3 {a b c : List PyData} {P : PyData → Prop} (h1 : ∀ d ∈ a, P d) (h2 : ∀ d ∈ b, P d) (h3 : ∀ d ∈ c, P d) : ∀ d ∈ a ++ b ++ c, P d := fun d hd => by
  rcases List.mem_append.mp hd with hd | hd
  · rcases List.mem_append.mp hd with hd | hd
    · exact h1 d hd
    · exact h2 d hd
  · exact h3 d hd
theorem many_noL2 (qs : List Rat) (k : Nat) (x : Int) : noL (manyD qs k x) = true := by
  unfold manyD
  rw [flat_half]
  show (noL (.tuple (frs qs ++ List.replicate k halfD)) && (true && true)) = true
  rw [many_noL]
  rfl
def spLaw (K : PySem.W.Frag) : Sp := fun vs H Q _ => ∃ (a : Addr) (ns : List Int), vs = [.ref a] ∧ SqL K H a (ns.map V.int) ∧ ns.length ≤ 63 ∧ ∀ H', Q (.bl true) H'
section
variable {P : Program} {w : World} {K : PySem.W.Frag} {mg : Str → Option Value} {base : Heap}
theorem law_at {f f1 f2 f3 f4 f5 f6 f7 : Addr} {fd fd1 fd2 fd3 fd4 fd5 fd6 fd7 : FuncData} {k : Nat} (F : Fun K "law" "law" s_law f fd) (T : FreesA mg)
    (cBox : Cal P w K mg base k "_law_box" ["_law_script", "_law_k"] (spBox K) f1 fd1) (cRow : Cal P w K mg base k "_law_row" ["_law_box_here", "_law_most"] (spRow K) f2 fd2) (cT : Cal P w K mg base k "_law_take" ["_law_box_here", "_law_size"] spTake f3 fd3)
    (cB : Cal P w K mg base k "_law_bent" ["_law_box_here", "_law_matter"] (spBent K) f4 fd4) (cR : Cal P w K mg base k "is_row" ["thing"] (spData isRowB K) f5 fd5) (kbR : KBn K fd5 ["thing"] 0 ["thing"] (fun us ws => us ++ ws) (fun us ws => us ++ ws))
    (cL : Cal P w K mg base k "_law_is_row" ["_law_matter"] (spData isRowB K) f6 fd6) (cS : Cal P w K mg base k "_law_same" ["_law_found", "_law_due"] (spSame K 6) f7 fd7)
    (hU : ∀ env, (callerA.deeper env).units + 1002 < cLine) (cdv : Value) (outer : List Env) (s : Shared) (H : Hp) (vs : List V) (Q : VK) (E : XK) (hr : Room k (callerA.deeper (envOfC "law" (defScope s_law) s.heap.objs.size f cdv))) (h : spLaw K vs H Q E) :
    ∃ t, PSs (cxOf CX0 P w K mg base ["_law_script", "_law_k", "_law_box_here", "_law_row_here", "_law_many", "_law_things", "_law_turn", "_law_some", "_law_matter", "_law_kept", "_law_due"] "law" (defScope s_law) f cdv callerA outer s H E).nox (defBody s_law) t ∧ t { nx := fun _ H' => Q .non H', rt := Q } (start ["_law_script", "_law_k", "_law_box_here", "_law_row_here", "_law_many", "_law_things", "_law_turn", "_law_some", "_law_matter", "_law_kept", "_law_due"] vs) H := by
  obtain ⟨a, ns, rfl, hS, hlen, q⟩ := h
  refine ⟨_, (pss_cons (ps_for PassesOwn.never rfl (pi_range1 (by rfl) T.mrange (pa_cons (pe_op op_add pe_int (pe_callB (call_min2 rfl) (by rfl) T.mmin PyProof.Rows.boot_min (pa_cons pe_int (pa_cons (pe_callB call_len_seq (by rfl) T.mlen PySem.boot_len (pa_cons (pv 0) pa_nil)) pa_nil)))) pa_nil)) (pg_name (i := 1) sc_law.nd rfl (.inl rfl))
      (pss_cons (ps_set (i := 2) sc_law.nd rfl (.inl rfl) (pe_c cBox hr (by rfl) (pa_cons (pv 0) (pa_cons (pv 1) pa_nil))))
      (pss_cons (ps_set (i := 3) sc_law.nd rfl (.inl rfl) (pe_c cRow hr (by rfl) (pa_cons (pv 2) (pa_cons pe_int pa_nil))))
      (pss_cons (ps_set (i := 4) sc_law.nd rfl (.inl rfl) (pe_tup (pa_cons (pe_op (op_catX (S := fun _ => False)) (pe_ix ix_tup (pv 3) pe_int (fun _ _ => rfl)) (pe_op (op_repX (S := fun _ => False)) (lit_tup (lits_cons (lit_tup (lits_cons lit_int (lits_cons lit_int lits_nil))) lits_nil)) (pe_op op_add (pe_op op_sub pe_int (pe_callB call_len_seq (by rfl) T.mlen PySem.boot_len (pa_cons (pe_ix ix_tup (pv 3) pe_int (fun _ _ => rfl)) pa_nil))) (pe_c cT hr (by rfl) (pa_cons (pv 2) (pa_cons pe_int pa_nil)))))) (pa_cons (pe_ix ix_tup (pv 3) pe_int (fun _ _ => rfl)) pa_nil))))
      (pss_cons (ps_set (i := 5) sc_law.nd rfl (.inl rfl) (pe_lst (pa_cons (pv 3) (pa_cons (pv 4) (pa_cons (pe_tup (pa_cons (pe_ix ix_tup (pv 3) pe_int (fun _ _ => rfl)) (pa_cons pe_bl pa_nil))) (pa_cons (pe_tup (pa_cons (pe_ix ix_tup (pv 3) pe_int (fun _ _ => rfl)) (pa_cons pe_bl pa_nil))) (pa_cons (pe_tup (pa_cons (pe_ix ix_tup (pv 3) pe_int (fun _ _ => rfl)) (pa_cons pe_int pa_nil))) (pa_cons (lit_tup (lits_cons (lit_tup lits_nil) (lits_cons lit_int lits_nil))) (pa_cons (lit_tup (lits_cons (lit_tup lits_nil) (lits_cons lit_int lits_nil))) (pa_cons (lit_tup (lits_cons (lit_tup lits_nil) (lits_cons lit_neg lits_nil))) (pa_cons pe_non (pa_cons pe_int pa_nil))))))))))))
      (pss_cons (ps_set (i := 5) sc_law.nd rfl (.inl rfl) (pe_op op_cat (pv 5) (lit_lst (lits_cons lit_bl (lits_cons lit_str (lits_cons (lit_tup lits_nil) (lits_cons (lit_lst lits_nil) (lits_cons (lit_tup (lits_cons (lit_tup lits_nil) (lits_cons (lit_tup lits_nil) lits_nil))) (lits_cons (lit_tup (lits_cons (lit_tup lits_nil) lits_nil)) (lits_cons (lit_lst (lits_cons (lit_tup lits_nil) (lits_cons lit_int lits_nil))) lits_nil))))))))))
      (pss_cons (ps_set (i := 5) sc_law.nd rfl (.inl rfl) (pe_op op_cat (pv 5) (lit_lst (lits_cons (lit_tup (lits_cons lit_int (lits_cons (lit_tup lits_nil) lits_nil))) (lits_cons (lit_tup (lits_cons (lit_tup (lits_cons (lit_tup (lits_cons lit_int (lits_cons lit_int lits_nil))) lits_nil)) (lits_cons lit_int (lits_cons lit_int lits_nil)))) (lits_cons (lit_tup (lits_cons (lit_tup (lits_cons lit_int (lits_cons lit_int lits_nil))) (lits_cons lit_int lits_nil))) (lits_cons lit_str (lits_cons (lit_tup (lits_cons (lit_tup (lits_cons (lit_tup (lits_cons lit_int (lits_cons lit_int lits_nil))) (lits_cons lit_int lits_nil))) (lits_cons lit_int lits_nil))) lits_nil))))))))
      (pss_cons (ps_for PassesOwn.never rfl (pi_range1 (by rfl) T.mrange (pa_cons pe_int pa_nil)) (pg_name (i := 6) sc_law.nd rfl (.inl rfl))
      (pss_cons (ps_set (i := 7) sc_law.nd rfl (.inl rfl) (pe_c cB hr (by rfl) (pa_cons (pv 2) (pa_cons (pv 3) pa_nil))))
      (pss_one (ps_expr (pe_bm PySem.F.plainAttrs_list PySem.F.slot_list_append PySem.F.type_list_append mt_append (pv 5) (pa_cons (pe_ifExp (pt_cmpR op_eq (pe_c cT hr (by rfl) (pa_cons (pv 2) (pa_cons pe_int pa_nil))) pe_int (nomark _)) (pe_c cB hr (by rfl) (pa_cons (pv 2) (pa_cons (pv 7) pa_nil))) (pv 7)) pa_nil))))))
      (pss_cons (ps_if (PW.pt (pw_or (pt_cmpR op_notBl (pe_c cR hr (by rfl) (pa_cons (pv 3) pa_nil)) pe_bl (nomark _)) (pw_or1 (pt_cmpR op_notBl (pe_c cR hr (by rfl) (pa_cons (pv 4) pa_nil)) pe_bl (nomark _))))) pss_never pss_nil)
      (pss_one (ps_for PassesOwn.never rfl (pi_list (pv 5)) (pg_name (i := 8) sc_law.nd rfl (.inl rfl))
      (pss_cons (ps_par (by rfl) sc_law.nd (i := 9) (j := 10) rfl rfl (by decide) rfl rfl (pa_cons (pe_callB (call_reprD rfl (hU _)) (by rfl) T.mrepr (by decide +kernel) (pa_cons (pv 8) pa_nil)) (pa_cons (pe_c cL hr (by rfl) (pa_cons (pv 8) pa_nil)) pa_nil)) (by rfl))
      (pss_one (ps_if (PW.pt (pw_or (pt_not (pt_val (pe_c cS hr (by rfl) (pa_cons (pe_lst (pa_cons (pe_c cR hr (by rfl) (pa_cons (pv 8) pa_nil)) (pa_cons (pe_callN0 cR.ok hr (by rfl) cR.at_ cR.kp kbR pass0 (pk_cons (pv 8) pk_nil)) pa_nil))) (pa_cons (pe_lst (pa_cons (pv 10) (pa_cons (pv 10) pa_nil))) pa_nil))))) (pw_or1 (pt_cmpR op_ne (pe_callB (call_reprD rfl (hU _)) (by rfl) T.mrepr (by decide +kernel) (pa_cons (pv 8) pa_nil)) (pv 9) (nomark _))))) pss_never pss_nil))))))))))))))
      (pss_one (ps_ret pe_bl))), ?_⟩
  refine ⟨.ref a, rfl, a, _, rfl, .inl hS, 5, _, rfl, _, _, rfl, rfl, _, rfl, ?_, ?_, ?_⟩
  · split <;> omega
  · split <;> omega
  · have hn : ∀ m : Int, m = (ns.map V.int).length → (1 + if m < 5 then m else 5).toNat ≤ 6 := fun m _ => by split <;> omega
    refine for_it walk_range (fun i σ H2 => ∃ e1 e2 e3 e4 e5 e6 e7 e8 e9 e10 : Option V, σ = [some (.ref a), e1, e2, e3, e4, e5, e6, e7, e8, e9, e10] ∧ Same H H2) ⟨none, none, none, none, none, none, none, none, none, none, rfl, Same.refl H⟩ (fun _ _ _ _ _ => trivial) ?_ ?_
    · rintro i y σ H0 H0' hi ⟨o1, o2, o3, o4, o5, o6, o7, o8, o9, o10, rfl, s0⟩ ⟨rfl, rfl⟩
      have hi6 : i < 6 := Nat.lt_of_lt_of_le hi (hn _ rfl)
      refine ⟨.ref a, rfl, _, rfl, a, _, ns, rfl, s0.seq hS, by omega, by omega, fun p H1 np s1 b1 => ?_⟩
      refine ⟨.ref p, rfl, p, 12, 0, rfl, b1, by decide, by decide, fun v1 H2 qs x pq hl hx c2 b2 d1 => ?_⟩
      obtain ⟨a1, b1', xs1, rfl, ha1, hb1, hxs1⟩ := dp_row d1
      have n1p := np
      have S2 : Same H0' H2 := Same.chg_new s1 np c2
      obtain ⟨lp2, hp2⟩ := b2.at
      -- many
      refine ⟨.ref a1, rfl, a1, _, 0, _, rfl, rfl, ha1, atI_nat (j := 0) rfl, fun v3 H3 s3 D3 => ?_⟩
      have b3 := b2.same s3
      obtain ⟨lp3, hp3⟩ := b3.at
      refine ⟨.ref a1, rfl, a1, _, 0, _, rfl, rfl, Same.tup s3 ha1, atI_nat (j := 0) rfl, b1', xs1, rfl, .inr (Same.tup s3 hb1), _, _, rfl, rfl, .ref p, rfl, p, 9, 50, rfl, b3, by decide, by decide, by decide, fun r H4 r0 r9 c4 b4 => ?_⟩
      have lx : xs1.length = qs.length := by rw [dps_len hxs1]; exact List.length_map ..
      have ha4 := c4.tup hp3 (Same.tup s3 ha1)
      have dR4 : Dp K H4 (.ref a1) (rowD qs x) := b3.dp c4 (dp_same s3 _ _ d1) (noL_row qs x)
      have dP4 : Dp K H4 (.ref b1') (.tuple (frs qs)) := b3.dp c4 (.tup (Same.tup s3 hb1) (dps_same s3 _ _ hxs1)) (noL_frs qs)
      have dH4 : Dp K H4 v3 (.tuple [halfD]) := b3.dp c4 (dx_dp _ _ (D3 (fun _ => False) (fun _ z => z.elim))) rfl
      refine ⟨_, _, rfl, rfl, 13 - (xs1.length : Int) + r, [halfD], rfl, dx_noL _ _ rfl dH4, by omega, by omega, by decide, fun z5 H5 s5 e5 => ?_⟩
      have hkk : (13 - (xs1.length : Int) + r).toNat ≤ 30 := by omega
      generalize (13 - (xs1.length : Int) + r).toNat = kk at *
      rw [flat_half] at e5
      refine ⟨frs qs, List.replicate kk halfD, dx_same s5 (dx_noL _ _ (noL_frs qs) dP4), e5, ?_, fun z6 H6 s6 e6 => ?_⟩
      · rw [frs_len, List.length_replicate]
        omega
      have T6 := s5.trans s6
      refine ⟨.ref a1, rfl, a1, _, 1, _, rfl, rfl, Same.tup T6 ha4, atI_nat (j := 1) rfl, (by decide : 2 ≤ sizeLine), fun tm ntm => ?_⟩
      have u7 := same_upd (o := .tup [z6, .int x]) ntm
      have dM7 := new_tup (K := K) (xs := [z6, .int x]) (ds := [.tuple (frs qs ++ List.replicate kk halfD), .int x]) ntm (.cons (dx_dp _ _ e6) (.cons (.int x) .nil))
      have T7 := T6.trans u7
      -- things
      refine ⟨.ref a1, rfl, .ref tm, rfl, .ref a1, rfl, a1, _, 0, _, rfl, rfl, Same.tup T7 ha4, atI_nat (j := 0) rfl, (by decide : 2 ≤ sizeLine), fun t1 n1 => ?_⟩
      have u8 := same_upd (o := .tup [.ref b1', .bl true]) n1
      refine ⟨.ref a1, rfl, a1, _, 0, _, rfl, rfl, Same.tup (T7.trans u8) ha4, atI_nat (j := 0) rfl, (by decide : 2 ≤ sizeLine), fun t2 n2 => ?_⟩
      have u9 := same_upd (o := .tup [.ref b1', .bl false]) n2
      refine ⟨.ref a1, rfl, a1, _, 0, _, rfl, rfl, Same.tup (T7.trans (u8.trans u9)) ha4, atI_nat (j := 0) rfl, (by decide : 2 ≤ sizeLine), fun t3 n3 => ?_⟩
      have u10 := same_upd (o := .tup [.ref b1', .int 2]) n3
      have k8 := new_tup (K := K) (xs := [.ref b1', .bl true]) (ds := [.tuple (frs qs), .bool true]) n1 (.cons (dp_same T7 _ _ dP4) (.cons (.bl true) .nil))
      have k9 := new_tup (K := K) (xs := [.ref b1', .bl false]) (ds := [.tuple (frs qs), .bool false]) n2 (.cons (dp_same (T7.trans u8) _ _ dP4) (.cons (.bl false) .nil))
      have k10 := new_tup (K := K) (xs := [.ref b1', .int 2]) (ds := [.tuple (frs qs), .int 2]) n3 (.cons (dp_same (T7.trans (u8.trans u9)) _ _ dP4) (.cons (.int 2) .nil))
      have T10 := T7.trans (u8.trans (u9.trans u10))
      refine fun w1 H11 s11 D11 w2 H12 s12 D12 w3 H13 s13 D13 => ⟨(by decide : 10 ≤ sizeLine), fun L0 nL0 => ?_⟩
      have u14 := same_upd (o := .lst [.ref a1, .ref tm, .ref t1, .ref t2, .ref t3, w1, w2, w3, .non, .int 0]) nL0
      have lv4 : Lv (fun b => b = p) H4 := fun b e => by
        have e' : b = p := e
        subst e'
        exact b4.at
      have lv10 := lv4.same T10
      have lv11 := lv10.same s11
      have lv12 := lv11.same s12
      have lv13 := lv12.same s13
      have T13 := s11.trans (s12.trans s13)
      have nF : noLs (frs qs) = true := noL_frs qs
      have Y13 : DxAll K H13 (fun b => b = p) [.ref a1, .ref tm, .ref t1, .ref t2, .ref t3, w1, w2, w3, .non, .int 0] [rowD qs x, manyD qs kk x, .tuple [.tuple (frs qs), .bool true], .tuple [.tuple (frs qs), .bool false], .tuple [.tuple (frs qs), .int 2], .tuple [.tuple [], .int 0], .tuple [.tuple [], .int 1], .tuple [.tuple [], .int (-1)], .none, .int 0] := by
        refine .cons (dx_noL _ _ (noL_row qs x) (dp_same (T10.trans T13) _ _ dR4)) (.cons ?_ (.cons ?_ (.cons ?_ (.cons ?_ (.cons (dx_same (s12.trans s13) (D11 _ lv10.any)) (.cons (dx_same s13 (D12 _ lv11.any)) (.cons (D13 _ lv12.any) (.cons .non (.cons (.int 0) .nil)))))))))
        · unfold manyD
          rw [flat_half]
          exact dx_same (u8.trans (u9.trans (u10.trans T13))) (.tup (SqT.of upd_same) (.cons (dx_same u7 (dx_noL _ _ (many_noL qs kk) (dx_dp _ _ e6))) (.cons (.int x) .nil)))
        · exact dx_noL _ _ (by show (noLs (frs qs) && (true && true)) = true; rw [nF]; rfl) (dp_same (u9.trans (u10.trans T13)) _ _ k8)
        · exact dx_noL _ _ (by show (noLs (frs qs) && (true && true)) = true; rw [nF]; rfl) (dp_same (u10.trans T13) _ _ k9)
        · exact dx_noL _ _ (by show (noLs (frs qs) && (true && true)) = true; rw [nF]; rfl) (dp_same T13 _ _ k10)
      have G13 : ∀ d ∈ [rowD qs x, manyD qs kk x, .tuple [.tuple (frs qs), .bool true], .tuple [.tuple (frs qs), .bool false], .tuple [.tuple (frs qs), .int 2], .tuple [.tuple [], .int 0], .tuple [.tuple [], .int 1], .tuple [.tuple [], .int (-1)], .none, .int 0], Th 300 1000 d := by
        have tb : ∀ b : Bool, Th 63 1 (.bool b) := fun b => ⟨by simp [okI], by simp [sz]⟩
        have tf := (th_frs qs pq).tup
        intro d hd
        simp only [List.mem_cons, List.not_mem_nil, or_false] at hd
        rcases hd with rfl | rfl | rfl | rfl | rfl | rfl | rfl | rfl | rfl | rfl
        · exact (th_row pq hl hx).le (by decide) (by decide)
        · exact (th_many pq hl hkk hx).le (by decide) (by decide)
        · exact (Ths.cons tf (Ths.cons (tb true) Ths.nil)).tup.le (by decide) (by omega)
        · exact (Ths.cons tf (Ths.cons (tb false) Ths.nil)).tup.le (by decide) (by omega)
        · exact (Ths.cons tf (Ths.cons (th_int (i := 2) (by decide)) Ths.nil)).tup.le (by decide) (by omega)
        · exact (th_all (B := 7) (N := 4) (ds := [_]) (by decide +kernel) (List.mem_singleton.mpr rfl)).le (by decide) (by decide)
        · exact (th_all (B := 7) (N := 4) (ds := [_]) (by decide +kernel) (List.mem_singleton.mpr rfl)).le (by decide) (by decide)
        · exact (th_all (B := 7) (N := 4) (ds := [_]) (by decide +kernel) (List.mem_singleton.mpr rfl)).le (by decide) (by decide)
        · exact (th_all (B := 7) (N := 4) (ds := [_]) (by decide +kernel) (List.mem_singleton.mpr rfl)).le (by decide) (by decide)
        · exact (th_all (B := 7) (N := 4) (ds := [_]) (by decide +kernel) (List.mem_singleton.mpr rfl)).le (by decide) (by decide)
      have lv14 := lv13.same u14
      have Y14 := dxs_same u14 Y13
      have SqM : SqT K H13 tm [z6, .int x] := Same.tup (u8.trans (u9.trans (u10.trans T13))) (SqT.of upd_same)
      have hL0 : (upd H13 L0 (.lst [.ref a1, .ref tm, .ref t1, .ref t2, .ref t3, w1, w2, w3, .non, .int 0])) L0 = some (.lst [.ref a1, .ref tm, .ref t1, .ref t2, .ref t3, w1, w2, w3, .non, .int 0]) := upd_same
      have dR14 := dp_same (T10.trans (T13.trans u14)) _ _ dR4
      have dM14 := dx_dp _ _ (show Dx K (upd H13 L0 (.lst [.ref a1, .ref tm, .ref t1, .ref t2, .ref t3, w1, w2, w3, .non, .int 0])) (fun b => b = p) (.ref tm) (manyD qs kk x) by
        cases Y14 with
        | cons _ y => cases y with
          | cons y _ => exact y)
      have b14 := b4.same (T10.trans (T13.trans u14))
      have S14 : Same H0' (upd H13 L0 (.lst [.ref a1, .ref tm, .ref t1, .ref t2, .ref t3, w1, w2, w3, .non, .int 0])) := (Same.chg_new (S2.trans s3) np c4).trans (T10.trans (T13.trans u14))
      generalize upd H13 L0 (.lst [.ref a1, .ref tm, .ref t1, .ref t2, .ref t3, w1, w2, w3, .non, .int 0]) = H14 at *
      generalize [V.ref a1, .ref tm, .ref t1, .ref t2, .ref t3, w1, w2, w3, .non, .int 0] = y0 at *
      have ly0 := dxs_len Y14
      generalize hg13 : [rowD qs x, manyD qs kk x, .tuple [.tuple (frs qs), .bool true], .tuple [.tuple (frs qs), .bool false], .tuple [.tuple (frs qs), .int 2], .tuple [.tuple [], .int 0], .tuple [.tuple [], .int 1], .tuple [.tuple [], .int (-1)], .none, .int 0] = g0 at *
      have lg0 : g0.length = 10 := by rw [← hg13]; rfl
      show tSeq _ _ _ [some (.ref a), some (.int (0 + (i : Int))), some (.ref p), some (.ref a1), some (.ref tm), some (.ref L0), o6, o7, o8, o9, o10] _
      refine ⟨.ref L0, rfl, fun v15 H15 s15 D15 => ?_⟩
      obtain ⟨l15, x15, rfl, nS15, e15, X15⟩ := dx_lst (D15 _ lv14.any)
      have lx15 := dxs_len X15
      refine ⟨L0, l15, y0, x15, rfl, rfl, s15 _ _ hL0, e15, ?_, fun L1 nL1 => ?_⟩
      · rw [ly0, lg0, lx15]
        decide
      have u16 := same_upd (o := .lst (y0 ++ x15)) nL1
      have Y16 := dxs_same u16 (dxs_app (dxs_same s15 Y14) X15)
      have T16 := s15.trans u16
      have lv16 := lv14.same T16
      refine ⟨.ref L1, rfl, fun v17 H17 s17 D17 => ?_⟩
      obtain ⟨l17, x17, rfl, nS17, e17, X17⟩ := dx_lst (D17 _ lv16.any)
      have lx17 := dxs_len X17
      refine ⟨L1, l17, y0 ++ x15, x17, rfl, rfl, s17 _ _ upd_same, e17, ?_, fun L nL => ?_⟩
      · rw [List.length_append, ly0, lg0, lx15, lx17]
        decide
      have u18 := same_upd (o := .lst (y0 ++ x15 ++ x17)) nL
      have Y18 := dxs_same u18 (dxs_more nL (dxs_app (dxs_same s17 Y16) X17))
      have T18 := T16.trans (s17.trans u18)
      have S18 := S14.trans T18
      have S17 := S14.trans (T16.trans s17)
      have nLH : H0' L = none := S17.free nL
      have nLp : L ≠ p := (b14.same (T16.trans s17)).ne nL
      have dR18 := dp_same T18 _ _ dR14
      have dM18 := dp_same T18 _ _ dM14
      have b18 := b14.same T18
      have G18 := mem_app3 G13 (th_of (B := 7) (N := 8) X15 (by decide +kernel)) (th_of (B := 7) (N := 8) X17 (by decide +kernel))
      have lz : (y0 ++ x15 ++ x17).length = 22 := by
        rw [List.length_append, List.length_append, ly0, lg0, lx15, lx17]
        rfl
      have hL18 : (upd H17 L (.lst (y0 ++ x15 ++ x17))) L = some (.lst (y0 ++ x15 ++ x17)) := upd_same
      generalize upd H17 L (.lst (y0 ++ x15 ++ x17)) = H18 at *
      generalize y0 ++ x15 ++ x17 = z0 at *
      show tSeq _ _ _ [some (.ref a), some (.int (0 + (i : Int))), some (.ref p), some (.ref a1), some (.ref tm), some (.ref L), o6, o7, o8, o9, o10] _
      have sP : (fun b => b = p ∨ b = L) p := .inl rfl
      have sL : (fun b => b = p ∨ b = L) L := .inr rfl
      have TR : Th 63 40 (rowD qs x) := th_row pq hl hx
      refine ⟨12, rfl, by decide, by decide, for_it walk_range (fun j σ H2 => ∃ (zs : List V) (gs : List PyData) (e6 e7 : Option V), σ = [some (.ref a), some (.int (0 + (i : Int))), some (.ref p), some (.ref a1), some (.ref tm), some (.ref L), e6, e7, o8, o9, o10] ∧ Same H0' H2 ∧ Bx H2 p (51 + 9 * j) ∧ H2 L = some (.lst zs) ∧ DxAll K H2 (fun b => b = p ∨ b = L) zs gs ∧ (∀ d ∈ gs, Th 300 1000 d) ∧ zs.length = 22 + j ∧ Dp K H2 (.ref a1) (rowD qs x) ∧ Dp K H2 (.ref tm) (manyD qs kk x))
        ⟨z0, _, o6, o7, rfl, S18, b18.mono (by decide), hL18, Y18, G18, lz, dR18, dM18⟩ (fun _ _ _ _ _ => trivial) ?_ ?_⟩
      · rintro j z σ H2 H2' hj ⟨zs, gs, e6, e7, rfl, s2, b2, hL2, Y2, G2, l2, dR2, dM2⟩ ⟨rfl, rfl⟩
        have nM := many_noL2 qs kk x
        have lvS : ∀ {H : Hp} {n : Nat} {l : List V}, Bx H p n → H L = some (.lst l) → Lv (fun b => b = p ∨ b = L) H := fun b h c e => by
          rcases e with e | e
          · have e' : c = p := e
            subst e'
            exact b.at
          · have e' : c = L := e
            subst e'
            exact ⟨_, h⟩
        obtain ⟨lpp, hpp⟩ := b2.at
        refine ⟨.ref p, rfl, .ref a1, rfl, p, _, .ref a1, rowD qs x, _, 63, 40, rfl, b2, by omega, sP, lvS b2 hL2, dx_noL _ _ (noL_row qs x) dR2, TR, by decide, by decide, by decide, by decide, fun v' d' H3 c3 b3 D3 T3 => ?_⟩
        have hL3 := c3 _ _ nLp hL2
        obtain ⟨lp3', hp3'⟩ := b3.at
        have Y3 := dxs_chg c3 hpp sP Y2
        have dR3 := b2.dp c3 dR2 (noL_row qs x)
        have dM3 := b2.dp c3 dM2 nM
        have S3 : Same H0' H3 := Same.chg_new s2 np c3
        refine ⟨.ref L, rfl, .inl ⟨rfl, _, SqL.of hL3⟩, .ref p, rfl, p, 3, _, rfl, b3, by omega, by decide, by decide, fun r H4 r0 r3 c4 b4 => ?_⟩
        have hL4 := c4 _ _ nLp hL3
        obtain ⟨lp4', hp4'⟩ := b4.at
        have Y4 := dxs_chg c4 hp3' sP Y3
        have dR4 := b3.dp c4 dR3 (noL_row qs x)
        have dM4 := b3.dp c4 dM3 nM
        have D4 := dx_chg c4 hp3' sP D3
        have S4 : Same H0' H4 := Same.chg_new S3 np c4
        refine ⟨rfl, _, rfl, ite2 (fun e => ?_) (fun e => ?_)⟩
        · refine ⟨.ref p, rfl, v', rfl, p, _, v', d', _, _, _, rfl, b4, by omega, sP, lvS b4 hL4, D4, T3, by decide, by decide, by decide, by decide, fun v5 d5 H5 c5 b5 D5 T5 => ?_⟩
          have hL5 := c5 _ _ nLp hL4
          refine ⟨L, zs, v5, rfl, rfl, hL5, ?_, zs ++ [v5], gs ++ [d5], _, _, rfl, Same.new_upd (Same.chg_new S4 np c5) nLH, (b5.other nLp.symm).mono (by omega), upd_same, ?_, ?_, ?_, ?_, ?_⟩
          · rw [l2]
            exact small1000 (by omega)
          · exact dxs_chg chg_upd hL5 sL (dxs_app (dxs_chg c5 hp4' sP Y4) (.cons D5 .nil))
          · intro d hd
            rcases List.mem_append.mp hd with hd | hd
            · exact G2 d hd
            · rw [List.mem_singleton.mp hd]
              exact T5.le (by decide) (by decide)
          · rw [List.length_append, l2]
            rfl
          · exact dp_put hL5 (noL_row qs x) (b4.dp c5 dR4 (noL_row qs x))
          · exact dp_put hL5 nM (b4.dp c5 dM4 nM)
        · refine ⟨v', rfl, L, zs, v', rfl, rfl, hL4, ?_, zs ++ [v'], gs ++ [d'], _, _, rfl, Same.new_upd S4 nLH, (b4.other nLp.symm).mono (by omega), upd_same, ?_, ?_, ?_, ?_, ?_⟩
          · rw [l2]
            exact small1000 (by omega)
          · exact dxs_chg chg_upd hL4 sL (dxs_app Y4 (.cons D4 .nil))
          · intro d hd
            rcases List.mem_append.mp hd with hd | hd
            · exact G2 d hd
            · rw [List.mem_singleton.mp hd]
              exact T3.le (by decide) (by decide)
          · rw [List.length_append, l2]
            rfl
          · exact dp_put hL4 (noL_row qs x) dR4
          · exact dp_put hL4 nM dM4
      · rintro σ H2 ⟨zs, gs, e6, e7, rfl, s2, b2, hL2, Y2, G2, l2, dR2, dM2⟩
        -- the row itself, the longer one
        refine ⟨.ref a1, rfl, .ref a1, rowD qs x, rfl, dR2, TR.le (by decide) (by decide), fun H3 s3 => ⟨_, _, rfl, rfl, _, rfl, ?_⟩⟩
        rw [row_is pq hx]
        refine iteF ⟨.ref tm, rfl, .ref tm, manyD qs kk x, rfl, dp_same s3 _ _ dM2, (th_many pq hl hkk hx).le (by decide) (by decide), fun H4 s4 => ⟨_, _, rfl, rfl, _, rfl, ?_⟩⟩
        rw [many_is pq hx]
        refine iteF ?_
        -- each thing
        have S24 := s3.trans s4
        refine ⟨.ref L, rfl, L, rfl, ⟨_, SqL.of (S24 _ _ hL2)⟩, for_it (walk_list (xs := zs)) (fun j σ Hc => ∃ e8 e9 e10 : Option V, σ = [some (.ref a), some (.int (0 + (i : Int))), some (.ref p), some (.ref a1), some (.ref tm), some (.ref L), e6, e7, e8, e9, e10] ∧ Same H2 Hc) ⟨o8, o9, o10, rfl, S24⟩ (fun j σ Hc _ hW => ?_) ?_ ?_⟩
        · obtain ⟨_, _, _, _, sc⟩ := hW
          exact SqL.of (sc _ _ hL2)
        · rintro j z σ H5 H5' hj ⟨e8, e9, e10, rfl, s5⟩ ⟨rfl, ez⟩
          obtain ⟨d, ed, dz⟩ := dxs_get Y2 ez
          have Td := G2 d (List.mem_of_getElem? ed)
          have dzp := dx_dp _ _ dz
          have sh := ok_showable (by decide) d Td.ok
          have tx := Td.text (by decide) (by decide)
          have dep : PyData.depth d ≤ 1000 := Nat.le_trans (depth_sz d Td.ok) Td.sz
          refine ⟨z, rfl, z, d, rfl, dp_same s5 _ _ dzp, sh, dep, tx, z, rfl, z, d, rfl, dp_same s5 _ _ dzp, Td, fun H6 s6 => ⟨_, _, rfl, ?_⟩⟩
          have t6 := s5.trans s6
          refine ⟨z, rfl, z, d, rfl, dp_same t6 _ _ dzp, Td, fun H7 s7 => ?_⟩
          have t7 := t6.trans s7
          refine ⟨z, rfl, rfl, rfl, z, d, rfl, dp_same t7 _ _ dzp, Td, fun H8 s8 => ⟨(by decide : 2 ≤ sizeLine), fun M1 nM1 => ?_⟩⟩
          have s9 := same_upd (o := .lst [.bl (isRowB d), .bl (isRowB d)]) nM1
          have t9 := t7.trans (s8.trans s9)
          refine ⟨_, rfl, _, rfl, (by decide : 2 ≤ sizeLine), fun M2 nM2 => ?_⟩
          have s10 := same_upd (o := .lst [.bl (isRowB d), .bl (isRowB d)]) nM2
          have A1 := dp_same s10 _ _ (new_lst (K := K) (xs := [.bl (isRowB d), .bl (isRowB d)]) (ds := [.bool (isRowB d), .bool (isRowB d)]) nM1 (.cons (.bl _) (.cons (.bl _) .nil)))
          have A2 := new_lst (K := K) (xs := [.bl (isRowB d), .bl (isRowB d)]) (ds := [.bool (isRowB d), .bool (isRowB d)]) nM2 (.cons (.bl _) (.cons (.bl _) .nil))
          refine ⟨.ref M1, .ref M2, _, rfl, A1, A2, rfl, fun H11 s11 => ⟨true, rfl, iteF ?_⟩⟩
          have t11 := t9.trans (s10.trans s11)
          refine ⟨z, rfl, z, d, rfl, dp_same t11 _ _ dzp, sh, dep, tx, _, rfl, rfl, _, rfl, ?_⟩
          rw [decide_eq_true rfl]
          exact iteF ⟨_, _, _, rfl, t11⟩
        · rintro σ H5 ⟨e8, e9, e10, rfl, s5⟩
          exact ⟨_, _, _, _, _, _, _, _, _, _, rfl, s0.trans (s2.trans s5)⟩
    · rintro σ H2 ⟨e1, e2, e3, e4, e5, e6, e7, e8, e9, e10, rfl, s2⟩
      exact q _
end
/-! ### what the top has written -/
theorem all_mk {l : PySem.W.OpenLaw} {w : World} {K : PySem.W.Frag} {h : Heap} {mg : Str → Option Value} {fa : Addr} (X : K.In h) (G : h.Ns mainGlobals mg) (hfa : mg "law" = some (.ref fa))
    {f0 : Addr} {od0 an0 : Option Addr} {sl0 : Array (Option Value)} {oc0 dc0 pm0 cd0 ct0 : Value}
    {kV0 : Value}
    {f1 : Addr} {od1 an1 : Option Addr} {sl1 : Array (Option Value)} {oc1 dc1 pm1 cd1 ct1 : Value}
    {kV1 : Value}
    {f2 : Addr} {od2 an2 : Option Addr} {sl2 : Array (Option Value)} {oc2 dc2 pm2 cd2 ct2 : Value}
    {kV2 : Value}
    {f3 : Addr} {od3 an3 : Option Addr} {sl3 : Array (Option Value)} {oc3 dc3 pm3 cd3 ct3 : Value}
    {kV3 : Value}
    {f4 : Addr} {od4 an4 : Option Addr} {sl4 : Array (Option Value)} {oc4 dc4 pm4 cd4 ct4 : Value}
    {kV4 : Value}
    {f5 : Addr} {od5 an5 : Option Addr} {sl5 : Array (Option Value)} {oc5 dc5 pm5 cd5 ct5 : Value}
    {kV5 : Value}
    {f6 : Addr} {od6 an6 : Option Addr} {sl6 : Array (Option Value)} {oc6 dc6 pm6 cd6 ct6 : Value}
    {kV6 : Value}
    {f7 : Addr} {od7 an7 : Option Addr} {sl7 : Array (Option Value)} {oc7 dc7 pm7 cd7 ct7 : Value}
    {kV7 : Value}
    {f8 : Addr} {od8 an8 : Option Addr} {sl8 : Array (Option Value)} {oc8 dc8 pm8 cd8 ct8 : Value}
    {kV8 : Value}
    {f9 : Addr} {od9 an9 : Option Addr} {sl9 : Array (Option Value)} {oc9 dc9 pm9 cd9 ct9 : Value}
    {kV9 : Value}
    {f10 : Addr} {od10 an10 : Option Addr} {sl10 : Array (Option Value)} {oc10 dc10 pm10 cd10 ct10 : Value}
    {kV10 : Value}
    {f11 : Addr} {od11 an11 : Option Addr} {sl11 : Array (Option Value)} {oc11 dc11 pm11 cd11 ct11 : Value}
    {kV11 : Value}
    {f12 : Addr} {od12 an12 : Option Addr} {sl12 : Array (Option Value)} {oc12 dc12 pm12 cd12 ct12 : Value}
    {kV12 : Value}
    {f13 : Addr} {od13 an13 : Option Addr} {sl13 : Array (Option Value)} {oc13 dc13 pm13 cd13 ct13 : Value}
    {kV13 : Value}
    {f14 : Addr} {od14 an14 : Option Addr} {sl14 : Array (Option Value)} {oc14 dc14 pm14 cd14 ct14 : Value}
    {kV14 : Value}
    {f15 : Addr} {od15 an15 : Option Addr} {sl15 : Array (Option Value)} {oc15 dc15 pm15 cd15 ct15 : Value}
    {kV15 : Value}
    {f16 : Addr} {od16 an16 : Option Addr} {sl16 : Array (Option Value)} {oc16 dc16 pm16 cd16 ct16 : Value}
    {kV16 : Value}
    {f17 : Addr} {od17 an17 : Option Addr} {sl17 : Array (Option Value)} {oc17 dc17 pm17 cd17 ct17 : Value}
    {kV17 : Value}
    {f18 : Addr} {od18 an18 : Option Addr} {sl18 : Array (Option Value)} {oc18 dc18 pm18 cd18 ct18 : Value}
    {kV18 : Value}
    {G0 : Addr} {gk0_0 gk0_1 gk0_2 : Tok} {gn0 : Nat} {go0 : Option Addr} {gs0 : Array (Option Value)}
    (a0 : PySem.W.nsIn K mainGlobals "is_number" = some (some (.ref f0))) (l0 : K.lookup f0 = some ⟨oc0, od0, .func (PySem.W.fnOf "is_number" "is_number" (defArgs s_is_number) (defBody s_is_number) (defScope s_is_number) .none kV0 dc0 pm0 an0 cd0 ct0), sl0⟩) (c0 : PySem.W.codeIn K cd0 "is_number" = true) (k0 : PySem.W.keepIn K (.ref f0) = true)
    (a1 : PySem.W.nsIn K mainGlobals "common_part" = some (some (.ref f1))) (l1 : K.lookup f1 = some ⟨oc1, od1, .func (PySem.W.fnOf "common_part" "common_part" (defArgs sCommon) (defBody sCommon) (defScope sCommon) .none kV1 dc1 pm1 an1 cd1 ct1), sl1⟩) (c1 : PySem.W.codeIn K cd1 "common_part" = true) (k1 : PySem.W.keepIn K (.ref f1) = true)
    (a2 : PySem.W.nsIn K mainGlobals "is_fraction" = some (some (.ref f2))) (l2 : K.lookup f2 = some ⟨oc2, od2, .func (PySem.W.fnOf "is_fraction" "is_fraction" (defArgs s_is_fraction) (defBody s_is_fraction) (defScope s_is_fraction) .none kV2 dc2 pm2 an2 cd2 ct2), sl2⟩) (c2 : PySem.W.codeIn K cd2 "is_fraction" = true) (k2 : PySem.W.keepIn K (.ref f2) = true)
    (a3 : PySem.W.nsIn K mainGlobals "is_pane" = some (some (.ref f3))) (l3 : K.lookup f3 = some ⟨oc3, od3, .func (PySem.W.fnOf "is_pane" "is_pane" (defArgs s_is_pane) (defBody s_is_pane) (defScope s_is_pane) .none kV3 dc3 pm3 an3 cd3 ct3), sl3⟩) (c3 : PySem.W.codeIn K cd3 "is_pane" = true) (k3 : PySem.W.keepIn K (.ref f3) = true)
    (a4 : PySem.W.nsIn K mainGlobals "is_row" = some (some (.ref f4))) (l4 : K.lookup f4 = some ⟨oc4, od4, .func (PySem.W.fnOf "is_row" "is_row" (defArgs s_is_row) (defBody s_is_row) (defScope s_is_row) .none kV4 dc4 pm4 an4 cd4 ct4), sl4⟩) (c4 : PySem.W.codeIn K cd4 "is_row" = true) (k4 : PySem.W.keepIn K (.ref f4) = true)
    (a5 : PySem.W.nsIn K mainGlobals "_law_cell_at" = some (some (.ref f5))) (l5 : K.lookup f5 = some ⟨oc5, od5, .func (PySem.W.fnOf "_law_cell_at" "_law_cell_at" (defArgs sCell) (defBody sCell) (defScope sCell) .none kV5 dc5 pm5 an5 cd5 ct5), sl5⟩) (c5 : PySem.W.codeIn K cd5 "_law_cell_at" = true) (k5 : PySem.W.keepIn K (.ref f5) = true)
    (a6 : PySem.W.nsIn K mainGlobals "_law_box" = some (some (.ref f6))) (l6 : K.lookup f6 = some ⟨oc6, od6, .func (PySem.W.fnOf "_law_box" "_law_box" (defArgs sBox) (defBody sBox) (defScope sBox) .none kV6 dc6 pm6 an6 cd6 ct6), sl6⟩) (c6 : PySem.W.codeIn K cd6 "_law_box" = true) (k6 : PySem.W.keepIn K (.ref f6) = true)
    (a7 : PySem.W.nsIn K mainGlobals "_law_take" = some (some (.ref f7))) (l7 : K.lookup f7 = some ⟨oc7, od7, .func (PySem.W.fnOf "_law_take" "_law_take" (defArgs sTake) (defBody sTake) (defScope sTake) .none kV7 dc7 pm7 an7 cd7 ct7), sl7⟩) (c7 : PySem.W.codeIn K cd7 "_law_take" = true) (k7 : PySem.W.keepIn K (.ref f7) = true)
    (a8 : PySem.W.nsIn K mainGlobals "_law_of" = some (some (.ref f8))) (l8 : K.lookup f8 = some ⟨oc8, od8, .func (PySem.W.fnOf "_law_of" "_law_of" (defArgs sOf) (defBody sOf) (defScope sOf) .none kV8 dc8 pm8 an8 cd8 ct8), sl8⟩) (c8 : PySem.W.codeIn K cd8 "_law_of" = true) (k8 : PySem.W.keepIn K (.ref f8) = true)
    (a9 : PySem.W.nsIn K mainGlobals "_law_same" = some (some (.ref f9))) (l9 : K.lookup f9 = some ⟨oc9, od9, .func (PySem.W.fnOf "_law_same" "_law_same" (defArgs sSame) (defBody sSame) (defScope sSame) .none kV9 dc9 pm9 an9 cd9 ct9), sl9⟩) (c9 : PySem.W.codeIn K cd9 "_law_same" = true) (k9 : PySem.W.keepIn K (.ref f9) = true)
    (a10 : PySem.W.nsIn K mainGlobals "_law_frac" = some (some (.ref f10))) (l10 : K.lookup f10 = some ⟨oc10, od10, .func (PySem.W.fnOf "_law_frac" "_law_frac" (defArgs sFrac) (defBody sFrac) (defScope sFrac) .none kV10 dc10 pm10 an10 cd10 ct10), sl10⟩) (c10 : PySem.W.codeIn K cd10 "_law_frac" = true) (k10 : PySem.W.keepIn K (.ref f10) = true)
    (a11 : PySem.W.nsIn K mainGlobals "_law_pane" = some (some (.ref f11))) (l11 : K.lookup f11 = some ⟨oc11, od11, .func (PySem.W.fnOf "_law_pane" "_law_pane" (defArgs sPane) (defBody sPane) (defScope sPane) .none kV11 dc11 pm11 an11 cd11 ct11), sl11⟩) (c11 : PySem.W.codeIn K cd11 "_law_pane" = true) (k11 : PySem.W.keepIn K (.ref f11) = true)
    (a12 : PySem.W.nsIn K mainGlobals "_law_row" = some (some (.ref f12))) (l12 : K.lookup f12 = some ⟨oc12, od12, .func (PySem.W.fnOf "_law_row" "_law_row" (defArgs sRow) (defBody sRow) (defScope sRow) .none kV12 dc12 pm12 an12 cd12 ct12), sl12⟩) (c12 : PySem.W.codeIn K cd12 "_law_row" = true) (k12 : PySem.W.keepIn K (.ref f12) = true)
    (a13 : PySem.W.nsIn K mainGlobals "_law_is_number" = some (some (.ref f13))) (l13 : K.lookup f13 = some ⟨oc13, od13, .func (PySem.W.fnOf "_law_is_number" "_law_is_number" (defArgs s__law_is_number) (defBody s__law_is_number) (defScope s__law_is_number) .none kV13 dc13 pm13 an13 cd13 ct13), sl13⟩) (c13 : PySem.W.codeIn K cd13 "_law_is_number" = true) (k13 : PySem.W.keepIn K (.ref f13) = true)
    (a14 : PySem.W.nsIn K mainGlobals "_law_is_pane" = some (some (.ref f14))) (l14 : K.lookup f14 = some ⟨oc14, od14, .func (PySem.W.fnOf "_law_is_pane" "_law_is_pane" (defArgs s__law_is_pane) (defBody s__law_is_pane) (defScope s__law_is_pane) .none kV14 dc14 pm14 an14 cd14 ct14), sl14⟩) (c14 : PySem.W.codeIn K cd14 "_law_is_pane" = true) (k14 : PySem.W.keepIn K (.ref f14) = true)
    (a15 : PySem.W.nsIn K mainGlobals "_law_is_row" = some (some (.ref f15))) (l15 : K.lookup f15 = some ⟨oc15, od15, .func (PySem.W.fnOf "_law_is_row" "_law_is_row" (defArgs s__law_is_row) (defBody s__law_is_row) (defScope s__law_is_row) .none kV15 dc15 pm15 an15 cd15 ct15), sl15⟩) (c15 : PySem.W.codeIn K cd15 "_law_is_row" = true) (k15 : PySem.W.keepIn K (.ref f15) = true)
    (a16 : PySem.W.nsIn K mainGlobals "_law_pane_bent" = some (some (.ref f16))) (l16 : K.lookup f16 = some ⟨oc16, od16, .func (PySem.W.fnOf "_law_pane_bent" "_law_pane_bent" (defArgs s__law_pane_bent) (defBody s__law_pane_bent) (defScope s__law_pane_bent) .none kV16 dc16 pm16 an16 cd16 ct16), sl16⟩) (c16 : PySem.W.codeIn K cd16 "_law_pane_bent" = true) (k16 : PySem.W.keepIn K (.ref f16) = true)
    (a17 : PySem.W.nsIn K mainGlobals "_law_bent" = some (some (.ref f17))) (l17 : K.lookup f17 = some ⟨oc17, od17, .func (PySem.W.fnOf "_law_bent" "_law_bent" (defArgs s__law_bent) (defBody s__law_bent) (defScope s__law_bent) .none kV17 dc17 pm17 an17 cd17 ct17), sl17⟩) (c17 : PySem.W.codeIn K cd17 "_law_bent" = true) (k17 : PySem.W.keepIn K (.ref f17) = true)
    (a18 : PySem.W.nsIn K mainGlobals "law" = some (some (.ref f18))) (l18 : K.lookup f18 = some ⟨oc18, od18, .func (PySem.W.fnOf "law" "law" (defArgs s_law) (defBody s_law) (defScope s_law) .none kV18 dc18 pm18 an18 cd18 ct18), sl18⟩) (c18 : PySem.W.codeIn K cd18 "law" = true) (k18 : PySem.W.keepIn K (.ref f18) = true)
    (ga0 : PySem.W.nsIn K mainGlobals "WALLS" = some (some (.ref G0))) (gl0 : K.lookup G0 = some ⟨.type "tuple", go0, .seq #[.int (0) gk0_0, .int (1) gk0_1, .int (-1) gk0_2] gn0, gs0⟩)
    (z0 : PySem.W.nsIn K mainGlobals "abs" = some none)
    (z1 : PySem.W.nsIn K mainGlobals "len" = some none)
    (z2 : PySem.W.nsIn K mainGlobals "int" = some none)
    (z3 : PySem.W.nsIn K mainGlobals "min" = some none)
    (z4 : PySem.W.nsIn K mainGlobals "range" = some none)
    (z5 : PySem.W.nsIn K mainGlobals "tuple" = some none)
    (z6 : PySem.W.nsIn K mainGlobals "zip" = some none)
    (z7 : PySem.W.nsIn K mainGlobals "isinstance" = some none)
    (z8 : PySem.W.nsIn K mainGlobals "dict" = some none)
    (z9 : PySem.W.nsIn K mainGlobals "list" = some none)
    (z10 : PySem.W.nsIn K mainGlobals "all" = some none)
    (z11 : PySem.W.nsIn K mainGlobals "bool" = some none)
    (z12 : PySem.W.nsIn K mainGlobals "str" = some none)
    (z13 : PySem.W.nsIn K mainGlobals "repr" = some none) :
    ∀ (base : Heap) (H : Hp) (s : Shared) (a : Addr) (ns : List Int), ns.length ≤ 63 → Env0 l.prog w K mg base callerA [] s H → SqL K H a (ns.map V.int) →
      codeAny (model l.prog w) callerA (.call (.ref fa) ⟨[.ref a], []⟩) (CR CX0 [] l.prog w H s (fun v _ => v = .bl true) (fun _ _ _ => False)) s := by
  have e := hfa.symm.trans (PySem.W.mg_of X G a18)
  cases e
  have F_is_number := fun_mk (st := s_is_number) l0 c0 k0
  have b_is_number := F_is_number.binds (ps := ["thing"]) fun _ _ _ _ _ _ us hl => match us, hl with | [_], _ => rfl
  have g_is_number := PySem.W.mg_of X G a0
  have F_common_part := fun_mk (st := sCommon) l1 c1 k1
  have b_common_part := F_common_part.binds (ps := ["one", "other"]) fun _ _ _ _ _ _ us hl => match us, hl with | [_, _], _ => rfl
  have g_common_part := PySem.W.mg_of X G a1
  have F_is_fraction := fun_mk (st := s_is_fraction) l2 c2 k2
  have b_is_fraction := F_is_fraction.binds (ps := ["thing"]) fun _ _ _ _ _ _ us hl => match us, hl with | [_], _ => rfl
  have g_is_fraction := PySem.W.mg_of X G a2
  have F_is_pane := fun_mk (st := s_is_pane) l3 c3 k3
  have b_is_pane := F_is_pane.binds (ps := ["thing"]) fun _ _ _ _ _ _ us hl => match us, hl with | [_], _ => rfl
  have g_is_pane := PySem.W.mg_of X G a3
  have F_is_row := fun_mk (st := s_is_row) l4 c4 k4
  have b_is_row := F_is_row.binds (ps := ["thing"]) fun _ _ _ _ _ _ us hl => match us, hl with | [_], _ => rfl
  have g_is_row := PySem.W.mg_of X G a4
  have F__law_cell_at := fun_mk (st := sCell) l5 c5 k5
  have b__law_cell_at := F__law_cell_at.binds (ps := ["_law_script", "_law_k"]) fun _ _ _ _ _ _ us hl => match us, hl with | [_, _], _ => rfl
  have g__law_cell_at := PySem.W.mg_of X G a5
  have F__law_box := fun_mk (st := sBox) l6 c6 k6
  have b__law_box := F__law_box.binds (ps := ["_law_script", "_law_k"]) fun _ _ _ _ _ _ us hl => match us, hl with | [_, _], _ => rfl
  have g__law_box := PySem.W.mg_of X G a6
  have F__law_take := fun_mk (st := sTake) l7 c7 k7
  have b__law_take := F__law_take.binds (ps := ["_law_box_here", "_law_size"]) fun _ _ _ _ _ _ us hl => match us, hl with | [_, _], _ => rfl
  have g__law_take := PySem.W.mg_of X G a7
  have F__law_of := fun_mk (st := sOf) l8 c8 k8
  have b__law_of := F__law_of.binds (ps := ["_law_box_here", "_law_some"]) fun _ _ _ _ _ _ us hl => match us, hl with | [_, _], _ => rfl
  have g__law_of := PySem.W.mg_of X G a8
  have F__law_same := fun_mk (st := sSame) l9 c9 k9
  have b__law_same := F__law_same.binds (ps := ["_law_found", "_law_due"]) fun _ _ _ _ _ _ us hl => match us, hl with | [_, _], _ => rfl
  have g__law_same := PySem.W.mg_of X G a9
  have F__law_frac := fun_mk (st := sFrac) l10 c10 k10
  have b__law_frac := F__law_frac.binds (ps := ["_law_top", "_law_under"]) fun _ _ _ _ _ _ us hl => match us, hl with | [_, _], _ => rfl
  have g__law_frac := PySem.W.mg_of X G a10
  have F__law_pane := fun_mk (st := sPane) l11 c11 k11
  have b__law_pane := F__law_pane.binds (ps := ["_law_box_here"]) fun _ _ _ _ _ _ us hl => match us, hl with | [_], _ => rfl
  have g__law_pane := PySem.W.mg_of X G a11
  have F__law_row := fun_mk (st := sRow) l12 c12 k12
  have b__law_row := F__law_row.binds (ps := ["_law_box_here", "_law_most"]) fun _ _ _ _ _ _ us hl => match us, hl with | [_, _], _ => rfl
  have g__law_row := PySem.W.mg_of X G a12
  have F__law_is_number := fun_mk (st := s__law_is_number) l13 c13 k13
  have b__law_is_number := F__law_is_number.binds (ps := ["_law_matter"]) fun _ _ _ _ _ _ us hl => match us, hl with | [_], _ => rfl
  have g__law_is_number := PySem.W.mg_of X G a13
  have F__law_is_pane := fun_mk (st := s__law_is_pane) l14 c14 k14
  have b__law_is_pane := F__law_is_pane.binds (ps := ["_law_matter"]) fun _ _ _ _ _ _ us hl => match us, hl with | [_], _ => rfl
  have g__law_is_pane := PySem.W.mg_of X G a14
  have F__law_is_row := fun_mk (st := s__law_is_row) l15 c15 k15
  have b__law_is_row := F__law_is_row.binds (ps := ["_law_matter"]) fun _ _ _ _ _ _ us hl => match us, hl with | [_], _ => rfl
  have g__law_is_row := PySem.W.mg_of X G a15
  have F__law_pane_bent := fun_mk (st := s__law_pane_bent) l16 c16 k16
  have b__law_pane_bent := F__law_pane_bent.binds (ps := ["_law_box_here", "_law_pane_here"]) fun _ _ _ _ _ _ us hl => match us, hl with | [_, _], _ => rfl
  have g__law_pane_bent := PySem.W.mg_of X G a16
  have F__law_bent := fun_mk (st := s__law_bent) l17 c17 k17
  have b__law_bent := F__law_bent.binds (ps := ["_law_box_here", "_law_matter"]) fun _ _ _ _ _ _ us hl => match us, hl with | [_, _], _ => rfl
  have g__law_bent := PySem.W.mg_of X G a17
  have F_law := fun_mk (st := s_law) l18 c18 k18
  have b_law := F_law.binds (ps := ["_law_script"]) fun _ _ _ _ _ _ us hl => match us, hl with | [_], _ => rfl
  have g_law := PySem.W.mg_of X G a18
  have g_WALLS := PySem.W.mg_of X G ga0
  have m_abs := PySem.W.mg_none_of X G z0
  have m_len := PySem.W.mg_none_of X G z1
  have m_int := PySem.W.mg_none_of X G z2
  have m_min := PySem.W.mg_none_of X G z3
  have m_range := PySem.W.mg_none_of X G z4
  have m_tuple := PySem.W.mg_none_of X G z5
  have m_zip := PySem.W.mg_none_of X G z6
  have m_isinstance := PySem.W.mg_none_of X G z7
  have m_dict := PySem.W.mg_none_of X G z8
  have m_list := PySem.W.mg_none_of X G z9
  have m_all := PySem.W.mg_none_of X G z10
  have m_bool := PySem.W.mg_none_of X G z11
  have m_str := PySem.W.mg_none_of X G z12
  have m_repr := PySem.W.mg_none_of X G z13
  intro base H s a ns hl e0 hS
  have hbind : BindsTo s (PySem.W.fnOf "law" "law" (defArgs s_law) (defBody s_law) (defScope s_law) .none kV18 dc18 pm18 an18 cd18 ct18) ⟨[.ref a], []⟩ (List.zip (["_law_script"] : List Str) ([.ref a] : List Value)) := .of_eq (fd := PySem.W.fnOf "law" "law" (defArgs s_law) (defBody s_law) (defScope s_law) .none kV18 dc18 pm18 an18 cd18 ct18) rfl
  have T : FreesA mg := ⟨m_len, m_abs, m_isinstance, m_int, m_bool, m_tuple, m_list, m_all, m_range, m_min, m_repr⟩
  have dW : ∀ H : Hp, SqT K H G0 [.int 0, .int 1, .int (-1)] := fun H => .inr ⟨_, _, _, gl0, rfl, rfl, (by decide : 3 ≤ sizeLine), .cons ⟨_, rfl⟩ (.cons ⟨_, rfl⟩ (.cons ⟨_, rfl⟩ .nil))⟩
  have Gnum : FnOk l.prog w K mg base CX0 1 _ _ _ (spData isNumB K) := ok_isnum F_is_number T
  have Gcom : FnOk l.prog w K mg base CX0 1 _ _ _ spCommon := ok_common F_common_part m_abs
  have Gfr : FnOk l.prog w K mg base CX0 2 _ _ _ (spData isFracB K) := ok_isfrac F_is_fraction T ⟨F_is_number.kp, Gnum, b_is_number, g_is_number⟩ ⟨F_common_part.kp, Gcom, b_common_part, g_common_part⟩
  have Gpa : FnOk l.prog w K mg base CX0 3 _ _ _ (spData isPaneB K) := ok_ispane F_is_pane T ⟨F_is_fraction.kp, Gfr, b_is_fraction, g_is_fraction⟩
  have Gro : FnOk l.prog w K mg base CX0 4 _ _ _ (spData isRowB K) := ok_isrow F_is_row T ⟨F_is_number.kp, Gnum.mono (by decide), b_is_number, g_is_number⟩ ⟨F_is_pane.kp, Gpa, b_is_pane, g_is_pane⟩ g_WALLS dW
  have Gtake : FnOk l.prog w K mg base CX0 3 _ _ _ spTake := ok_take F__law_take
  have Gof : FnOk l.prog w K mg base CX0 3 _ _ _ (spOf K) := ok_of F__law_of F__law_take b__law_take g__law_take m_len
  have Gbox : FnOk l.prog w K mg base CX0 3 _ _ _ (spBox K) := ok_box F__law_box F__law_cell_at b__law_cell_at g__law_cell_at m_len m_abs m_int
  have Gpane : FnOk l.prog w K mg base CX0 3 _ _ _ (spPane K) := ok_pane F__law_pane F__law_take b__law_take g__law_take F__law_of b__law_of g__law_of F__law_frac b__law_frac g__law_frac m_len m_abs
  have Grow := ok_row F__law_row F__law_take.kp Gtake b__law_take g__law_take F__law_of.kp Gof b__law_of g__law_of F__law_pane.kp Gpane b__law_pane g__law_pane m_range m_tuple
  have Gsame : FnOk l.prog w K mg base CX0 6 _ _ _ (spSame K 6) := ok_same F__law_same b__law_same g__law_same m_isinstance m_dict m_list m_tuple m_len m_all m_zip m_bool m_str m_int 6
  have Gfrac : FnOk l.prog w K mg base CX0 1 _ _ _ (spFrac K) := ok_frac F__law_frac m_abs
  have Gln : FnOk l.prog w K mg base CX0 1 _ _ _ (spData isNumB K) := ok_lisnum F__law_is_number T
  have Glp : FnOk l.prog w K mg base CX0 2 _ _ _ (spData isPaneB K) := ok_lispane F__law_is_pane T ⟨F__law_is_number.kp, Gln, b__law_is_number, g__law_is_number⟩ ⟨F__law_frac.kp, Gfrac, b__law_frac, g__law_frac⟩
  have Glr : FnOk l.prog w K mg base CX0 3 _ _ _ (spData isRowB K) := ok_lisrow F__law_is_row T ⟨F__law_is_number.kp, Gln.mono (by decide), b__law_is_number, g__law_is_number⟩ ⟨F__law_is_pane.kp, Glp, b__law_is_pane, g__law_is_pane⟩
  have Gpb : FnOk l.prog w K mg base CX0 4 _ _ _ (spPB K) := ok_pbent F__law_pane_bent T ⟨F__law_is_number.kp, Gln.mono (by decide), b__law_is_number, g__law_is_number⟩ ⟨F__law_of.kp, Gof, b__law_of, g__law_of⟩
  have Gbe : FnOk l.prog w K mg base CX0 5 _ _ _ (spBent K) := ok_bent F__law_bent T ⟨F__law_take.kp, Gtake.mono (by decide), b__law_take, g__law_take⟩ ⟨F__law_of.kp, Gof.mono (by decide), b__law_of, g__law_of⟩ ⟨F__law_pane_bent.kp, Gpb, b__law_pane_bent, g__law_pane_bent⟩
  have kbR := Ep.Fun.kb F_is_row (ps := ["thing"]) 0 ["thing"] (fun us ws => us ++ ws) (fun r1 r2 => r1.append r2) (fun kV doc pm an cdv ct us ws h1 h2 => match us, h1, ws, h2 with | [], _, [_], _ => rfl)
  refine fn_at (k := 9) (sp := spLaw K) (vs := [V.ref a]) F_law sc_law (fun vs H Q E h => by obtain ⟨a, ns, rfl, _⟩ := h; rfl) (fun cdv outer s H vs Q E hr h => ?_) ⟨rfl, by decide, by decide⟩ e0 hbind (.cons (show RelV (V.ref a) (Value.ref a) from rfl) .nil) ⟨a, ns, rfl, hS, hl, fun _ => rfl⟩
  exact law_at (k := 9) F_law T ⟨F__law_box.kp, Gbox.mono (by decide), b__law_box, g__law_box⟩ ⟨F__law_row.kp, Grow.mono (by decide), b__law_row, g__law_row⟩ ⟨F__law_take.kp, Gtake.mono (by decide), b__law_take, g__law_take⟩ ⟨F__law_bent.kp, Gbe.mono (by decide), b__law_bent, g__law_bent⟩ ⟨F_is_row.kp, Gro.mono (by decide), b_is_row, g_is_row⟩ kbR ⟨F__law_is_row.kp, Glr.mono (by decide), b__law_is_row, g__law_is_row⟩ ⟨F__law_same.kp, Gsame.mono (by decide), b__law_same, g__law_same⟩ (fun _ => by show 4 + 3 + 1002 < 9900; decide) cdv outer s H vs Q E hr h
end Ep
open PySem PySem.W PyProof.Rows
set_option maxHeartbeats 0 in
theorem PySem.Challenge.cw_echopanes_k01_what_is_a_row_holds : PySem.Challenge.rw_echopanes_k01_what_is_a_row.Holds := by
  w_on; o_law; k_head; (case hw => w_witness2)
  k_fill
  refine Ep.walk_here (l := PySem.Challenge.rw_echopanes_k01_what_is_a_row) (n := 63) (k := 10) rfl (by decide) rfl ⟨rfl, by decide, by decide⟩ (fun w h Y => PySem.W.kIn_of Y) ?F
  case F =>
    intro w mg fa h KX G hmg
    refine' Ep.all_mk KX G hmg ?a0 ?l0 ?c0 ?k0 ?a1 ?l1 ?c1 ?k1 ?a2 ?l2 ?c2 ?k2 ?a3 ?l3 ?c3 ?k3 ?a4 ?l4 ?c4 ?k4 ?a5 ?l5 ?c5 ?k5 ?a6 ?l6 ?c6 ?k6 ?a7 ?l7 ?c7 ?k7 ?a8 ?l8 ?c8 ?k8 ?a9 ?l9 ?c9 ?k9 ?a10 ?l10 ?c10 ?k10 ?a11 ?l11 ?c11 ?k11 ?a12 ?l12 ?c12 ?k12 ?a13 ?l13 ?c13 ?k13 ?a14 ?l14 ?c14 ?k14 ?a15 ?l15 ?c15 ?k15 ?a16 ?l16 ?c16 ?k16 ?a17 ?l17 ?c17 ?k17 ?a18 ?l18 ?c18 ?k18 ?ga0 ?gl0 ?z0 ?z1 ?z2 ?z3 ?z4 ?z5 ?z6 ?z7 ?z8 ?z9 ?z10 ?z11 ?z12 ?z13
    (case a0 => k_is); (case l0 => k_is); (case c0 => k_is); (case k0 => k_is); (case a1 => k_is); (case l1 => k_is); (case c1 => k_is); (case k1 => k_is); (case a2 => k_is); (case l2 => k_is); (case c2 => k_is); (case k2 => k_is); (case a3 => k_is); (case l3 => k_is); (case c3 => k_is); (case k3 => k_is); (case a4 => k_is); (case l4 => k_is); (case c4 => k_is); (case k4 => k_is); (case a5 => k_is); (case l5 => k_is); (case c5 => k_is); (case k5 => k_is); (case a6 => k_is); (case l6 => k_is); (case c6 => k_is); (case k6 => k_is); (case a7 => k_is); (case l7 => k_is); (case c7 => k_is); (case k7 => k_is); (case a8 => k_is); (case l8 => k_is); (case c8 => k_is); (case k8 => k_is); (case a9 => k_is); (case l9 => k_is); (case c9 => k_is); (case k9 => k_is); (case a10 => k_is); (case l10 => k_is); (case c10 => k_is); (case k10 => k_is); (case a11 => k_is); (case l11 => k_is); (case c11 => k_is); (case k11 => k_is); (case a12 => k_is); (case l12 => k_is); (case c12 => k_is); (case k12 => k_is); (case a13 => k_is); (case l13 => k_is); (case c13 => k_is); (case k13 => k_is); (case a14 => k_is); (case l14 => k_is); (case c14 => k_is); (case k14 => k_is); (case a15 => k_is); (case l15 => k_is); (case c15 => k_is); (case k15 => k_is); (case a16 => k_is); (case l16 => k_is); (case c16 => k_is); (case k16 => k_is); (case a17 => k_is); (case l17 => k_is); (case c17 => k_is); (case k17 => k_is); (case a18 => k_is); (case l18 => k_is); (case c18 => k_is); (case k18 => k_is); (case ga0 => k_is); (case gl0 => k_is); (case z0 => k_is); (case z1 => k_is); (case z2 => k_is); (case z3 => k_is); (case z4 => k_is); (case z5 => k_is); (case z6 => k_is); (case z7 => k_is); (case z8 => k_is); (case z9 => k_is); (case z10 => k_is); (case z11 => k_is); (case z12 => k_is); (case z13 => k_is)
