import PyProof.Rows.All
import Wide.All
import OpenK.AllK
import Wide.FinOn
import HandS.Words
import HandS.List
import HandS.Comp
import HandS.WordsList
import HandS.Wide
import HandS.IsInst
import HandS.Zip
import HandS.Walk
import HandS.TupAny
import HandS.TupMul
import HandS.Defaults
import HandS.Rev
import HandS.Style
import HandS.Flow
import HandS.TryOnly
import PySem.Challenge.RW_echopanes_k08_a_pane_met
set_option Elab.async false
set_option linter.all false
set_option maxRecDepth 100000
set_option maxHeartbeats 4000000
namespace Ep
/-! the mathematics of FRACTIONs -/
theorem gcd_pos {t u : Int} (h : 0 < u) : 0 < Int.gcd t u := Int.gcd_pos_of_ne_zero_right t (by omega)
theorem fr_num {t u : Int} (h : 0 < u) : (Rat.divInt t u).num = t / (Int.gcd t u : Int) := by
  rw [Rat.num_divInt, Int.sign_eq_one_of_pos h, Int.one_mul, Int.gcd_comm]
theorem fr_den {t u : Int} (h : 0 < u) : ((Rat.divInt t u).den : Int) = u / (Int.gcd t u : Int) := by
  rw [Rat.den_divInt, if_neg (by omega), Int.gcd_comm]
  have e : (u.natAbs : Int) = u := by omega
  rw [Int.natCast_ediv, e]
theorem gcd_fmod (a b : Int) (h : b ≠ 0) : Int.gcd b (a.fmod b) = Int.gcd a b := by
  have e : a.fmod b = a - b * (a.fdiv b) := by
    have := Int.mul_fdiv_add_fmod a b
    omega
  rw [e, Int.gcd_comm a b, Int.gcd_sub_mul_left_right]
theorem gcd_emod (a b : Int) (h : b ≠ 0) : Int.gcd b (a % b) = Int.gcd a b := by
  rw [Int.emod_def, Int.gcd_comm a b, Int.gcd_sub_mul_left_right]
/-- numbers of at most b bits -/
def Sz (b : Nat) (q : Rat) : Prop := q.num.natAbs < 2 ^ b ∧ q.den < 2 ^ b
theorem Sz.mono {a b : Nat} {q : Rat} (h : Sz a q) (l : a ≤ b) : Sz b q :=
  ⟨Nat.lt_of_lt_of_le h.1 (Nat.pow_le_pow_right (by decide) l), Nat.lt_of_lt_of_le h.2 (Nat.pow_le_pow_right (by decide) l)⟩
theorem sz_fr {t u : Int} {b : Nat} (h : 0 < u) (ht : t.natAbs < 2 ^ b) (hu : u.natAbs < 2 ^ b) : Sz b (Rat.divInt t u) := by
  have g := gcd_pos (t := t) h
  constructor
  · rw [fr_num h]
    have : (t / (Int.gcd t u : Int)).natAbs ≤ t.natAbs := by
      rw [Int.natAbs_ediv_of_dvd (Int.gcd_dvd_left ..)]
      exact Nat.div_le_self _ _
    omega
  · have e := fr_den (t := t) h
    have : (u / (Int.gcd t u : Int)).natAbs ≤ u.natAbs := by
      rw [Int.natAbs_ediv_of_dvd (Int.gcd_dvd_right ..)]
      exact Nat.div_le_self _ _
    omega
theorem den_pos (q : Rat) : (0 : Int) < (q.den : Int) := by
  have := q.den_nz
  omega
theorem q_add (q r : Rat) : Rat.divInt (q.num * r.den + r.num * q.den) (q.den * r.den) = q + r := by
  rw [Rat.add_def', ← Rat.divInt_ofNat]; rfl
theorem q_sub (q r : Rat) : Rat.divInt (q.num * r.den - r.num * q.den) (q.den * r.den) = q - r := by
  rw [Rat.sub_def', ← Rat.divInt_ofNat]; rfl
theorem q_mul (q r : Rat) : Rat.divInt (q.num * r.num) (q.den * r.den) = q * r := by
  rw [Rat.mul_def', ← Rat.divInt_ofNat]; rfl
theorem q_div (q r : Rat) : Rat.divInt (q.num * r.den) (q.den * r.num) = q / r := by
  rw [Rat.div_def, Rat.inv_def]
  conv => rhs; rw [← Rat.num_divInt_den q]
  rw [Rat.divInt_mul_divInt]
theorem dd_pos (q r : Rat) : (0 : Int) < (q.den : Int) * (r.den : Int) := Int.mul_pos (den_pos q) (den_pos r)
theorem dn_pos (q r : Rat) (h : 0 < r) : (0 : Int) < (q.den : Int) * r.num := Int.mul_pos (den_pos q) (by
  have := Rat.num_nonneg (q := r)
  have h1 : 0 ≤ r.num := this.mpr (Rat.le_of_lt h)
  have h2 : r.num ≠ 0 := fun e => by
    rw [Rat.num_eq_zero] at e
    rw [e] at h
    exact Rat.lt_irrefl h
  omega)
theorem m_lt {i j : Int} {a b : Nat} (ha : i.natAbs < 2 ^ a) (hb : j.natAbs < 2 ^ b) : (i * j).natAbs < 2 ^ (a + b) := by
  rw [Int.natAbs_mul, Nat.pow_add]
  exact Nat.mul_lt_mul'' ha hb
theorem Sz.den {b : Nat} {q : Rat} (h : Sz b q) : (q.den : Int).natAbs < 2 ^ b := by
  have := h.2
  omega
theorem a_lt {i j : Int} {c : Nat} (ha : i.natAbs < 2 ^ c) (hb : j.natAbs < 2 ^ c) : (i + j).natAbs < 2 ^ (c + 1) := by
  have : (i + j).natAbs ≤ i.natAbs + j.natAbs := Int.natAbs_add_le i j
  rw [Nat.pow_succ]
  omega
theorem s_lt {i j : Int} {c : Nat} (ha : i.natAbs < 2 ^ c) (hb : j.natAbs < 2 ^ c) : (i - j).natAbs < 2 ^ (c + 1) := by
  have : (i - j).natAbs ≤ i.natAbs + j.natAbs := Int.natAbs_sub_le i j
  rw [Nat.pow_succ]
  omega
theorem up_lt {n : Nat} {a b : Nat} (h : n < 2 ^ a) (l : a ≤ b) : n < 2 ^ b := Nat.lt_of_lt_of_le h (Nat.pow_le_pow_right (by decide) l)
section
variable {q r : Rat} {a b : Nat} (hq : Sz a q) (hr : Sz b r)
include hq hr
theorem sz_add_t : (q.num * r.den + r.num * q.den).natAbs < 2 ^ (a + b + 1) := a_lt (m_lt hq.1 hr.den) (by rw [Nat.add_comm a b]; exact m_lt hr.1 hq.den)
theorem sz_sub_t : (q.num * r.den - r.num * q.den).natAbs < 2 ^ (a + b + 1) := s_lt (m_lt hq.1 hr.den) (by rw [Nat.add_comm a b]; exact m_lt hr.1 hq.den)
theorem sz_dd : ((q.den : Int) * (r.den : Int)).natAbs < 2 ^ (a + b) := m_lt hq.den hr.den
theorem sz_add : Sz (a + b + 1) (q + r) := by
  rw [← q_add]
  exact sz_fr (dd_pos q r) (sz_add_t hq hr) (up_lt (sz_dd hq hr) (by omega))
theorem sz_sub : Sz (a + b + 1) (q - r) := by
  rw [← q_sub]
  exact sz_fr (dd_pos q r) (sz_sub_t hq hr) (up_lt (sz_dd hq hr) (by omega))
theorem sz_mul : Sz (a + b) (q * r) := by
  rw [← q_mul]
  exact sz_fr (dd_pos q r) (m_lt hq.1 hr.1) (sz_dd hq hr)
theorem sz_div (p : 0 < r) : Sz (a + b) (q / r) := by
  rw [← q_div]
  exact sz_fr (dn_pos q r p) (m_lt hq.1 hr.den) (m_lt hq.den hr.1)
end
theorem gcd_self (q : Rat) : Int.gcd q.num (q.den : Int) = 1 := by
  have := q.reduced
  unfold Nat.Coprime at this
  unfold Int.gcd
  simpa using this
/-! the laws' own identities -/
example (r : Rat) (h : 1 + r ≠ 0) : (1 - r) / (1 + r) = 1 / (1+r) - r / (1 + r) := by grind
theorem share_of {w r : Rat} (h : 1 + r ≠ 0) : w * ((1 - r) / (1 + r)) = w * (1 - r) / (1 + r) := by grind
theorem back_pane {a b : Rat} (ha : 0 < a) (hb : 0 < b) : a * ((1 - (a - b) / (a + b)) / (1 + (a - b) / (a + b))) = b := by
  have h : a + b ≠ 0 := by grind
  have h2 : 1 + (a - b) / (a + b) = 2 * a / (a + b) := by grind
  have h3 : 1 - (a - b) / (a + b) = 2 * b / (a + b) := by grind
  rw [h2, h3]
  grind
theorem back_room {w r : Rat} (hw : 0 < w) (h1 : r < 1) (h2 : -1 < r) : (w - w * ((1 - r) / (1 + r))) / (w + w * ((1 - r) / (1 + r))) = r := by
  have h : 1 + r ≠ 0 := by grind
  have e1 : w - w * ((1 - r) / (1 + r)) = 2 * w * r / (1 + r) := by grind
  have e2 : w + w * ((1 - r) / (1 + r)) = 2 * w / (1 + r) := by grind
  rw [e1, e2]
  grind
/-! rooms and panes -/
def shareQ (r : Rat) : Rat := (1 - r) / (1 + r)
def lastQ : Rat → List Rat → Rat
  | w, [] => w
  | w, r :: rs => lastQ (w * shareQ r) rs
def roomsQ : Rat → List Rat → List Rat
  | w, [] => [w]
  | w, r :: rs => w :: roomsQ (w * shareQ r) rs
def panesQ : List Rat → List Rat
  | a :: b :: r => ((a - b) / (a + b)) :: panesQ (b :: r)
  | _ => []
theorem lastQ_snoc (r : Rat) : ∀ (qs : List Rat) (w : Rat), lastQ w (qs ++ [r]) = lastQ w qs * shareQ r
  | [], w => rfl
  | q :: qs, w => lastQ_snoc r qs (w * shareQ q)
theorem roomsQ_snoc (r : Rat) : ∀ (qs : List Rat) (w : Rat), roomsQ w (qs ++ [r]) = roomsQ w qs ++ [lastQ w qs * shareQ r]
  | [], w => rfl
  | q :: qs, w => by
    show w :: roomsQ (w * shareQ q) (qs ++ [r]) = w :: (roomsQ (w * shareQ q) qs ++ [lastQ (w * shareQ q) qs * shareQ r])
    rw [roomsQ_snoc r qs]
theorem roomsQ_len : ∀ (qs : List Rat) (w : Rat), (roomsQ w qs).length = qs.length + 1
  | [], w => rfl
  | q :: qs, w => congrArg Nat.succ (roomsQ_len qs _)
theorem panesQ_len : ∀ ws : List Rat, (panesQ ws).length = ws.length - 1
  | [] => rfl
  | [_] => rfl
  | a :: b :: r => by
    show (panesQ (b :: r)).length + 1 = (b :: r).length + 1 - 1
    rw [panesQ_len (b :: r)]
    simp
theorem panesQ_get : ∀ (ws : List Rat) (i : Nat) (x y : Rat), ws[i]? = some x → ws[i + 1]? = some y → (panesQ ws)[i]? = some ((x - y) / (x + y))
  | [], _, _, _, h, _ => by simp at h
  | [_], 0, _, _, _, h => by simp at h
  | [_], i + 1, _, _, h, _ => by simp at h
  | a :: b :: r, 0, x, y, h, h2 => by
    have e1 : a = x := Option.some.inj h
    have e2 : b = y := Option.some.inj h2
    rw [← e1, ← e2]
    rfl
  | a :: b :: r, i + 1, x, y, h, h2 => panesQ_get (b :: r) i x y h h2
/-- a pane of at most c bits -/
structure PaneZ (c : Nat) (q : Rat) : Prop where
  lo : -1 < q
  hi : q < 1
  sz : Sz c q
theorem PaneZ.p1 {c : Nat} {q : Rat} (h : PaneZ c q) : 0 < 1 + q := by
  have := h.lo
  grind
theorem PaneZ.m1 {c : Nat} {q : Rat} (h : PaneZ c q) : 0 < 1 - q := by
  have := h.hi
  grind
theorem sz_one : Sz 1 1 := ⟨by decide, by decide⟩
theorem PaneZ.sp {c : Nat} {q : Rat} (h : PaneZ c q) : Sz (c + 2) (1 + q) := (sz_add sz_one h.sz).mono (by omega)
theorem PaneZ.sm {c : Nat} {q : Rat} (h : PaneZ c q) : Sz (c + 2) (1 - q) := (sz_sub sz_one h.sz).mono (by omega)
theorem div_pos {a b : Rat} (ha : 0 < a) (hb : 0 < b) : 0 < a / b := by
  rw [Rat.div_def]
  exact Rat.mul_pos ha (Rat.inv_pos.mpr hb)
theorem PaneZ.share {c : Nat} {q : Rat} (h : PaneZ c q) : 0 < shareQ q ∧ Sz (2 * c + 4) (shareQ q) :=
  ⟨div_pos h.m1 h.p1, (sz_div h.sm h.sp h.p1).mono (by omega)⟩
theorem lastQ_ok {c : Nat} : ∀ (qs : List Rat) (w : Rat) (b : Nat), 0 < w → Sz b w → (∀ q ∈ qs, PaneZ c q) → 0 < lastQ w qs ∧ Sz (b + (2 * c + 4) * qs.length) (lastQ w qs)
  | [], w, b, h, z, _ => ⟨h, z⟩
  | q :: qs, w, b, h, z, hp => by
    have p := (hp q (List.mem_cons_self ..)).share
    have r := lastQ_ok qs (w * shareQ q) (b + (2 * c + 4)) (Rat.mul_pos h p.1) (sz_mul z p.2) (fun x hx => hp x (List.mem_cons_of_mem _ hx))
    refine ⟨r.1, r.2.mono ?_⟩
    rw [List.length_cons, Nat.mul_add]
    omega
theorem roomsQ_ok {c : Nat} : ∀ (qs : List Rat) (w : Rat) (b : Nat), 0 < w → Sz b w → (∀ q ∈ qs, PaneZ c q) → ∀ x ∈ roomsQ w qs, 0 < x ∧ Sz (b + (2 * c + 4) * qs.length) x
  | [], w, b, h, z, _, x, hx => by
    rw [List.mem_singleton.mp hx]
    exact ⟨h, z⟩
  | q :: qs, w, b, h, z, hp, x, hx => by
    rcases List.mem_cons.mp hx with rfl | hx
    · exact ⟨h, z.mono (by omega)⟩
    · have p := (hp q (List.mem_cons_self ..)).share
      have r := roomsQ_ok qs (w * shareQ q) (b + (2 * c + 4)) (Rat.mul_pos h p.1) (sz_mul z p.2) (fun x hx => hp x (List.mem_cons_of_mem _ hx)) x hx
      refine ⟨r.1, r.2.mono ?_⟩
      rw [List.length_cons, Nat.mul_add]
      omega
theorem panes_rooms {c : Nat} : ∀ (qs : List Rat) (w : Rat), 0 < w → (∀ q ∈ qs, PaneZ c q) → panesQ (roomsQ w qs) = qs
  | [], w, _, _ => rfl
  | [q], w, h, hp => by
    have p := hp q (List.mem_cons_self ..)
    show [(w - w * shareQ q) / (w + w * shareQ q)] = [q]
    unfold shareQ
    rw [back_room h p.hi p.lo]
  | q :: q2 :: qs, w, h, hp => by
    have p := hp q (List.mem_cons_self ..)
    have ih := panes_rooms (q2 :: qs) (w * shareQ q) (Rat.mul_pos h p.share.1) (fun x hx => hp x (List.mem_cons_of_mem _ hx))
    show ((w - w * shareQ q) / (w + w * shareQ q)) :: panesQ (roomsQ (w * shareQ q) (q2 :: qs)) = q :: q2 :: qs
    rw [ih]
    congr 1
    unfold shareQ
    exact back_room h p.hi p.lo
theorem rooms_panes : ∀ (w : Rat) (ws : List Rat), (∀ x ∈ w :: ws, 0 < x) → roomsQ w (panesQ (w :: ws)) = w :: ws
  | w, [], _ => rfl
  | w, v :: ws, hp => by
    have h1 := hp w (List.mem_cons_self ..)
    have h2 := hp v (List.mem_cons_of_mem _ (List.mem_cons_self ..))
    have ih := rooms_panes v ws (fun x hx => hp x (List.mem_cons_of_mem _ hx))
    show w :: roomsQ (w * shareQ ((w - v) / (w + v))) (panesQ (v :: ws)) = w :: v :: ws
    unfold shareQ
    rw [back_pane h1 h2, ih]
theorem panesQ_scale (k : Rat) (hk : 0 < k) : ∀ ws : List Rat, (∀ x ∈ ws, 0 < x) → panesQ (ws.map (k * ·)) = panesQ ws
  | [], _ => rfl
  | [_], _ => rfl
  | a :: b :: r, hp => by
    have h1 := hp a (List.mem_cons_self ..)
    have h2 := hp b (List.mem_cons_of_mem _ (List.mem_cons_self ..))
    have ih := panesQ_scale k hk (b :: r) (fun x hx => hp x (List.mem_cons_of_mem _ hx))
    show ((k * a - k * b) / (k * a + k * b)) :: panesQ ((b :: r).map (k * ·)) = ((a - b) / (a + b)) :: panesQ (b :: r)
    rw [ih]
    congr 1
    have : a + b ≠ 0 := by grind
    have e1 : k * a - k * b = k * (a - b) := by grind
    have e2 : k * a + k * b = k * (a + b) := by grind
    rw [e1, e2]
    grind
theorem pane_two {a b : Rat} {c : Nat} (ha : 0 < a) (hb : 0 < b) (za : Sz c a) (zb : Sz c b) : PaneZ (4 * c + 2) ((a - b) / (a + b)) := by
  have hs : 0 < a + b := by grind
  refine ⟨?_, ?_, (sz_div (sz_sub za zb) (sz_add za zb) hs).mono (by omega)⟩
  · rw [Rat.lt_div_iff hs]
    grind
  · rw [Rat.div_lt_iff hs]
    grind
theorem panesQ_ok {c : Nat} : ∀ ws : List Rat, (∀ x ∈ ws, 0 < x ∧ Sz c x) → ∀ q ∈ panesQ ws, PaneZ (4 * c + 2) q
  | [], _, q, h => by cases h
  | [_], _, q, h => by cases h
  | a :: b :: r, hp, q, h => by
    have h1 := hp a (List.mem_cons_self ..)
    have h2 := hp b (List.mem_cons_of_mem _ (List.mem_cons_self ..))
    rcases List.mem_cons.mp h with rfl | h
    · exact pane_two h1.1 h2.1 h1.2 h2.2
    · exact panesQ_ok (b :: r) (fun x hx => hp x (List.mem_cons_of_mem _ hx)) q h
/-! rows trimmed, turned about -/
def trimL : List Rat → List Rat
  | [] => []
  | q :: qs => if q = 0 ∧ trimL qs = [] then [] else q :: trimL qs
theorem trimL_zeros : ∀ qs : List Rat, (∀ q ∈ qs, q = 0) → trimL qs = []
  | [], _ => rfl
  | q :: qs, h => by
    unfold trimL
    rw [if_pos ⟨h q (List.mem_cons_self ..), trimL_zeros qs (fun x hx => h x (List.mem_cons_of_mem _ hx))⟩]
theorem trimL_app : ∀ (xs ys : List Rat), (∀ q ∈ ys, q = 0) → trimL (xs ++ ys) = trimL xs
  | [], ys, h => trimL_zeros ys h
  | x :: xs, ys, h => by
    show (if x = 0 ∧ trimL (xs ++ ys) = [] then [] else x :: trimL (xs ++ ys)) = if x = 0 ∧ trimL xs = [] then [] else x :: trimL xs
    rw [trimL_app xs ys h]
theorem trimL_last : ∀ (xs : List Rat) (q : Rat), q ≠ 0 → trimL (xs ++ [q]) = xs ++ [q]
  | [], q, h => by
    show (if q = 0 ∧ trimL [] = [] then [] else q :: trimL []) = [q]
    rw [if_neg (fun z => h z.1)]
    rfl
  | x :: xs, q, h => by
    show (if x = 0 ∧ trimL (xs ++ [q]) = [] then [] else x :: trimL (xs ++ [q])) = x :: (xs ++ [q])
    rw [trimL_last xs q h, if_neg (fun z => by simp at z)]
/-- where all behind the m-th are 0, and the m-th isn't -/
theorem trimL_take {qs : List Rat} {m : Nat} (hm : m ≤ qs.length) (h0 : ∀ q ∈ qs.drop m, q = 0) (h1 : m = 0 ∨ ∃ q, qs[m - 1]? = some q ∧ q ≠ 0) : trimL qs = qs.take m := by
  have e : qs = qs.take m ++ qs.drop m := (List.take_append_drop m qs).symm
  conv => lhs; rw [e]
  rw [trimL_app _ _ h0]
  rcases h1 with rfl | ⟨q, hq, hn⟩
  · rfl
  · cases m with
    | zero => rfl
    | succ m =>
      have hq' : qs[m]? = some q := hq
      rw [List.take_add_one, hq']
      exact trimL_last _ q hn
def trimR (qs : List Rat) (x : Int) : List Rat := if x = 0 then trimL qs else qs
def mirQ (qs : List Rat) : List Rat := (qs.map (fun q => -q)).reverse
theorem mir_len (qs : List Rat) : (mirQ qs).length = qs.length := by simp [mirQ]
theorem mir_pane {c : Nat} {qs : List Rat} (h : ∀ q ∈ qs, PaneZ c q) : ∀ q ∈ mirQ qs, PaneZ c q := fun q hq => by
  unfold mirQ at hq
  rw [List.mem_reverse] at hq
  obtain ⟨r, hr, rfl⟩ := List.mem_map.mp hq
  have p := h r hr
  have p1 := p.lo
  have p2 := p.hi
  refine ⟨by grind, by grind, ?_, ?_⟩
  · rw [Rat.neg_num, Int.natAbs_neg]
    exact p.sz.1
  · exact p.sz.2
theorem mir_app (a b : List Rat) : mirQ (a ++ b) = mirQ b ++ mirQ a := by simp [mirQ]
theorem mir_mir (qs : List Rat) : mirQ (mirQ qs) = qs := by
  unfold mirQ
  rw [List.map_reverse, List.reverse_reverse, List.map_map]
  have : ((fun q : Rat => -q) ∘ fun q : Rat => -q) = id := by
    funext q
    show - -q = q
    grind
  rw [this, List.map_id]
/-! rooms of joined rows, turned about, strewn; a room put in -/
theorem roomsQ_last : ∀ (qs : List Rat) (w : Rat), ∃ ls, roomsQ w qs = ls ++ [lastQ w qs] ∧ ls.length = qs.length
  | [], w => ⟨[], rfl, rfl⟩
  | q :: qs, w => by
    obtain ⟨ls, h, l⟩ := roomsQ_last qs (w * shareQ q)
    exact ⟨w :: ls, congrArg (w :: ·) h, congrArg Nat.succ l⟩
theorem rooms_join : ∀ (a : List Rat) (w : Rat) (b ls : List Rat), roomsQ w a = ls ++ [lastQ w a] → roomsQ w (a ++ b) = ls ++ roomsQ (lastQ w a) b
  | [], w, b, ls, h => by
    have e : ls = [] := by
      have := congrArg List.length h
      simp [roomsQ] at this
      exact this
    subst e
    rfl
  | q :: a, w, b, ls, h => by
    cases ls with
    | nil =>
      have := congrArg List.length h
      simp [roomsQ_len] at this
    | cons l ls =>
      have h' : w :: roomsQ (w * shareQ q) a = l :: (ls ++ [lastQ (w * shareQ q) a]) := h
      injection h' with e1 e2
      subst e1
      have ih := rooms_join a (w * shareQ q) b ls e2
      show w :: roomsQ (w * shareQ q) (a ++ b) = w :: (ls ++ roomsQ (lastQ (w * shareQ q) a) b)
      rw [ih]
theorem lastQ_app : ∀ (a b : List Rat) (w : Rat), lastQ w (a ++ b) = lastQ (lastQ w a) b
  | [], b, w => rfl
  | q :: a, b, w => lastQ_app a b (w * shareQ q)
theorem share_neg {c : Nat} {q : Rat} (h : PaneZ c q) : shareQ q * shareQ (-q) = 1 := by
  have h1 := h.p1
  have h2 := h.m1
  unfold shareQ
  have a1 : 1 + q ≠ 0 := by grind
  have a2 : 1 - q ≠ 0 := by grind
  have e1 : 1 - -q = 1 + q := by grind
  have e2 : 1 + -q = 1 - q := by grind
  rw [e1, e2]
  grind
theorem rooms_mir {c : Nat} : ∀ (qs : List Rat) (w : Rat), (∀ q ∈ qs, PaneZ c q) → roomsQ (lastQ w qs) (mirQ qs) = (roomsQ w qs).reverse ∧ lastQ (lastQ w qs) (mirQ qs) = w
  | [], w, _ => ⟨rfl, rfl⟩
  | q :: qs, w, h => by
    have ih := rooms_mir qs (w * shareQ q) (fun x hx => h x (List.mem_cons_of_mem _ hx))
    have p := share_neg (h q (List.mem_cons_self ..))
    have e : mirQ (q :: qs) = mirQ qs ++ [-q] := by simp [mirQ]
    have e2 : w * shareQ q * shareQ (-q) = w := by
      rw [Rat.mul_assoc, p, Rat.mul_one]
    have el : lastQ w (q :: qs) = lastQ (w * shareQ q) qs := rfl
    rw [e, el]
    constructor
    · rw [roomsQ_snoc, ih.1, ih.2, e2]
      show (roomsQ (w * shareQ q) qs).reverse ++ [w] = (w :: roomsQ (w * shareQ q) qs).reverse
      rw [List.reverse_cons]
    · rw [lastQ_snoc, ih.2, e2]
def prodQ : List Rat → Rat
  | [] => 1
  | q :: qs => shareQ q * prodQ qs
theorem lastQ_prod : ∀ (qs : List Rat) (w : Rat), lastQ w qs = w * prodQ qs
  | [], w => (Rat.mul_one w).symm
  | q :: qs, w => by
    show lastQ (w * shareQ q) qs = w * (shareQ q * prodQ qs)
    rw [lastQ_prod qs, Rat.mul_assoc]
theorem prodQ_perm {a b : List Rat} (h : a.Perm b) : prodQ a = prodQ b := by
  induction h with
  | nil => rfl
  | cons x _ ih =>
    show shareQ x * prodQ _ = shareQ x * prodQ _
    rw [ih]
  | swap x y l =>
    show shareQ y * (shareQ x * prodQ l) = shareQ x * (shareQ y * prodQ l)
    grind
  | trans _ _ i1 i2 => exact i1.trans i2
theorem lastQ_perm {a b : List Rat} (h : a.Perm b) (w : Rat) : lastQ w a = lastQ w b := by
  rw [lastQ_prod, lastQ_prod, prodQ_perm h]
theorem lastQ_over (qs : List Rat) {w : Rat} (h : 0 < w) : lastQ w qs / w = lastQ 1 qs := by
  rw [lastQ_prod, lastQ_prod]
  have : w ≠ 0 := by grind
  grind
theorem rooms_take : ∀ (qs : List Rat) (w : Rat) (m : Nat), m ≤ qs.length → roomsQ w (qs.take m) = (roomsQ w qs).take (m + 1)
  | [], w, m, h => by
    have : m = 0 := by simpa using h
    subst this
    rfl
  | q :: qs, w, 0, h => rfl
  | q :: qs, w, m + 1, h => by
    show w :: roomsQ (w * shareQ q) (qs.take m) = w :: (roomsQ (w * shareQ q) qs).take (m + 1)
    rw [rooms_take qs (w * shareQ q) m (by simpa using h)]
theorem trimL_is : ∀ qs : List Rat, ∃ m, m ≤ qs.length ∧ trimL qs = qs.take m
  | [] => ⟨0, Nat.le_refl _, rfl⟩
  | q :: qs => by
    obtain ⟨m, h1, h2⟩ := trimL_is qs
    unfold trimL
    by_cases h : q = 0 ∧ trimL qs = []
    · rw [if_pos h]
      exact ⟨0, Nat.zero_le _, rfl⟩
    · rw [if_neg h, h2]
      exact ⟨m + 1, by simpa using h1, rfl⟩
theorem panesQ_amid : ∀ (A : List Rat) (a b : Rat) (B : List Rat), panesQ (A ++ a :: b :: B) = panesQ (A ++ [a]) ++ ((a - b) / (a + b)) :: panesQ (b :: B)
  | [], a, b, B => rfl
  | [x], a, b, B => rfl
  | x :: y :: A, a, b, B => by
    have ih := panesQ_amid (y :: A) a b B
    show ((x - y) / (x + y)) :: panesQ ((y :: A) ++ a :: b :: B) = ((x - y) / (x + y)) :: (panesQ ((y :: A) ++ [a]) ++ ((a - b) / (a + b)) :: panesQ (b :: B))
    rw [ih]
theorem share_pane {a b : Rat} (ha : 0 < a) (hb : 0 < b) : shareQ ((a - b) / (a + b)) = b / a := by
  have h := back_pane ha hb
  unfold shareQ
  have : a ≠ 0 := by grind
  have e : a * ((1 - (a - b) / (a + b)) / (1 + (a - b) / (a + b))) / a = b / a := by rw [h]
  rw [← e]
  grind
theorem share_two {a b v : Rat} (ha : 0 < a) (hb : 0 < b) (hv : 0 < v) : lastQ 1 [(a - v) / (a + v), (v - b) / (v + b)] = lastQ 1 [(a - b) / (a + b)] := by
  show 1 * shareQ ((a - v) / (a + v)) * shareQ ((v - b) / (v + b)) = 1 * shareQ ((a - b) / (a + b))
  rw [share_pane ha hv, share_pane hv hb, share_pane ha hb]
  have : a ≠ 0 := by grind
  have : v ≠ 0 := by grind
  grind
theorem erase_perm {α : Type} : ∀ (l : List α) (k : Nat) (h : k < l.length), (l[k] :: l.eraseIdx k).Perm l
  | x :: xs, 0, _ => List.Perm.refl _
  | x :: xs, k + 1, h => by
    have ih := erase_perm xs k (by simpa using h)
    show (xs[k]'(by simpa using h) :: x :: xs.eraseIdx k).Perm (x :: xs)
    exact (List.Perm.swap _ _ _).trans (List.Perm.cons x ih)
theorem trimL_idem : ∀ qs : List Rat, trimL (trimL qs) = trimL qs
  | [] => rfl
  | q :: qs => by
    have ih := trimL_idem qs
    by_cases h : q = 0 ∧ trimL qs = []
    · have e : trimL (q :: qs) = [] := if_pos h
      rw [e]
      rfl
    · have e : trimL (q :: qs) = q :: trimL qs := if_neg h
      rw [e]
      show (if q = 0 ∧ trimL (trimL qs) = [] then [] else q :: trimL (trimL qs)) = q :: trimL qs
      rw [ih, if_neg h]
theorem trimR_idem (qs : List Rat) (x : Int) : trimR (trimR qs x) x = trimR qs x := by
  unfold trimR
  by_cases h : x = 0
  · rw [if_pos h, if_pos h, trimL_idem]
  · rw [if_neg h, if_neg h]
end Ep
namespace Ep
open PySem PySem.Spec PyProof.Rows L2
/-! ### heaps: what a draw changes -/
/-- all but what stands at p is as it was -/
def Chg (p : Addr) (H H' : Hp) : Prop := ∀ b o, b ≠ p → H b = some o → H' b = some o
theorem Chg.refl {p : Addr} {H : Hp} : Chg p H H := fun _ _ _ h => h
theorem Chg.trans {p : Addr} {H H1 H2 : Hp} (a : Chg p H H1) (b : Chg p H1 H2) : Chg p H H2 := fun c o n h => b c o n (a c o n h)
theorem Chg.of_same {p : Addr} {H H' : Hp} (h : Same H H') : Chg p H H' := fun b o _ e => h b o e
theorem same_upd {H : Hp} {p : Addr} {o : HO} (h : H p = none) : Same H (upd H p o) := fun b x e => by
  rw [upd_ne (ne_of_none e h)]
  exact e
theorem chg_upd {H : Hp} {p : Addr} {o : HO} : Chg p H (upd H p o) := fun b x n e => by
  rw [upd_ne n]
  exact e
theorem Chg.free {p : Addr} {H H' : Hp} (c : Chg p H H') {l : Addr} (n : l ≠ p) (h : H' l = none) : H l = none := by
  cases q : H l with
  | none => rfl
  | some o =>
    rw [c l o n q] at h
    cases h
/-- a new thing is laid, then that is changed: nothing old is -/
theorem Same.chg_new {p : Addr} {H H1 H2 : Hp} (a : Same H H1) (n : H p = none) (c : Chg p H1 H2) : Same H H2 := fun b o e => c b o (ne_of_none e n) (a b o e)
theorem Same.tup {K : PySem.W.Frag} {H H' : Hp} {a : Addr} {xs : List V} (e : Same H H') (h : SqT K H a xs) : SqT K H' a xs := by
  rcases h with (h | ⟨o, h⟩) | h
  · exact .inl (.inl (e _ _ h))
  · exact .inl (.inr ⟨o, e _ _ h⟩)
  · exact .inr h
theorem Chg.tup {K : PySem.W.Frag} {p : Addr} {H H' : Hp} {a : Addr} {xs l : List V} (c : Chg p H H') (hp : H p = some (.lst l)) (h : SqT K H a xs) : SqT K H' a xs := by
  rcases h with (h | ⟨o, h⟩) | h
  · exact .inl (.inl (c _ _ (fun e => by subst e; rw [hp] at h; cases h) h))
  · exact .inl (.inr ⟨o, c _ _ (fun e => by subst e; rw [hp] at h; cases h) h⟩)
  · exact .inr h
/-! ### data in the heap -/
mutual
def noL : PyData → Bool
  | .list _ => false
  | .dict _ => false
  | .tuple ds => noLs ds
  | _ => true
def noLs : List PyData → Bool
  | [] => true
  | d :: ds => noL d && noLs ds
end
section
variable {K : PySem.W.Frag} {H H' : Hp}
mutual
theorem dp_same (e : Same H H') : ∀ (d : PyData) (v : V), Dp K H v d → Dp K H' v d
  | .none, _, h => by cases h; exact .non
  | .bool b, _, h => by cases h; exact .bl b
  | .int i, _, h => by cases h; exact .int i
  | .str x, _, h => by cases h; exact .str x
  | .list ds, _, h => by
    cases h with
    | lst hs ha => exact .lst (e.seq hs) (dps_same e ds _ ha)
  | .tuple ds, _, h => by
    cases h with
    | tup hs ha => exact .tup (Same.tup e hs) (dps_same e ds _ ha)
  | .dict _, _, h => by cases h
theorem dps_same (e : Same H H') : ∀ (ds : List PyData) (vs : List V), DpAll K H vs ds → DpAll K H' vs ds
  | [], _, h => by cases h; exact .nil
  | d :: ds, _, h => by
    cases h with
    | cons a b => exact .cons (dp_same e d _ a) (dps_same e ds _ b)
end
mutual
theorem dp_chg {p : Addr} {l : List V} (c : Chg p H H') (hp : H p = some (.lst l)) : ∀ (d : PyData) (v : V), noL d = true → Dp K H v d → Dp K H' v d
  | .none, _, _, h => by cases h; exact .non
  | .bool b, _, _, h => by cases h; exact .bl b
  | .int i, _, _, h => by cases h; exact .int i
  | .str x, _, _, h => by cases h; exact .str x
  | .list ds, _, n, h => by cases n
  | .tuple ds, _, n, h => by
    cases h with
    | tup hs ha => exact .tup (c.tup hp hs) (dps_chg c hp ds _ n ha)
  | .dict _, _, _, h => by cases h
theorem dps_chg {p : Addr} {l : List V} (c : Chg p H H') (hp : H p = some (.lst l)) : ∀ (ds : List PyData) (vs : List V), noLs ds = true → DpAll K H vs ds → DpAll K H' vs ds
  | [], _, _, h => by cases h; exact .nil
  | d :: ds, _, n, h => by
    have n2 : noL d = true ∧ noLs ds = true := by simpa [noLs] using n
    cases h with
    | cons a b => exact .cons (dp_chg c hp d _ n2.1 a) (dps_chg c hp ds _ n2.2 b)
end
theorem dps_len : ∀ {vs : List V} {ds : List PyData}, DpAll K H vs ds → vs.length = ds.length
  | _, _, .nil => rfl
  | _, _, .cons _ t => congrArg Nat.succ (dps_len t)
theorem dps_get : ∀ {vs : List V} {ds : List PyData} {i : Nat} {v : V}, DpAll K H vs ds → vs[i]? = some v → ∃ d, ds[i]? = some d ∧ Dp K H v d
  | _, _, _, _, .nil, e => by simp at e
  | _, _, 0, _, .cons r _, e => by simp at e; subst e; exact ⟨_, rfl, r⟩
  | _, _, i + 1, x, .cons _ t, e => by
    obtain ⟨u, h1, h2⟩ := dps_get (i := i) (v := x) t (by simpa using e)
    exact ⟨u, by simpa using h1, h2⟩
theorem dps_app : ∀ {xs ys : List V} {us ws : List PyData}, DpAll K H xs us → DpAll K H ys ws → DpAll K H (xs ++ ys) (us ++ ws)
  | _, _, _, _, .nil, s => s
  | _, _, _, _, .cons r t, s => .cons r (dps_app t s)
theorem dps_take : ∀ {xs : List V} {us : List PyData} (n : Nat), DpAll K H xs us → DpAll K H (xs.take n) (us.take n)
  | _, _, 0, _ => .nil
  | _, _, _ + 1, .nil => .nil
  | _, _, n + 1, .cons r t => .cons r (dps_take n t)
theorem dps_drop : ∀ {xs : List V} {us : List PyData} (n : Nat), DpAll K H xs us → DpAll K H (xs.drop n) (us.drop n)
  | _, _, 0, r => r
  | _, _, _ + 1, .nil => .nil
  | _, _, n + 1, .cons _ t => dps_drop n t
theorem dps_rev : ∀ {xs : List V} {us : List PyData}, DpAll K H xs us → DpAll K H xs.reverse us.reverse
  | _, _, .nil => .nil
  | _, _, .cons r t => by
    rw [List.reverse_cons, List.reverse_cons]
    exact dps_app (dps_rev t) (.cons r .nil)
end
/-! FRACTIONs and ROWs as data -/
def frD (q : Rat) : PyData := .tuple [.int q.num, .int (q.den : Int)]
def frs (qs : List Rat) : List PyData := qs.map frD
def rowD (qs : List Rat) (w : Int) : PyData := .tuple [.tuple (frs qs), .int w]
theorem noL_fr (q : Rat) : noL (frD q) = true := rfl
theorem noL_frs : ∀ qs : List Rat, noLs (frs qs) = true
  | [] => rfl
  | q :: qs => by
    show (noL (frD q) && noLs (frs qs)) = true
    rw [noL_fr, noL_frs qs]
    rfl
theorem noL_row (qs : List Rat) (w : Int) : noL (rowD qs w) = true := by
  show (noLs (frs qs) && (true && true)) = true
  rw [noL_frs]
  rfl
theorem dp_fr {K : PySem.W.Frag} {H : Hp} {v : V} {q : Rat} (h : Dp K H v (frD q)) : ∃ a, v = .ref a ∧ SqT K H a [.int q.num, .int (q.den : Int)] := by
  cases h with
  | tup hs ha =>
    cases ha with
    | cons a b =>
      cases b with
      | cons c d =>
        cases d
        cases a
        cases c
        exact ⟨_, rfl, hs⟩
theorem dp_fr_mk {K : PySem.W.Frag} {H : Hp} {a : Addr} {q : Rat} (h : SqT K H a [.int q.num, .int (q.den : Int)]) : Dp K H (.ref a) (frD q) := .tup h (.cons (.int _) (.cons (.int _) .nil))
theorem dp_tup {K : PySem.W.Frag} {H : Hp} {v : V} {ds : List PyData} (h : Dp K H v (.tuple ds)) : ∃ a xs, v = .ref a ∧ SqT K H a xs ∧ DpAll K H xs ds := by
  cases h with
  | tup hs ha => exact ⟨_, _, rfl, hs, ha⟩
theorem dp_lst {K : PySem.W.Frag} {H : Hp} {v : V} {ds : List PyData} (h : Dp K H v (.list ds)) : ∃ a xs, v = .ref a ∧ SqL K H a xs ∧ DpAll K H xs ds := by
  cases h with
  | lst hs ha => exact ⟨_, _, rfl, hs, ha⟩
theorem dp_int {K : PySem.W.Frag} {H : Hp} {v : V} {i : Int} (h : Dp K H v (.int i)) : v = .int i := by
  cases h
  rfl
theorem dp_row {K : PySem.W.Frag} {H : Hp} {v : V} {qs : List Rat} {w : Int} (h : Dp K H v (rowD qs w)) : ∃ a b xs, v = .ref a ∧ SqT K H a [.ref b, .int w] ∧ SqT K H b xs ∧ DpAll K H xs (frs qs) := by
  obtain ⟨a, xs, rfl, h1, h2⟩ := dp_tup h
  cases h2 with
  | cons x y =>
    cases y with
    | cons z u =>
      cases u
      obtain ⟨b, ys, rfl, h3, h4⟩ := dp_tup x
      cases z
      exact ⟨a, b, ys, rfl, h1, h3, h4⟩
theorem dp_row_mk {K : PySem.W.Frag} {H : Hp} {a b : Addr} {xs : List V} {qs : List Rat} {w : Int} (h1 : SqT K H a [.ref b, .int w]) (h2 : SqT K H b xs) (h3 : DpAll K H xs (frs qs)) : Dp K H (.ref a) (rowD qs w) :=
  .tup h1 (.cons (.tup h2 h3) (.cons (.int w) .nil))
/-! ### the box of draws -/
structure Bx (H : Hp) (p : Addr) (n : Nat) : Prop where
  ex : ∃ x y z : Int, H p = some (.lst [.int x, .int y, .int z]) ∧ 0 ≤ x ∧ 0 ≤ y ∧ y < 4000000000000000000 ∧ 0 ≤ z ∧ z ≤ n
theorem Bx.at {H : Hp} {p : Addr} {n : Nat} (b : Bx H p n) : ∃ l, H p = some (.lst l) := by
  obtain ⟨x, y, z, h, _⟩ := b.ex
  exact ⟨_, h⟩
theorem Bx.mono {H : Hp} {p : Addr} {n m : Nat} (b : Bx H p n) (h : n ≤ m) : Bx H p m := by
  obtain ⟨x, y, z, a, b, c, d, e, f⟩ := b.ex
  exact ⟨x, y, z, a, b, c, d, e, by omega⟩
theorem Bx.same {H H' : Hp} {p : Addr} {n : Nat} (b : Bx H p n) (e : Same H H') : Bx H' p n := by
  obtain ⟨x, y, z, h, r⟩ := b.ex
  exact ⟨x, y, z, e _ _ h, r⟩
theorem Bx.dp {K : PySem.W.Frag} {H H' : Hp} {p : Addr} {n : Nat} {v : V} {d : PyData} (b : Bx H p n) (c : Chg p H H') (h : Dp K H v d) (nl : noL d = true) : Dp K H' v d := by
  obtain ⟨l, e⟩ := b.at
  exact dp_chg c e d v nl h
theorem Bx.dps {K : PySem.W.Frag} {H H' : Hp} {p : Addr} {n : Nat} {vs : List V} {ds : List PyData} (b : Bx H p n) (c : Chg p H H') (h : DpAll K H vs ds) (nl : noLs ds = true) : DpAll K H' vs ds := by
  obtain ⟨l, e⟩ := b.at
  exact dps_chg c e ds vs nl h

/-! ### panes -/
structure PaneQ (q : Rat) : Prop where
  lo : -1 < q
  hi : q < 1
  sz : Sz 6 q
theorem pane_fr {t u : Int} (h1 : -u < t) (h2 : t < u) (h3 : u ≤ 60) : PaneQ (Rat.divInt t u) := by
  have hu : 0 < u := by omega
  have hq : (0 : Rat) < (u : Rat) := Rat.intCast_pos.mpr hu
  refine ⟨?_, ?_, sz_fr hu (by omega) (by omega)⟩
  · rw [Rat.divInt_eq_div, Rat.lt_div_iff hq]
    have e : (-1 : Rat) * (u : Rat) = ((-u : Int) : Rat) := by
      rw [Rat.intCast_neg]
      grind
    rw [e]
    exact Rat.intCast_lt_intCast.mpr h1
  · rw [Rat.divInt_eq_div, Rat.div_lt_iff hq, Rat.one_mul]
    exact Rat.intCast_lt_intCast.mpr h2
theorem fr_own {t u : Int} (h : 0 < u) (g : Int.gcd t u = 1) : (Rat.divInt t u).num = t ∧ ((Rat.divInt t u).den : Int) = u := by
  rw [fr_num h, fr_den h, g]
  simp
theorem gcd_one_less (u : Int) : Int.gcd (1 - u) u = 1 := by
  have e : (1 : Int) - u = 1 - u * 1 := by omega
  rw [e, Int.gcd_sub_mul_left_left, Int.gcd_one_left]
theorem pick3 {r : Int} (h0 : 0 ≤ r) (h1 : r < 3) : ∃ z : Int, atI [V.int 3, .int 8, .int 59] r = some (.int z) ∧ 0 < z ∧ z ≤ 59 := by
  have h : r = 0 ∨ r = 1 ∨ r = 2 := by omega
  rcases h with rfl | rfl | rfl
  · exact ⟨3, rfl, by decide, by decide⟩
  · exact ⟨8, rfl, by decide, by decide⟩
  · exact ⟨59, rfl, by decide, by decide⟩
theorem dp_fr_lit {K : PySem.W.Frag} {H : Hp} {a : Addr} {t u : Int} (hu : 0 < u) (g : Int.gcd t u = 1) (h : SqT K H a [.int t, .int u]) : Dp K H (.ref a) (frD (Rat.divInt t u)) := by
  obtain ⟨e1, e2⟩ := fr_own hu g
  refine dp_fr_mk ?_
  rw [e1, e2]
  exact h
/-- what a value tells: a pane -/
def IsPane (K : PySem.W.Frag) (H : Hp) (v : V) : Prop := ∃ q, PaneQ q ∧ Dp K H v (frD q)
theorem IsPane.same {K : PySem.W.Frag} {H H' : Hp} {v : V} (h : IsPane K H v) (e : Same H H') : IsPane K H' v := by
  obtain ⟨q, a, b⟩ := h
  exact ⟨q, a, dp_same e _ _ b⟩
theorem pane_lit {K : PySem.W.Frag} {H : Hp} {a : Addr} {t u : Int} (g : Int.gcd t u = 1) (h1 : -u < t) (h2 : t < u) (h3 : u ≤ 60) (h : SqT K H a [.int t, .int u]) : IsPane K H (.ref a) :=
  ⟨_, pane_fr h1 h2 h3, dp_fr_lit (by omega) g h⟩
theorem upd_new_ne {H : Hp} {p l : Addr} {o u : HO} (h : H p = some o) (n : H l = none) : (upd H l u) p = some o := by
  rw [upd_ne (ne_of_none h n)]
  exact h
/-- what is said of a list that is laid anew amid a comprehension's turns stays where a new item is put to it -/
theorem dps_put {K : PySem.W.Frag} {H : Hp} {D : Addr} {acc acc2 : List V} {vs : List V} {ds : List PyData} (h : H D = some (.lst acc)) (n : noLs ds = true) (d : DpAll K H vs ds) : DpAll K (upd H D (.lst acc2)) vs ds := dps_chg chg_upd h ds vs n d
theorem dp_put {K : PySem.W.Frag} {H : Hp} {D : Addr} {acc acc2 : List V} {v : V} {d : PyData} (h : H D = some (.lst acc)) (n : noL d = true) (x : Dp K H v d) : Dp K (upd H D (.lst acc2)) v d := dp_chg chg_upd h d v n x
theorem Bx.other {H : Hp} {p D : Addr} {n : Nat} {o : HO} (b : Bx H p n) (h : p ≠ D) : Bx (upd H D o) p n := by
  obtain ⟨x, y, z, e, r⟩ := b.ex
  exact ⟨x, y, z, by rw [upd_ne h]; exact e, r⟩
/-- a thing that was new is changed -/
theorem Chg.new_upd {p D : Addr} {H H1 : Hp} {o : HO} (c : Chg p H H1) (n : H D = none) : Chg p H (upd H1 D o) := fun b x nb e => by
  rw [upd_ne (ne_of_none e n)]
  exact c b x nb e
theorem Same.new_upd {D : Addr} {H H1 : Hp} {o : HO} (c : Same H H1) (n : H D = none) : Same H (upd H1 D o) := fun b x e => by
  rw [upd_ne (ne_of_none e n)]
  exact c b x e
theorem frs_app (a b : List Rat) : frs (a ++ b) = frs a ++ frs b := List.map_append
theorem dps_snoc {K : PySem.W.Frag} {H : Hp} {vs : List V} {qs : List Rat} {v : V} {q : Rat} (a : DpAll K H vs (frs qs)) (b : Dp K H v (frD q)) : DpAll K H (vs ++ [v]) (frs (qs ++ [q])) := by
  rw [frs_app]
  exact dps_app a (.cons b .nil)
theorem ty_tup {K : PySem.W.Frag} {H : Hp} {a : Addr} {xs : List V} (h : SqT K H a xs) : TyX K H (.ref a) (.type "tuple") := by
  rcases h with (h | ⟨o, h⟩) | ⟨o, its, n, h, c, _⟩
  · exact .base (.tup h)
  · exact .fTuple h
  · exact .kTuple h c
theorem ty_lst {K : PySem.W.Frag} {H : Hp} {a : Addr} {xs : List V} (h : SqL K H a xs) : TyX K H (.ref a) (.type "list") := by
  rcases h with (h | ⟨o, h⟩) | ⟨o, its, n, h, c, _⟩
  · exact .base (.lst h)
  · exact .base (.frz h)
  · exact .kList h c
theorem walk_zipT {K : PySem.W.Frag} {a b : Addr} {xs ys : List V} {n : Nat} (hn : n = min xs.length ys.length) : Walk (RZ.ItzT K a b) n (fun H => SqT K H a xs ∧ SqT K H b ys) (YPair (fun i => xs[i]?) (fun i => ys[i]?)) := by
  subst hn
  refine ⟨fun i _ hi q => ?_, fun _ q => ⟨xs, ys, q.1, q.2, by omega⟩, fun i H v H' _ q y => ?_⟩
  · have h1 : i < xs.length := by omega
    have h2 : i < ys.length := by omega
    exact ⟨xs, ys, xs[i], ys[i], q.1, q.2, by simp [h1], by simp [h2]⟩
  · obtain ⟨T, x, z, h1, h2, h3, h4, h5⟩ := y
    exact ⟨T, x, z, h1, h2, h3, h4 xs q.1, h5 ys q.2⟩
theorem PaneQ.z {q : Rat} (h : PaneQ q) : PaneZ 6 q := ⟨h.lo, h.hi, h.sz⟩
/-! ### calls by names alone -/
section
variable {X : Cx} {CX : CXT} {k : Nat} {f : Addr} {fd : FuncData} {ps ks : List Str} {sp : Sp} {E : XK} {x : Str} {p pos : Pos} {kws : List Keyword} {tk : TA} {g : List Value → List Value → List Value} {gV : List V → List V → List V}
theorem pe_callN0 (F : FnOk X.prog X.w X.K X.mg X.base CX k f fd ps sp) (hr : Room k X.A) (hg : Gl X x) (hm : X.mg x = some (.ref f)) (hk : PySem.W.keepIn X.K (.ref f) = true) (hb : KBn X.K fd ps 0 ks g gV) (hx : Passes CX X E)
    (hkw : PK X kws tk) (hall : (backToKw pos (keywordEach kws X.env)).all (·.1.isSome) = true := by rfl) (hks : (backToKw pos (keywordEach kws X.env)).filterMap (·.1) = ks := by rfl)
    (hdb : (x == ("__debug__" : Str)) = false := by decide)
    (hpl : ((backTo pos (starEach [] X.env)).any (·.1) || (backToKw pos (keywordEach kws X.env)).any (·.1.isNone)) = false := by rfl) :
    PE X (.Call (.Name x p) [] kws pos) (tCallN 0 ks.length sp gV E tNil tk) := by
  refine ⟨fun pins s σ H Q I h => ?_⟩
  refine wpAny_Call_Name_kw (ld_glob I hg hm ?_ hdb)
  refine PySem.W.callWith_KW0 (h₀ := X.base) I.ok.mod.kin hk hall (thn (hkw.run pos pins s σ H _ I h) fun ws s2 ⟨zs, H2, I2, rz, l1, l2, q2⟩ => ⟨I2.kIn, ?_⟩) hpl
  rw [hks]
  exact run_fnN F hr hb hx I2 .nil rz l1 l2 q2
end
section
variable {K : PySem.W.Frag} {f : Addr} {fd : FuncData} {ps : List Str}
/-- a def without defaults, some of its parameters handed in by their names -/
theorem Fun.kb {x qual : Str} {st : Stmt} (F : Fun K x qual st f fd) (n : Nat) (ks : List Str) (g : {α : Type} → List α → List α → List α)
    (hrel : ∀ {vs zs : List V} {us ws : List Value}, Vals vs us → Vals zs ws → Vals (g vs zs) (g us ws))
    (h : ∀ (kV doc pm : Value) (an : Option Addr) (cdv ct : Value) (us ws : List Value), us.length = n → ws.length = ks.length → bindArgs (PySem.W.fnOf x qual (defArgs st) (defBody st) (defScope st) .none kV doc pm an cdv ct) ⟨us, ks.zip ws⟩ = pure (ps.zip (g us ws))) :
    KBn K fd ps n ks (fun us ws => g us ws) (fun vs zs => g vs zs) := by
  obtain ⟨oc, od, kV, doc, pm, an, cdv, ct, osl, rfl, lk, hcd⟩ := F.ex
  exact ⟨fun s us ws _ l1 l2 => .of_eq (h kV doc pm an cdv ct us ws l1 l2), fun r1 r2 => hrel r1 r2⟩
/-- a def with keyword-only defaults alone; ms: those that lack -/
theorem FunD.kb {x qual : Str} {params : Arguments} {body : List Stmt} {scope : Scope} {kws : List (Str × V)} (F : FunD K x qual params body scope [] kws f fd) (n : Nat) (ks : List Str) (ms : List (Str × V)) (g : {α : Type} → List α → List α → List α → List α)
    (hk : kws ≠ []) (hms : ∀ q ∈ ms, q ∈ kws)
    (hrel : ∀ {vs mz zs : List V} {us mv ws : List Value}, Vals vs us → Vals mz mv → Vals zs ws → Vals (g vs mz zs) (g us mv ws))
    (h : ∀ (D : Addr) (doc pm : Value) (an : Option Addr) (cdv ct : Value) (us mv ws : List Value), us.length = n → mv.length = ms.length → ws.length = ks.length →
      KwChain D ((ms.map (·.1)).zip mv) (bindArgs (PySem.W.fnOf x qual params body scope .none (.ref D) doc pm an cdv ct) ⟨us, ks.zip ws⟩) (ps.zip (g us mv ws))) :
    ∃ mv : List Value, KBn K fd ps n ks (fun us ws => g us mv ws) (fun vs zs => g vs (ms.map (·.2)) zs) := by
  obtain ⟨oc, od, dV, kV, doc, pm, an, cdv, ct, osl, rfl, lk, hcd, hD, hK⟩ := F.ex
  rcases hD with ⟨_, rfl⟩ | ⟨e, _⟩
  · rcases hK with e | ⟨D, rfl, hq⟩
    · exact absurd e hk
    · obtain ⟨mv, hl, rk, hks⟩ := kwd_vals (ms := ms) fun q hm => hq q (hms q hm)
      refine ⟨mv, ⟨fun s us ws X l1 l2 => BindsTo.of_looks fun M => KwChain.looks X hks (h D doc pm an cdv ct us mv ws l1 hl l2), fun r1 r2 => hrel r1 rk r2⟩⟩
  · exact absurd rfl e
end
/-! ### a callee, in short -/
structure Cal (P : Program) (w : World) (K : PySem.W.Frag) (mg : Str → Option Value) (base : Heap) (k : Nat) (x : Str) (ps : List Str) (sp : Sp) (f : Addr) (fd : FuncData) : Prop where
  kp : PySem.W.keepIn K (.ref f) = true
  ok : FnOk P w K mg base CX0 k f fd ps sp
  bd : Binds K fd ps []
  at_ : mg x = some (.ref f)
theorem pe_c {X : Cx} {k : Nat} {x : Str} {ps : List Str} {sp : Sp} {f : Addr} {fd : FuncData} {p pos : Pos} {e : Expr} {es : List Expr} {t : TA} (c : Cal X.prog X.w X.K X.mg X.base k x ps sp f fd) (hr : Room k X.A) (hg : Gl X x) (ha : PA X (e :: es) t)
    (hdb : (x == ("__debug__" : Str)) = false := by decide) (he : starEach (e :: es) X.env = (false, eval e X.env) :: starEach es X.env := by rfl) (hpl : (backTo pos (starEach es X.env)).any (·.1) = false := by rfl) :
    PE X (.Call (.Name x p) (e :: es) [] pos) (tCall sp [] E0 t) := pe_call c.ok hr hg c.at_ c.kp c.bd .nil pass0 ha hdb he hpl
/-! ### a list of FRACTIONs -/
def Lq (K : PySem.W.Frag) (H : Hp) (L : Addr) (qs : List Rat) : Prop := ∃ us, H L = some (.lst us) ∧ DpAll K H us (frs qs)
section
variable {K : PySem.W.Frag} {H H' : Hp} {L p : Addr} {qs : List Rat}
theorem Lq.same (h : Lq K H L qs) (e : Same H H') : Lq K H' L qs := by
  obtain ⟨us, a, b⟩ := h
  exact ⟨us, e _ _ a, dps_same e _ _ b⟩
theorem Lq.chg {l : List V} (h : Lq K H L qs) (c : Chg p H H') (hp : H p = some (.lst l)) (n : L ≠ p) : Lq K H' L qs := by
  obtain ⟨us, a, b⟩ := h
  exact ⟨us, c _ _ n a, dps_chg c hp _ _ (noL_frs qs) b⟩
theorem Lq.dp (h : Lq K H L qs) : Dp K H (.ref L) (.list (frs qs)) := by
  obtain ⟨us, a, b⟩ := h
  exact .lst (SqL.of a) b
theorem Lq.ne (h : Lq K H L qs) {M : Addr} (n : H M = none) : L ≠ M := by
  obtain ⟨us, a, b⟩ := h
  exact ne_of_none a n
theorem Bx.lq {n : Nat} (b : Bx H p n) (c : Chg p H H') (h : Lq K H L qs) (ne : L ≠ p) : Lq K H' L qs := by
  obtain ⟨l, e⟩ := b.at
  exact h.chg c e ne
theorem Bx.ne {n : Nat} (b : Bx H p n) {M : Addr} (h : H M = none) : M ≠ p := by
  obtain ⟨l, e⟩ := b.at
  exact (ne_of_none e h).symm
end
/-! ### things laid anew -/
section
variable {K : PySem.W.Frag} {H : Hp} {a b : Addr}
theorem new_fr {t u : Int} (n : H a = none) (hu : 0 < u) (g : Int.gcd t u = 1) : Dp K (upd H a (.tup [.int t, .int u])) (.ref a) (frD (Rat.divInt t u)) := dp_fr_lit hu g (SqT.of upd_same)
theorem new_q {t u : Int} (n : H a = none) (q : Rat) (h1 : q.num = t) (h2 : (q.den : Int) = u) : Dp K (upd H a (.tup [.int t, .int u])) (.ref a) (frD q) := by
  subst h1 h2
  exact dp_fr_mk (SqT.of upd_same)
theorem new_row {xs : List V} {qs : List Rat} {w : Int} (n : H a = none) (hb : SqT K H b xs) (d : DpAll K H xs (frs qs)) : Dp K (upd H a (.tup [.ref b, .int w])) (.ref a) (rowD qs w) :=
  dp_row_mk (SqT.of upd_same) (Same.tup (same_upd n) hb) (dps_same (same_upd n) _ _ d)
theorem new_rowD {v : V} {qs : List Rat} {w : Int} (n : H a = none) (d : Dp K H v (.tuple (frs qs))) : Dp K (upd H a (.tup [v, .int w])) (.ref a) (rowD qs w) :=
  .tup (SqT.of upd_same) (.cons (dp_same (same_upd n) _ _ d) (.cons (.int w) .nil))
theorem new_tup {xs : List V} {ds : List PyData} (n : H a = none) (d : DpAll K H xs ds) : Dp K (upd H a (.tup xs)) (.ref a) (.tuple ds) := .tup (SqT.of upd_same) (dps_same (same_upd n) _ _ d)
theorem new_lst {xs : List V} {ds : List PyData} (n : H a = none) (d : DpAll K H xs ds) : Dp K (upd H a (.lst xs)) (.ref a) (.list ds) := .lst (SqL.of upd_same) (dps_same (same_upd n) _ _ d)
theorem same2 {o1 o2 : HO} (n1 : H a = none) (n2 : (upd H a o1) b = none) : Same H (upd (upd H a o1) b o2) := Same.trans (same_upd n1) (same_upd n2)
theorem same3 {c : Addr} {o1 o2 o3 : HO} (n1 : H a = none) (n2 : (upd H a o1) b = none) (n3 : (upd (upd H a o1) b o2) c = none) : Same H (upd (upd (upd H a o1) b o2) c o3) := Same.trans (same2 n1 n2) (same_upd n3)
theorem Same.new {H1 : Hp} {o : HO} (s : Same H H1) (n : H1 a = none) : Same H (upd H1 a o) := s.trans (same_upd n)
end
/-! ### == of FRACTIONs and ROWs -/
theorem eqv_fr (q r : Rat) : PyData.eqv (frD q) (frD r) = decide (q = r) := by
  have e : PyData.eqv (frD q) (frD r) = ((q.num == r.num) && ((q.den : Int) == (r.den : Int) && true)) := by
    unfold frD
    simp [PyData.eqv, PyData.eqvAll]
  rw [e, Bool.eq_iff_iff]
  simp only [Bool.and_true, Bool.and_eq_true, beq_iff_eq, decide_eq_true_eq]
  constructor
  · rintro ⟨h1, h2⟩
    exact Rat.ext h1 (by omega)
  · rintro rfl
    exact ⟨rfl, rfl⟩
theorem sh_fr (q : Rat) : SeqAt.shaped (frD q) = true := by
  unfold frD SeqAt.shaped
  simp [PyData.canLay0, PyData.canLayAll0, PyData.depth, PyData.depthAll]
theorem lay_frs : ∀ qs : List Rat, PyData.canLayAll0 (frs qs) = true
  | [] => by simp [frs, PyData.canLayAll0]
  | q :: qs => by
    have ih := lay_frs qs
    have e : frs (q :: qs) = frD q :: frs qs := rfl
    rw [e]
    simp only [PyData.canLayAll0, ih, Bool.and_true]
    simp [frD, PyData.canLay0, PyData.canLayAll0]
theorem dep_frs : ∀ qs : List Rat, PyData.depthAll (frs qs) ≤ 1
  | [] => by simp [frs, PyData.depthAll]
  | q :: qs => by
    have ih := dep_frs qs
    have e : frs (q :: qs) = frD q :: frs qs := rfl
    rw [e]
    simp only [PyData.depthAll]
    have e2 : (frD q).depth = 1 := by simp [frD, PyData.depth, PyData.depthAll]
    omega
theorem sh_frs (qs : List Rat) : SeqAt.shaped (.tuple (frs qs)) = true := by
  unfold SeqAt.shaped
  rw [Bool.and_eq_true]
  refine ⟨?_, decide_eq_true ?_⟩
  · simp only [PyData.canLay0]
    exact lay_frs qs
  · simp only [PyData.depth]
    have := dep_frs qs
    omega
theorem sh_row (qs : List Rat) (x : Int) : SeqAt.shaped (rowD qs x) = true := by
  unfold SeqAt.shaped rowD
  rw [Bool.and_eq_true]
  refine ⟨?_, decide_eq_true ?_⟩
  · simp only [PyData.canLay0, PyData.canLayAll0, lay_frs, Bool.and_true]
  · simp only [PyData.depth, PyData.depthAll]
    have := dep_frs qs
    omega
theorem eqv_self {d : PyData} (h : SeqAt.shaped d = true) : PyData.eqv d d = true := by
  unfold SeqAt.shaped at h
  rw [Bool.and_eq_true] at h
  exact SeqAt.eqv_refl d h.1
theorem walk_revT {K : PySem.W.Frag} {a : Addr} {xs : List V} : Walk (RT.ItvT K a xs.length) xs.length (fun H => SqT K H a xs) (fun i H x H' => H' = H ∧ xs[xs.length - 1 - i]? = some x) :=
  ⟨fun i H hi q => ⟨hi, xs, xs[xs.length - 1 - i]'(by omega), q, by simp [show xs.length - 1 - i < xs.length by omega]⟩, fun H q => Nat.le_refl _, fun i H x H' hi q y => ⟨y.1, y.2 xs q⟩⟩
/-! ### rules by data: tuples cut and joined, lists cut and joined -/
def cutG {α : Type} (xs : List α) (lo hi : Option Int) : List α := (xs.drop (HT.sIx xs.length 0 lo)).take (HT.sIx xs.length xs.length hi - HT.sIx xs.length 0 lo)
theorem dps_cut {K : PySem.W.Frag} {H : Hp} {xs : List V} {ds : List PyData} (lo hi : Option Int) (h : DpAll K H xs ds) : DpAll K H (cutV xs lo hi) (cutG ds lo hi) := by
  have e := dps_len h
  unfold cutV cutG
  rw [e]
  exact dps_take _ (dps_drop _ h)
theorem cutG_map {α β : Type} (f : α → β) (xs : List α) (lo hi : Option Int) : cutG (xs.map f) lo hi = (cutG xs lo hi).map f := by
  unfold cutG
  rw [List.length_map, List.map_take, List.map_drop]
theorem cut_frs (qs : List Rat) (lo hi : Option Int) : cutG (frs qs) lo hi = frs (cutG qs lo hi) := cutG_map frD qs lo hi
theorem cutG_to {α : Type} (xs : List α) (i : Nat) : cutG xs none (some (i : Int)) = xs.take i := by
  unfold cutG
  rw [HT.sIx_none, HT.sIx_nat, List.drop_zero, Nat.sub_zero]
  by_cases h : i ≤ xs.length
  · rw [Nat.min_eq_left h]
  · rw [Nat.min_eq_right (by omega), List.take_length, List.take_of_length_le (by omega)]
theorem cutG_from {α : Type} (xs : List α) (i : Nat) : cutG xs (some (i : Int)) none = xs.drop i := by
  unfold cutG
  rw [HT.sIx_none, HT.sIx_nat]
  by_cases h : i ≤ xs.length
  · rw [Nat.min_eq_left h]
    exact List.take_of_length_le (by rw [List.length_drop]; omega)
  · rw [Nat.min_eq_right (by omega), List.drop_of_length_le (Nat.le_refl _), List.drop_of_length_le (by omega), List.take_nil]
theorem cutG_amid {α : Type} (xs : List α) (i j : Nat) : cutG xs (some (i : Int)) (some (j : Int)) = (xs.drop i).take (j - i) := by
  unfold cutG
  rw [HT.sIx_nat, HT.sIx_nat]
  by_cases h : i ≤ xs.length
  · rw [Nat.min_eq_left h]
    by_cases h2 : j ≤ xs.length
    · rw [Nat.min_eq_left h2]
    · rw [Nat.min_eq_right (by omega), List.take_of_length_le (by rw [List.length_drop]; omega), List.take_of_length_le (by rw [List.length_drop]; omega)]
  · rw [List.drop_of_length_le (show xs.length ≤ min i xs.length by omega), List.drop_of_length_le (show xs.length ≤ i by omega), List.take_nil, List.take_nil]
theorem cutG_last {α : Type} (xs : List α) (x : α) : cutG (xs ++ [x]) none (some (-1)) = xs := by
  unfold cutG
  have e : HT.sIx (xs ++ [x]).length (xs ++ [x]).length (some (-1)) = xs.length := by
    show (if (-1 : Int) < 0 then ((-1 : Int) + ((xs ++ [x]).length : Int)).toNat else min (-1 : Int).toNat (xs ++ [x]).length) = xs.length
    rw [if_pos (by decide), List.length_append]
    simp
    omega
  rw [e, HT.sIx_none, List.drop_zero, Nat.sub_zero]
  simp
def rSlD (K : PySem.W.Frag) : V → Option Int → Option Int → Hp → VK → Prop := fun x lo hi H Q => ∃ ds, Dp K H x (.tuple ds) ∧ ∀ (v : V) (H' : Hp), Same H H' → Dp K H' v (.tuple (cutG ds lo hi)) → Q v H'
def rCatD (K : PySem.W.Frag) : R2 := fun x y H Q => ∃ d1 d2, Dp K H x (.tuple d1) ∧ Dp K H y (.tuple d2) ∧ d1.length + d2.length ≤ 1000 ∧ ∀ (v : V) (H' : Hp), Same H H' → Dp K H' v (.tuple (d1 ++ d2)) → Q v H'
section
variable {X : Cx}
theorem sl_tupD : SlR X (rSlD X.K) := fun pins s σ H x v vl vu lo hi sl Q I rx hs pl pu h => by
  obtain ⟨ds, d, q⟩ := h
  obtain ⟨a, xs, rfl, ha, hxs⟩ := dp_tup d
  refine sl_tupA pins s σ H _ v vl vu lo hi sl Q I rx hs pl pu ⟨a, xs, rfl, ha, fun hw => ?_, fun _ p np => ?_⟩
  · refine q _ _ (Same.refl H) (.tup ha ?_)
    have e : cutV xs lo hi = xs := by
      unfold cutV
      rw [hw.1, hw.2, List.drop_zero, Nat.sub_zero, List.take_length]
    have d2 := dps_cut lo hi hxs
    rw [e] at d2
    exact d2
  · exact q _ _ (same_upd np) (new_tup np (dps_cut lo hi hxs))
theorem op_catD : OpR X (binaryOp .Add) (rCatD X.K) := fun pins s σ H x y v u Q I rx ry h => by
  obtain ⟨d1, d2, e1, e2, hl, q⟩ := h
  obtain ⟨a, xs, rfl, ha, hxs⟩ := dp_tup e1
  obtain ⟨b, ys, rfl, hb, hys⟩ := dp_tup e2
  have l1 := dps_len hxs
  have l2 := dps_len hys
  refine op_catA pins s σ H _ _ v u Q I rx ry ⟨a, b, xs, ys, rfl, rfl, ha, hb, Nat.le_of_lt (Nat.lt_of_le_of_lt (by omega) (by decide : 1000 < sizeLine)), fun e => ?_, fun _ e => ?_, fun _ _ p np => ?_⟩
  · subst e
    cases hxs
    exact q _ _ (Same.refl H) e2
  · subst e
    cases hys
    rw [List.append_nil] at q
    exact q _ _ (Same.refl H) e1
  · exact q _ _ (same_upd np) (new_tup np (dps_app hxs hys))
end
theorem dps_erase {K : PySem.W.Frag} {H : Hp} : ∀ {xs : List V} {us : List PyData} (n : Nat), DpAll K H xs us → DpAll K H (xs.eraseIdx n) (us.eraseIdx n)
  | _, _, _, .nil => .nil
  | _, _, 0, .cons _ t => t
  | _, _, n + 1, .cons r t => .cons r (dps_erase n t)
theorem seqIx {i : Int} {n : Nat} (h0 : 0 ≤ i) (h1 : i < (n : Int)) : seqIndex? i n = some i.toNat := by
  unfold seqIndex?
  have e : (if i < 0 then i + (n : Int) else i) = i := if_neg (by omega)
  simp only [e]
  rw [if_pos (by simp [h0, h1])]
/-! ### lists of FRACTIONs cut, joined, turned about -/
def rSlLq (K : PySem.W.Frag) : V → Option Int → Option Int → Hp → VK → Prop := fun x lo hi H Q => ∃ L qs, x = .ref L ∧ Lq K H L qs ∧ ∀ (M : Addr) (H' : Hp), Same H H' → H M = none → Lq K H' M (cutG qs lo hi) → Q (.ref M) H'
def rCatLq (K : PySem.W.Frag) : R2 := fun x y H Q => ∃ L M q1 q2, x = .ref L ∧ y = .ref M ∧ Lq K H L q1 ∧ Lq K H M q2 ∧ q1.length + q2.length ≤ 1000 ∧ ∀ (N : Addr) (H' : Hp), Same H H' → H N = none → Lq K H' N (q1 ++ q2) → Q (.ref N) H'
theorem Lq.len {K : PySem.W.Frag} {H : Hp} {L : Addr} {qs : List Rat} (h : Lq K H L qs) : ∃ us, H L = some (.lst us) ∧ us.length = qs.length ∧ DpAll K H us (frs qs) := by
  obtain ⟨us, a, b⟩ := h
  exact ⟨us, a, by rw [dps_len b]; exact List.length_map .., b⟩
theorem Lq.new {K : PySem.W.Frag} {H : Hp} {M : Addr} {xs : List V} {qs : List Rat} (n : H M = none) (d : DpAll K H xs (frs qs)) : Lq K (upd H M (.lst xs)) M qs := ⟨xs, upd_same, dps_same (same_upd n) _ _ d⟩
theorem Lq.last {K : PySem.W.Frag} {H : Hp} {L : Addr} {ls : List Rat} {l : Rat} (h : Lq K H L (ls ++ [l])) : ∃ us u, H L = some (.lst (us ++ [u])) ∧ Dp K H u (frD l) := by
  obtain ⟨us, a, b⟩ := h
  rw [frs_app] at b
  have hl := dps_len b
  have e : us = us.take ls.length ++ us.drop ls.length := (List.take_append_drop _ _).symm
  have d2 := dps_drop ls.length b
  have e2 : (frs ls ++ frs [l]).drop ls.length = frs [l] := by
    have e3 : (frs ls).length = ls.length := List.length_map ..
    rw [← e3]
    exact List.drop_left
  rw [e2] at d2
  generalize us.drop ls.length = ds at *
  cases d2 with
  | cons x t =>
    cases t
    rw [e] at a
    exact ⟨_, _, a, x⟩
section
variable {X : Cx}
theorem sl_lq : SlR X (rSlLq X.K) := fun pins s σ H x v vl vu lo hi sl Q I rx hs pl pu h => by
  obtain ⟨L, qs, rfl, ⟨us, a, b⟩, q⟩ := h
  refine sl_list pins s σ H _ v vl vu lo hi sl Q I rx hs pl pu ⟨L, us, rfl, SqL.of a, fun p np => q p _ (same_upd np) np (Lq.new np ?_)⟩
  rw [← cut_frs]
  exact dps_cut lo hi b
theorem op_catLq : OpR X (binaryOp .Add) (rCatLq X.K) := fun pins s σ H x y v u Q I rx ry h => by
  obtain ⟨L, M, q1, q2, rfl, rfl, l1, l2, hl, q⟩ := h
  obtain ⟨us, a, ua, b⟩ := l1.len
  obtain ⟨us2, a2, ua2, b2⟩ := l2.len
  refine op_cat pins s σ H _ _ v u Q I rx ry ⟨L, M, us, us2, rfl, rfl, a, a2, Nat.le_of_lt (Nat.lt_of_le_of_lt (by omega) (by decide : 1000 < sizeLine)), fun p np => q p _ (same_upd np) np (Lq.new np ?_)⟩
  rw [frs_app]
  exact dps_app b b2
end
theorem cut_to_i {α : Type} {xs : List α} {i : Int} {n : Nat} (h : i = (n : Int)) : cutG xs none (some i) = xs.take n := by
  rw [h]
  exact cutG_to xs n
theorem cut_from_i {α : Type} {xs : List α} {i : Int} {n : Nat} (h : i = (n : Int)) : cutG xs (some i) none = xs.drop n := by
  rw [h]
  exact cutG_from xs n
theorem cut_amid_i {α : Type} {xs : List α} {i j : Int} {n m : Nat} (h : i = (n : Int)) (h2 : j = (m : Int)) : cutG xs (some i) (some j) = (xs.drop n).take (m - n) := by
  rw [h, h2]
  exact cutG_amid xs n m
end Ep
namespace Ep
open PySem PySem.Spec PyProof.Rows L2
/-! ### what an expression tells, as data, wherever the heap has grown to -/
def Ls (K : PySem.W.Frag) (H : Hp) (L : Addr) (ds : List PyData) : Prop := ∃ us, H L = some (.lst us) ∧ DpAll K H us ds
def VD (K : PySem.W.Frag) (te : TE) (σ : L2.St) (H : Hp) (d : PyData) : Prop := ∀ H1, Same H H1 → ∀ Q : VK, (∀ v H2, Same H1 H2 → Dp K H2 v d → Q v H2) → te σ H1 Q
def VDs (K : PySem.W.Frag) (t : TA) (σ : L2.St) (H : Hp) (ds : List PyData) : Prop := ∀ H1, Same H H1 → ∀ Q : List V → Hp → Prop, (∀ vs H2, Same H1 H2 → DpAll K H2 vs ds → Q vs H2) → t σ H1 Q
/-- a list laid anew -/
def VL (K : PySem.W.Frag) (te : TE) (σ : L2.St) (H : Hp) (ds : List PyData) : Prop := ∀ H1, Same H H1 → ∀ Q : VK, (∀ L H2, H1 L = none → Same H1 H2 → Ls K H2 L ds → Q (.ref L) H2) → te σ H1 Q
def VT (tt : TT) (σ : L2.St) (H : Hp) (b : Bool) : Prop := ∀ H1, Same H H1 → ∀ Q : Bool → Hp → Prop, (∀ H2, Same H1 H2 → Q b H2) → tt σ H1 Q
/-- a list that stands already, not to be changed by what asks -/
theorem Ls.same {K : PySem.W.Frag} {H H' : Hp} {L : Addr} {ds : List PyData} (h : Ls K H L ds) (e : Same H H') : Ls K H' L ds := by
  obtain ⟨us, a, b⟩ := h
  exact ⟨us, e _ _ a, dps_same e _ _ b⟩
theorem Ls.dp {K : PySem.W.Frag} {H : Hp} {L : Addr} {ds : List PyData} (h : Ls K H L ds) : Dp K H (.ref L) (.list ds) := by
  obtain ⟨us, a, b⟩ := h
  exact .lst (SqL.of a) b
theorem Ls.ne {K : PySem.W.Frag} {H : Hp} {L M : Addr} {ds : List PyData} (h : Ls K H L ds) (n : H M = none) : L ≠ M := by
  obtain ⟨us, a, b⟩ := h
  exact ne_of_none a n
theorem Ls.lq {K : PySem.W.Frag} {H : Hp} {L : Addr} {qs : List Rat} (h : Ls K H L (frs qs)) : Lq K H L qs := h
theorem Ls.chg {K : PySem.W.Frag} {H H' : Hp} {L p : Addr} {ds : List PyData} {l : List V} (h : Ls K H L ds) (c : Chg p H H') (hp : H p = some (.lst l)) (n : L ≠ p) (nl : noLs ds = true) : Ls K H' L ds := by
  obtain ⟨us, a, b⟩ := h
  exact ⟨us, c _ _ n a, dps_chg c hp _ _ nl b⟩
theorem Bx.ls {K : PySem.W.Frag} {H H' : Hp} {L p : Addr} {ds : List PyData} {n : Nat} (b : Bx H p n) (c : Chg p H H') (h : Ls K H L ds) (ne : L ≠ p) (nl : noLs ds = true) : Ls K H' L ds := by
  obtain ⟨l, e⟩ := b.at
  exact h.chg c e ne nl
/-- another list is changed -/
theorem Ls.other {K : PySem.W.Frag} {H H' : Hp} {L p : Addr} {ds es : List PyData} (g : Ls K H p es) (c : Chg p H H') (h : Ls K H L ds) (n : L ≠ p) (nl : noLs ds = true) : Ls K H' L ds := by
  obtain ⟨us, a, b⟩ := g
  exact h.chg c a n nl
theorem Ls.dat {K : PySem.W.Frag} {H H' : Hp} {p : Addr} {es : List PyData} {v : V} {d : PyData} (g : Ls K H p es) (c : Chg p H H') (h : Dp K H v d) (nl : noL d = true) : Dp K H' v d := by
  obtain ⟨us, a, b⟩ := g
  exact dp_chg c a d v nl h
theorem Ls.bx {K : PySem.W.Frag} {H H' : Hp} {p L : Addr} {n : Nat} (b : Bx H p n) (c : Chg L H H') (ne : p ≠ L) : Bx H' p n := by
  obtain ⟨x, y, z, e, r⟩ := b.ex
  exact ⟨x, y, z, c _ _ ne e, r⟩
theorem Chg.chg_new {p L : Addr} {H H1 H2 : Hp} (a : Chg p H H1) (n : H L = none) (c : Chg L H1 H2) : Chg p H H2 := fun b o nb e => c b o (ne_of_none e n) (a b o nb e)
theorem dp_eq {K : PySem.W.Frag} {H : Hp} {v : V} {d d' : PyData} (h : Dp K H v d) (e : d = d') : Dp K H v d' := e ▸ h
theorem fr_eq {q r : Rat} (e : q = r) : frD q = frD r := congrArg frD e
theorem frs_eq {q r : List Rat} (e : q = r) : frs q = frs r := congrArg frs e
theorem tup_eq {a b : List PyData} (e : a = b) : PyData.tuple a = .tuple b := congrArg _ e
theorem lst_eq {a b : List PyData} (e : a = b) : PyData.list a = .list b := congrArg _ e
theorem cons_eq {a b : PyData} {s t : List PyData} (e : a = b) (f : s = t) : a :: s = b :: t := by rw [e, f]
section
variable {K : PySem.W.Frag} {σ : L2.St} {H H' : Hp} {te ti tj : TE} {t : TA} {d : PyData} {ds es : List PyData} {v : V}
theorem VD.same (h : VD K te σ H d) (e : Same H H') : VD K te σ H' d := fun H1 s Q q => h H1 (e.trans s) Q q
theorem VD.eq {d' : PyData} (h : VD K te σ H d) (e : d = d') : VD K te σ H d' := e ▸ h
theorem VL.eq {es : List PyData} (h : VL K te σ H ds) (e : ds = es) : VL K te σ H es := e ▸ h
theorem VL.vd (h : VL K te σ H ds) : VD K te σ H (.list ds) := fun H1 s Q q => h H1 s Q fun L H2 _ s2 l => q _ _ s2 l.dp
theorem vd_var {i : Nat} (h : Dp K H v d) (e : σ[i]? = some (some v)) : VD K (tVar i) σ H d := fun H1 s Q q => ⟨v, e, q v H1 (Same.refl H1) (dp_same s _ _ h)⟩
theorem vd_c (h : ∀ H, Dp K H v d) : VD K (tC v) σ H d := fun H1 s Q q => q v H1 (Same.refl H1) (h H1)
theorem vd_int {i : Int} : VD K (tC (.int i)) σ H (.int i) := vd_c fun _ => .int i
theorem vd_bl {b : Bool} : VD K (tC (.bl b)) σ H (.bool b) := vd_c fun _ => .bl b
theorem vd_str {x : Str} : VD K (tC (.str x)) σ H (.str x) := vd_c fun _ => .str x
theorem vd_non : VD K (tC .non) σ H .none := vd_c fun _ => .non
theorem vds_nil : VDs K tNil σ H [] := fun H1 s Q q => q [] H1 (Same.refl H1) .nil
theorem vds_cons (h : VD K te σ H d) (g : VDs K t σ H ds) : VDs K (tCons te t) σ H (d :: ds) := fun H1 s Q q =>
  h H1 s _ fun v H2 s2 dv => g H2 (s.trans s2) _ fun vs H3 s3 dvs => q _ _ (s2.trans s3) (.cons (dp_same s3 _ _ dv) dvs)
theorem small_le {n : Nat} (h : n ≤ 1000) : n ≤ sizeLine := Nat.le_trans h (by decide)
theorem vd_tup (g : VDs K t σ H ds) (hl : ds.length ≤ 1000) : VD K (tTup t) σ H (.tuple ds) := fun H1 s Q q =>
  g H1 s _ fun vs H2 s2 dvs => ⟨by rw [dps_len dvs]; exact small_le hl, fun p np => q _ _ (s2.trans (same_upd np)) (new_tup np dvs)⟩
theorem vl_lst (g : VDs K t σ H ds) (hl : ds.length ≤ 1000) : VL K (tLst t) σ H ds := fun H1 s Q q =>
  g H1 s _ fun vs H2 s2 dvs => ⟨by rw [dps_len dvs]; exact small_le hl, fun p np => q _ _ (s2.free np) (s2.trans (same_upd np)) ⟨vs, upd_same, dps_same (same_upd np) _ _ dvs⟩⟩
/-- a pair of written numbers is a FRACTION -/
theorem vd_fr {i j : Int} (q : Rat) (h : VD K te σ H (.tuple [.int i, .int j])) (h1 : q.num = i) (h2 : (q.den : Int) = j) : VD K te σ H (frD q) := by
  subst h1 h2
  exact h
theorem atI_dp {xs : List V} {i : Int} (h : DpAll K H xs ds) (e : atI ds i = some d) : ∃ v, atI xs i = some v ∧ Dp K H v d := by
  unfold atI at *
  rw [dps_len h]
  cases hj : ixN ds.length i with
  | none =>
    rw [hj] at e
    cases e
  | some j =>
    rw [hj] at e
    have hl := dps_len h
    have hlt : j < xs.length := by
      have e2 : ds[j]? = some d := e
      obtain ⟨z, _⟩ := List.getElem?_eq_some_iff.mp e2
      omega
    have ex : xs[j]? = some xs[j] := List.getElem?_eq_getElem hlt
    obtain ⟨d2, hd2, dd⟩ := dps_get h ex
    have e3 : d2 = d := Option.some.inj (hd2.symm.trans e)
    subst e3
    exact ⟨_, ex, dd⟩
theorem vd_ixT {i : Int} (h : VD K te σ H (.tuple ds)) (g : VD K ti σ H (.int i)) (e : atI ds i = some d) : VD K (tOp (rIxT K) te ti) σ H d := fun H1 s Q q =>
  h H1 s _ fun v H2 s2 dv => g H2 (s.trans s2) _ fun w H3 s3 dw => by
    cases dw
    obtain ⟨a, xs, rfl, ha, hxs⟩ := dp_tup (dp_same s3 _ _ dv)
    obtain ⟨u, e1, e2⟩ := atI_dp hxs e
    exact ⟨a, xs, i, u, rfl, rfl, ha, e1, q _ _ (s2.trans s3) e2⟩
theorem vd_ixL {i : Int} (h : VD K te σ H (.list ds)) (g : VD K ti σ H (.int i)) (e : atI ds i = some d) : VD K (tOp (rIxL K) te ti) σ H d := fun H1 s Q q =>
  h H1 s _ fun v H2 s2 dv => g H2 (s.trans s2) _ fun w H3 s3 dw => by
    cases dw
    obtain ⟨a, xs, rfl, ha, hxs⟩ := dp_lst (dp_same s3 _ _ dv)
    obtain ⟨u, e1, e2⟩ := atI_dp hxs e
    exact ⟨a, xs, i, u, rfl, rfl, ha, e1, q _ _ (s2.trans s3) e2⟩
/-! numbers -/
theorem vd_i0 {g : Int → Int → V} {f : Int → Int → PyData} {i j : Int} (h : VD K ti σ H (.int i)) (k : VD K tj σ H (.int j)) (e : ∀ H, Dp K H (g i j) (f i j)) : VD K (tOp (rI0 g) ti tj) σ H (f i j) := fun H1 s Q q =>
  h H1 s _ fun v H2 s2 dv => k H2 (s.trans s2) _ fun w H3 s3 dw => by
    cases dv
    cases dw
    exact ⟨i, j, rfl, rfl, q _ _ (s2.trans s3) (e _)⟩
theorem vd_iC {C : Int → Int → Prop} {g : Int → Int → V} {f : Int → Int → PyData} {i j : Int} (h : VD K ti σ H (.int i)) (k : VD K tj σ H (.int j)) (hc : C i j) (e : ∀ H, Dp K H (g i j) (f i j)) : VD K (tOp (rI C g) ti tj) σ H (f i j) := fun H1 s Q q =>
  h H1 s _ fun v H2 s2 dv => k H2 (s.trans s2) _ fun w H3 s3 dw => by
    cases dv
    cases dw
    exact ⟨i, j, rfl, rfl, hc, q _ _ (s2.trans s3) (e _)⟩
theorem vd_u {g : Int → V} {f : Int → PyData} {i : Int} (h : VD K ti σ H (.int i)) (e : ∀ H, Dp K H (g i) (f i)) : VD K (tUn (rU g) ti) σ H (f i) := fun H1 s Q q =>
  h H1 s _ fun v H2 s2 dv => by
    cases dv
    exact ⟨i, rfl, q _ _ s2 (e _)⟩
theorem vd_add {i j : Int} (h : VD K ti σ H (.int i)) (k : VD K tj σ H (.int j)) : VD K (tOp (rI0 fun i j => .int (i + j)) ti tj) σ H (.int (i + j)) := vd_i0 (f := fun i j => .int (i + j)) h k fun _ => .int _
theorem vd_sub {i j : Int} (h : VD K ti σ H (.int i)) (k : VD K tj σ H (.int j)) : VD K (tOp (rI0 fun i j => .int (i - j)) ti tj) σ H (.int (i - j)) := vd_i0 (f := fun i j => .int (i - j)) h k fun _ => .int _
theorem vd_neg {i : Int} (h : VD K ti σ H (.int i)) : VD K (tUn (rU fun i => .int (-i)) ti) σ H (.int (-i)) := vd_u (f := fun i => .int (-i)) h fun _ => .int _
theorem vd_mulC {C : Int → Int → Prop} {i j : Int} (h : VD K ti σ H (.int i)) (k : VD K tj σ H (.int j)) (hc : C i j) : VD K (tOp (rI C fun i j => .int (i * j)) ti tj) σ H (.int (i * j)) := vd_iC (f := fun i j => .int (i * j)) h k hc fun _ => .int _
theorem vd_divC {C : Int → Int → Prop} {i j : Int} (h : VD K ti σ H (.int i)) (k : VD K tj σ H (.int j)) (hc : C i j) : VD K (tOp (rI C fun i j => .int (i / j)) ti tj) σ H (.int (i / j)) := vd_iC (f := fun i j => .int (i / j)) h k hc fun _ => .int _
theorem vd_modC {C : Int → Int → Prop} {i j : Int} (h : VD K ti σ H (.int i)) (k : VD K tj σ H (.int j)) (hc : C i j) : VD K (tOp (rI C fun i j => .int (i % j)) ti tj) σ H (.int (i % j)) := vd_iC (f := fun i j => .int (i % j)) h k hc fun _ => .int _
theorem vd_cmp0 {p : Int → Int → Bool} {i j : Int} (h : VD K ti σ H (.int i)) (k : VD K tj σ H (.int j)) : VD K (tOp (rI0 fun i j => .bl (p i j)) ti tj) σ H (.bool (p i j)) := vd_i0 (f := fun i j => .bool (p i j)) h k fun _ => .bl _
end
end Ep

namespace Ep
open PySem PySem.Spec PyProof.Rows L2
/-! ### calls of defs that change nothing -/
def spP (K : PySem.W.Frag) (P : List PyData → PyData → Prop) : Sp := fun vs H Q _ => ∃ ds d, DpAll K H vs ds ∧ P ds d ∧ ∀ v H', Same H H' → Dp K H' v d → Q v H'
def spPL (K : PySem.W.Frag) (P : List PyData → List PyData → Prop) : Sp := fun vs H Q _ => ∃ ds es, DpAll K H vs ds ∧ P ds es ∧ ∀ L H', H L = none → Same H H' → Ls K H' L es → Q (.ref L) H'
section
variable {K : PySem.W.Frag} {σ : L2.St} {H H' : Hp} {te ti tj tl : TE} {t tk : TA} {d : PyData} {ds es fs : List PyData} {v : V} {E : XK} {P : List PyData → PyData → Prop} {PL : List PyData → List PyData → Prop}
theorem vd_call (a : VDs K t σ H ds) (h : P ds d) : VD K (tCall (spP K P) [] E t) σ H d := fun H1 s Q q => a H1 s _ fun vs H2 s2 dvs => by
  rw [List.append_nil]
  exact ⟨ds, d, dvs, h, fun v H3 s3 dv => q _ _ (s2.trans s3) dv⟩
theorem vl_call (a : VDs K t σ H ds) (h : PL ds es) : VL K (tCall (spPL K PL) [] E t) σ H es := fun H1 s Q q => a H1 s _ fun vs H2 s2 dvs => by
  rw [List.append_nil]
  exact ⟨ds, es, dvs, h, fun L H3 n s3 l => q _ _ (s2.free n) (s2.trans s3) l⟩
/-- arguments that are left out -/
theorem vd_callD {dvs : List V} {us : List PyData} (a : VDs K t σ H ds) (hd : ∀ H, DpAll K H dvs us) (h : P (ds ++ us) d) : VD K (tCall (spP K P) dvs E t) σ H d := fun H1 s Q q => a H1 s _ fun vs H2 s2 xs =>
  ⟨ds ++ us, d, dps_app xs (hd H2), h, fun v H3 s3 dv => q _ _ (s2.trans s3) dv⟩
theorem vl_callD {dvs : List V} {us : List PyData} (a : VDs K t σ H ds) (hd : ∀ H, DpAll K H dvs us) (h : PL (ds ++ us) es) : VL K (tCall (spPL K PL) dvs E t) σ H es := fun H1 s Q q => a H1 s _ fun vs H2 s2 xs =>
  ⟨ds ++ us, es, dps_app xs (hd H2), h, fun L H3 n s3 l => q _ _ (s2.free n) (s2.trans s3) l⟩
theorem vd_callN {n m : Nat} {gV : List V → List V → List V} (a : VDs K t σ H ds) (b : VDs K tk σ H es) (hn : ds.length = n) (hm : es.length = m) (hg : ∀ (H : Hp) (vs zs : List V), DpAll K H vs ds → DpAll K H zs es → DpAll K H (gV vs zs) fs) (h : P fs d) :
    VD K (tCallN n m (spP K P) gV E t tk) σ H d := fun H1 s Q q => a H1 s _ fun vs H2 s2 dvs => b H2 (s.trans s2) _ fun zs H3 s3 dzs =>
  ⟨(dps_len dvs).trans hn, (dps_len dzs).trans hm, fs, d, hg _ _ _ (dps_same s3 _ _ dvs) dzs, h, fun v H4 s4 dv => q _ _ (s2.trans (s3.trans s4)) dv⟩
theorem vl_callN {n m : Nat} {gV : List V → List V → List V} {rs : List PyData} (a : VDs K t σ H ds) (b : VDs K tk σ H es) (hn : ds.length = n) (hm : es.length = m) (hg : ∀ (H : Hp) (vs zs : List V), DpAll K H vs ds → DpAll K H zs es → DpAll K H (gV vs zs) fs) (h : PL fs rs) :
    VL K (tCallN n m (spPL K PL) gV E t tk) σ H rs := fun H1 s Q q => a H1 s _ fun vs H2 s2 dvs => b H2 (s.trans s2) _ fun zs H3 s3 dzs =>
  ⟨(dps_len dvs).trans hn, (dps_len dzs).trans hm, fs, rs, hg _ _ _ (dps_same s3 _ _ dvs) dzs, h, fun L H4 n s4 l => q _ _ ((s2.trans s3).free n) (s2.trans (s3.trans s4)) l⟩
/-! tests -/
theorem vt_B {b : Bool} (h : VD K te σ H (.bool b)) : VT (tB te) σ H b := fun H1 s Q q => h H1 s _ fun v H2 s2 dv => by
  cases dv
  exact ⟨b, rfl, q _ s2⟩
theorem vt_test {b : Bool} (h : VD K te σ H (.bool b)) : VT (tTest te) σ H b := fun H1 s Q q => h H1 s _ fun v H2 s2 dv => by
  cases dv
  exact ⟨b, rfl, q _ s2⟩
theorem vt_not {tt : TT} {b : Bool} (h : VT tt σ H b) : VT (tNot tt) σ H (!b) := fun H1 s Q q => h H1 s _ q
theorem vt_or {t1 t2 : TT} {a b : Bool} (h : VT t1 σ H a) (g : a = false → VT t2 σ H b) : VT (tOr t1 t2) σ H (a || b) := fun H1 s Q q => h H1 s _ fun H2 s2 => by
  cases a with
  | true => exact iteT (q H2 s2)
  | false => exact iteF (g rfl H2 (s.trans s2) _ fun H3 s3 => q H3 (s2.trans s3))
theorem vt_and {t1 t2 : TT} {a b : Bool} (h : VT t1 σ H a) (g : a = true → VT t2 σ H b) : VT (tAnd t1 t2) σ H (a && b) := fun H1 s Q q => h H1 s _ fun H2 s2 => by
  cases a with
  | true => exact iteT (g rfl H2 (s.trans s2) _ fun H3 s3 => q H3 (s2.trans s3))
  | false => exact iteF (q H2 s2)
theorem VT.eq {tt : TT} {a b : Bool} (h : VT tt σ H a) (e : a = b) : VT tt σ H b := e ▸ h
theorem vd_not {b : Bool} (h : VD K te σ H (.bool b)) : VD K (tNotV te) σ H (.bool (!b)) := fun H1 s Q q => h H1 s _ fun v H2 s2 dv => by
  cases dv
  exact ⟨b, rfl, q _ _ s2 (.bl _)⟩
theorem vd_and {a b : Bool} (h : VD K ti σ H (.bool a)) (g : a = true → VD K tj σ H (.bool b)) : VD K (tAndV ti tj) σ H (.bool (a && b)) := fun H1 s Q q => h H1 s _ fun v H2 s2 dv => by
  cases dv
  refine ⟨a, rfl, ?_⟩
  cases a with
  | true => exact iteT (g rfl H2 (s.trans s2) _ fun v H3 s3 d3 => q _ _ (s2.trans s3) d3)
  | false => exact iteF (q _ _ s2 (.bl _))
theorem vd_or {a b : Bool} (h : VD K ti σ H (.bool a)) (g : a = false → VD K tj σ H (.bool b)) : VD K (tOrV ti tj) σ H (.bool (a || b)) := fun H1 s Q q => h H1 s _ fun v H2 s2 dv => by
  cases dv
  refine ⟨a, rfl, ?_⟩
  cases a with
  | true => exact iteT (q _ _ s2 (.bl _))
  | false => exact iteF (g rfl H2 (s.trans s2) _ fun v H3 s3 d3 => q _ _ (s2.trans s3) d3)
theorem vd_if {tt : TT} {b : Bool} (h : VT tt σ H b) (g1 : b = true → VD K ti σ H d) (g2 : b = false → VD K tj σ H d) : VD K (tIf tt ti tj) σ H d := fun H1 s Q q => h H1 s _ fun H2 s2 => by
  cases b with
  | true => exact iteT (g1 rfl H2 (s.trans s2) _ fun v H3 s3 d3 => q _ _ (s2.trans s3) d3)
  | false => exact iteF (g2 rfl H2 (s.trans s2) _ fun v H3 s3 d3 => q _ _ (s2.trans s3) d3)
theorem vl_if {tt : TT} {b : Bool} (h : VT tt σ H b) (g1 : b = true → VL K ti σ H ds) (g2 : b = false → VL K tj σ H ds) : VL K (tIf tt ti tj) σ H ds := fun H1 s Q q => h H1 s _ fun H2 s2 => by
  cases b with
  | true => exact iteT (g1 rfl H2 (s.trans s2) _ fun L H3 n s3 d3 => q _ _ (s2.free n) (s2.trans s3) d3)
  | false => exact iteF (g2 rfl H2 (s.trans s2) _ fun L H3 n s3 d3 => q _ _ (s2.free n) (s2.trans s3) d3)
theorem vd_eqI {i j : Int} (h : VD K ti σ H (.int i)) (k : VD K tj σ H (.int j)) : VD K (tOp rEq ti tj) σ H (.bool (decide (i = j))) := fun H1 s Q q => h H1 s _ fun v H2 s2 dv => k H2 (s.trans s2) _ fun w H3 s3 dw => by
  cases dv
  cases dw
  refine ⟨rfl, ?_⟩
  have e : decide (V.int i = V.int j) = decide (i = j) := by
    rw [Bool.eq_iff_iff]
    simp
  rw [e]
  exact q _ _ (s2.trans s3) (.bl _)
theorem vd_neI {i j : Int} (h : VD K ti σ H (.int i)) (k : VD K tj σ H (.int j)) : VD K (tOp rNe ti tj) σ H (.bool (!decide (i = j))) := fun H1 s Q q => h H1 s _ fun v H2 s2 dv => k H2 (s.trans s2) _ fun w H3 s3 dw => by
  cases dv
  cases dw
  refine ⟨rfl, ?_⟩
  have e : decide (V.int i = V.int j) = decide (i = j) := by
    rw [Bool.eq_iff_iff]
    simp
  rw [e]
  exact q _ _ (s2.trans s3) (.bl _)
theorem vd_eqS {i j : Str} (h : VD K ti σ H (.str i)) (k : VD K tj σ H (.str j)) : VD K (tOp rEq ti tj) σ H (.bool (decide (i = j))) := fun H1 s Q q => h H1 s _ fun v H2 s2 dv => k H2 (s.trans s2) _ fun w H3 s3 dw => by
  cases dv
  cases dw
  refine ⟨rfl, ?_⟩
  have e : decide (V.str i = V.str j) = decide (i = j) := by
    rw [Bool.eq_iff_iff]
    simp
  rw [e]
  exact q _ _ (s2.trans s3) (.bl _)
theorem vd_eqD {e : PyData} (h : VD K ti σ H d) (k : VD K tj σ H e) (h1 : SeqAt.shaped d = true) (h2 : SeqAt.shaped e = true) : VD K (tOp (rEqD K) ti tj) σ H (.bool (PyData.eqv d e)) := fun H1 s Q q =>
  h H1 s _ fun v H2 s2 dv => k H2 (s.trans s2) _ fun w H3 s3 dw => ⟨d, e, dp_same s3 _ _ dv, dw, h1, h2, q _ _ (s2.trans s3) (.bl _)⟩
theorem vd_neD {e : PyData} (h : VD K ti σ H d) (k : VD K tj σ H e) (h1 : SeqAt.shaped d = true) (h2 : SeqAt.shaped e = true) : VD K (tOp (rNeD K) ti tj) σ H (.bool (!PyData.eqv d e)) := fun H1 s Q q =>
  h H1 s _ fun v H2 s2 dv => k H2 (s.trans s2) _ fun w H3 s3 dw => ⟨d, e, dp_same s3 _ _ dv, dw, h1, h2, q _ _ (s2.trans s3) (.bl _)⟩
/-! what is built in -/
theorem vd_lenT (h : VD K te σ H (.tuple ds)) : VD K (tCB (fun xs H Q => ∃ p ys, xs = [.ref p] ∧ (SqL K H p ys ∨ SqT K H p ys) ∧ Q (.int ys.length) H) (tCons te tNil)) σ H (.int (ds.length : Nat)) := fun H1 s Q q =>
  h H1 s _ fun v H2 s2 dv => by
    obtain ⟨a, xs, rfl, ha, hxs⟩ := dp_tup dv
    refine ⟨a, xs, rfl, .inr ha, ?_⟩
    rw [dps_len hxs]
    exact q _ _ s2 (.int _)
theorem vd_lenL (h : VD K te σ H (.list ds)) : VD K (tCB (fun xs H Q => ∃ p ys, xs = [.ref p] ∧ (SqL K H p ys ∨ SqT K H p ys) ∧ Q (.int ys.length) H) (tCons te tNil)) σ H (.int (ds.length : Nat)) := fun H1 s Q q =>
  h H1 s _ fun v H2 s2 dv => by
    obtain ⟨a, xs, rfl, ha, hxs⟩ := dp_lst dv
    refine ⟨a, xs, rfl, .inl ha, ?_⟩
    rw [dps_len hxs]
    exact q _ _ s2 (.int _)
theorem vd_absI {i : Int} (h : VD K te σ H (.int i)) : VD K (tCB (fun xs H Q => ∃ i, xs = [V.int i] ∧ Q (.int (if i < 0 then -i else i)) H) (tCons te tNil)) σ H (.int (if i < 0 then -i else i)) := fun H1 s Q q =>
  h H1 s _ fun v H2 s2 dv => by
    cases dv
    exact ⟨i, rfl, q _ _ s2 (.int _)⟩
theorem vd_intB {b : Bool} (h : VD K te σ H (.bool b)) : VD K (tCB (fun xs H Q => (∃ i, xs = [V.int i] ∧ Q (.int i) H) ∨ ∃ k, xs = [V.bl k] ∧ Q (.int (if k then 1 else 0)) H) (tCons te tNil)) σ H (.int (if b then 1 else 0)) := fun H1 s Q q =>
  h H1 s _ fun v H2 s2 dv => by
    cases dv
    exact .inr ⟨b, rfl, q _ _ s2 (.int _)⟩
theorem vd_min2 {i j : Int} (h : VDs K t σ H [.int i, .int j]) : VD K (tCB (fun xs H Q => ∃ i j, xs = [V.int i, V.int j] ∧ Q (.int (if j < i then j else i)) H) t) σ H (.int (if j < i then j else i)) := fun H1 s Q q =>
  h H1 s _ fun vs H2 s2 dv => by
    cases dv with
    | cons a b =>
      cases b with
      | cons c e =>
        cases e
        cases a
        cases c
        exact ⟨i, j, rfl, q _ _ s2 (.int _)⟩
theorem vd_max2 {i j : Int} (h : VDs K t σ H [.int i, .int j]) : VD K (tCB (fun xs H Q => ∃ i j, xs = [V.int i, V.int j] ∧ Q (.int (if j > i then j else i)) H) t) σ H (.int (if j > i then j else i)) := fun H1 s Q q =>
  h H1 s _ fun vs H2 s2 dv => by
    cases dv with
    | cons a b =>
      cases b with
      | cons c e =>
        cases e
        cases a
        cases c
        exact ⟨i, j, rfl, q _ _ s2 (.int _)⟩
theorem vd_tupleL (h : VD K te σ H (.list ds)) : VD K (tCB (fun xs H Q => ∃ p ys, xs = [.ref p] ∧ ((SqL K H p ys ∧ ∀ l, H l = none → Q (.ref l) (upd H l (.tup ys))) ∨ (SqT K H p ys ∧ Q (.ref p) H))) (tCons te tNil)) σ H (.tuple ds) := fun H1 s Q q =>
  h H1 s _ fun v H2 s2 dv => by
    obtain ⟨a, xs, rfl, ha, hxs⟩ := dp_lst dv
    exact ⟨a, xs, rfl, .inl ⟨ha, fun l nl => q _ _ (s2.trans (same_upd nl)) (new_tup nl hxs)⟩⟩
theorem vd_tupleT (h : VD K te σ H (.tuple ds)) : VD K (tCB (fun xs H Q => ∃ p ys, xs = [.ref p] ∧ ((SqL K H p ys ∧ ∀ l, H l = none → Q (.ref l) (upd H l (.tup ys))) ∨ (SqT K H p ys ∧ Q (.ref p) H))) (tCons te tNil)) σ H (.tuple ds) := fun H1 s Q q =>
  h H1 s _ fun v H2 s2 dv => by
    obtain ⟨a, xs, rfl, ha, hxs⟩ := dp_tup dv
    exact ⟨a, xs, rfl, .inr ⟨ha, q _ _ s2 dv⟩⟩
theorem vl_listL (h : VD K te σ H (.list ds)) : VL K (tCB (fun xs H Q => ∃ p ys, xs = [.ref p] ∧ (SqL K H p ys ∨ SqT K H p ys) ∧ ∀ l, H l = none → Q (.ref l) (upd H l (.lst ys))) (tCons te tNil)) σ H ds := fun H1 s Q q =>
  h H1 s _ fun v H2 s2 dv => by
    obtain ⟨a, xs, rfl, ha, hxs⟩ := dp_lst dv
    exact ⟨a, xs, rfl, .inl ha, fun l nl => q _ _ (s2.free nl) (s2.trans (same_upd nl)) ⟨xs, upd_same, dps_same (same_upd nl) _ _ hxs⟩⟩
theorem vl_listT (h : VD K te σ H (.tuple ds)) : VL K (tCB (fun xs H Q => ∃ p ys, xs = [.ref p] ∧ (SqL K H p ys ∨ SqT K H p ys) ∧ ∀ l, H l = none → Q (.ref l) (upd H l (.lst ys))) (tCons te tNil)) σ H ds := fun H1 s Q q =>
  h H1 s _ fun v H2 s2 dv => by
    obtain ⟨a, xs, rfl, ha, hxs⟩ := dp_tup dv
    exact ⟨a, xs, rfl, .inr ha, fun l nl => q _ _ (s2.free nl) (s2.trans (same_upd nl)) ⟨xs, upd_same, dps_same (same_upd nl) _ _ hxs⟩⟩
/-! cut, joined, so many times -/
def cutO (o : TO) (σ : L2.St) (H : Hp) (i : Option Int) : Prop := ∀ H1, Same H H1 → ∀ Q : Option Int → Hp → Prop, (∀ H2, Same H1 H2 → Q i H2) → o σ H1 Q
theorem co_no : cutO tNoPart σ H none := fun H1 s Q q => q H1 (Same.refl H1)
theorem co_at {i : Int} (h : VD K ti σ H (.int i)) : cutO (tPart ti) σ H (some i) := fun H1 s Q q => h H1 s _ fun v H2 s2 dv => by
  cases dv
  exact ⟨i, rfl, q _ s2⟩
theorem vl_sl {lo hi : TO} {i j : Option Int} (h : VD K te σ H (.list ds)) (a : cutO lo σ H i) (b : cutO hi σ H j) : VL K (tSl (rSlL K) te lo hi) σ H (cutG ds i j) := fun H1 s Q q =>
  h H1 s _ fun v H2 s2 dv => a H2 (s.trans s2) _ fun H3 s3 => b H3 (s.trans (s2.trans s3)) _ fun H4 s4 => by
    obtain ⟨x, xs, rfl, ha, hxs⟩ := dp_lst (dp_same (s3.trans s4) _ _ dv)
    exact ⟨x, xs, rfl, ha, fun p np => q _ _ ((s2.trans (s3.trans s4)).free np) ((s2.trans (s3.trans s4)).trans (same_upd np)) ⟨_, upd_same, dps_same (same_upd np) _ _ (dps_cut i j hxs)⟩⟩
theorem vd_sl {lo hi : TO} {i j : Option Int} (h : VD K te σ H (.tuple ds)) (a : cutO lo σ H i) (b : cutO hi σ H j) : VD K (tSl (rSlD K) te lo hi) σ H (.tuple (cutG ds i j)) := fun H1 s Q q =>
  h H1 s _ fun v H2 s2 dv => a H2 (s.trans s2) _ fun H3 s3 => b H3 (s.trans (s2.trans s3)) _ fun H4 s4 =>
    ⟨ds, dp_same (s3.trans s4) _ _ dv, fun v H' s5 d5 => q _ _ ((s2.trans (s3.trans s4)).trans s5) d5⟩
theorem vd_cat (h : VD K ti σ H (.tuple ds)) (k : VD K tj σ H (.tuple es)) (hl : ds.length + es.length ≤ 1000) : VD K (tOp (rCatD K) ti tj) σ H (.tuple (ds ++ es)) := fun H1 s Q q =>
  h H1 s _ fun v H2 s2 dv => k H2 (s.trans s2) _ fun w H3 s3 dw => ⟨ds, es, dp_same s3 _ _ dv, dw, hl, fun v H' s4 d4 => q _ _ (s2.trans (s3.trans s4)) d4⟩
end
/-- an expression that tells a list that may be joined: not one of the script's -/
def VX (K : PySem.W.Frag) (te : TE) (σ : L2.St) (H : Hp) (ds : List PyData) : Prop := ∀ H1, Same H H1 → ∀ Q : VK, (∀ L H2, Same H1 H2 → Ls K H2 L ds → Q (.ref L) H2) → te σ H1 Q
section
variable {K : PySem.W.Frag} {σ : L2.St} {H H' : Hp} {te ti tj tl : TE} {t tk : TA} {d : PyData} {ds es fs : List PyData} {v : V} {E : XK}
theorem VL.vx (h : VL K te σ H ds) : VX K te σ H ds := fun H1 s Q q => h H1 s Q fun L H2 _ s2 l => q _ _ s2 l
theorem vx_var {i : Nat} {L : Addr} (h : Ls K H L ds) (e : σ[i]? = some (some (.ref L))) : VX K (tVar i) σ H ds := fun H1 s Q q => ⟨.ref L, e, q L H1 (Same.refl H1) (h.same s)⟩
theorem vl_cat (h : VX K ti σ H ds) (k : VX K tj σ H es) (hl : ds.length + es.length ≤ 1000) : VL K (tOp rCat ti tj) σ H (ds ++ es) := fun H1 s Q q =>
  h H1 s _ fun L H2 s2 l1 => k H2 (s.trans s2) _ fun M H3 s3 l2 => by
    obtain ⟨us, a, b⟩ := l1.same s3
    obtain ⟨ws, a2, b2⟩ := l2
    exact ⟨L, M, us, ws, rfl, rfl, a, a2, by rw [dps_len b, dps_len b2]; exact small_le hl, fun p np => q _ _ ((s2.trans s3).free np) ((s2.trans s3).trans (same_upd np)) ⟨_, upd_same, dps_same (same_upd np) _ _ (dps_app b b2)⟩⟩
theorem dps_rep {xs : List V} (h : DpAll K H xs ds) : ∀ n : Nat, DpAll K H (List.replicate n xs).flatten (List.replicate n ds).flatten
  | 0 => .nil
  | n + 1 => by
    rw [List.replicate_succ, List.replicate_succ, List.flatten_cons, List.flatten_cons]
    exact dps_app h (dps_rep h n)
end
section
variable {K : PySem.W.Frag} {σ : L2.St} {H H' : Hp} {te ti tj tl : TE} {t tk : TA} {d : PyData} {ds es fs : List PyData} {v : V} {E : XK} {D : Ends} {u : TS} {tt : TT} {tb tc : TS}
/-! ### statements -/
theorem st_set {i : Nat} (h : VD K te σ H d) (k : ∀ v H', Same H H' → Dp K H' v d → u D (σ.set i (some v)) H') : tSeq (tAsg te (gName i)) u D σ H := h H (Same.refl H) _ k
theorem st_setL {i : Nat} (h : VL K te σ H ds) (k : ∀ L H', H L = none → Same H H' → Ls K H' L ds → u D (σ.set i (some (.ref L))) H') : tSeq (tAsg te (gName i)) u D σ H := h H (Same.refl H) _ k
theorem st_par {i j : Nat} {e : PyData} (h : VD K ti σ H d) (g : VD K tj σ H e) (k : ∀ v w H', Same H H' → Dp K H' v d → Dp K H' w e → u D ((σ.set i (some v)).set j (some w)) H') : tSeq (tPar i j (tCons ti (tCons tj tNil))) u D σ H :=
  h H (Same.refl H) _ fun v H2 s2 dv => g H2 s2 _ fun w H3 s3 dw => ⟨v, w, rfl, k v w H3 (s2.trans s3) (dp_same s3 _ _ dv) dw⟩
theorem st_parDL {i j : Nat} (h : VD K ti σ H d) (g : VL K tj σ H ds) (k : ∀ v L H', H L = none → Same H H' → Dp K H' v d → Ls K H' L ds → u D ((σ.set i (some v)).set j (some (.ref L))) H') : tSeq (tPar i j (tCons ti (tCons tj tNil))) u D σ H :=
  h H (Same.refl H) _ fun v H2 s2 dv => g H2 s2 _ fun w H3 n s3 dw => ⟨v, _, rfl, k v w H3 (s2.free n) (s2.trans s3) (dp_same s3 _ _ dv) dw⟩
theorem st_parLD {i j : Nat} (h : VL K ti σ H ds) (g : VD K tj σ H d) (k : ∀ L v H', H L = none → Same H H' → Ls K H' L ds → Dp K H' v d → u D ((σ.set i (some (.ref L))).set j (some v)) H') : tSeq (tPar i j (tCons ti (tCons tj tNil))) u D σ H :=
  h H (Same.refl H) _ fun L H2 n s2 dv => g H2 s2 _ fun w H3 s3 dw => ⟨_, w, rfl, k L w H3 n (s2.trans s3) (dv.same s3) dw⟩
theorem st_parLL {i j : Nat} (h : VL K ti σ H ds) (g : VL K tj σ H es) (k : ∀ L M H', H L = none → H M = none → L ≠ M → Same H H' → Ls K H' L ds → Ls K H' M es → u D ((σ.set i (some (.ref L))).set j (some (.ref M))) H') : tSeq (tPar i j (tCons ti (tCons tj tNil))) u D σ H :=
  h H (Same.refl H) _ fun L H2 n s2 dv => g H2 s2 _ fun M H3 m s3 dw => ⟨_, _, rfl, k L M H3 n (s2.free m) (dv.ne m) (s2.trans s3) (dv.same s3) dw⟩
/-- a pair, a triple taken apart -/
theorem st_two {i j : Nat} {d1 d2 : PyData} (h : VD K te σ H (.tuple [d1, d2])) (k : ∀ v w H', Same H H' → Dp K H' v d1 → Dp K H' w d2 → u D ((σ.set i (some v)).set j (some w)) H') : tSeq (tAsg te (gTup K 2 (gCons (gName i) (gCons (gName j) gNil)))) u D σ H :=
  h H (Same.refl H) _ fun v H2 s2 dv => by
    obtain ⟨a, xs, rfl, ha, hxs⟩ := dp_tup dv
    cases hxs with
    | cons x1 r1 =>
      cases r1 with
      | cons x2 r2 =>
        cases r2
        exact ⟨a, _, rfl, ha, rfl, _, _, rfl, _, _, rfl, rfl, k _ _ H2 s2 x1 x2⟩
theorem st_three {i j l : Nat} {d1 d2 d3 : PyData} (h : VD K te σ H (.tuple [d1, d2, d3])) (k : ∀ v w x H', Same H H' → Dp K H' v d1 → Dp K H' w d2 → Dp K H' x d3 → u D (((σ.set i (some v)).set j (some w)).set l (some x)) H') :
    tSeq (tAsg te (gTup K 3 (gCons (gName i) (gCons (gName j) (gCons (gName l) gNil))))) u D σ H :=
  h H (Same.refl H) _ fun v H2 s2 dv => by
    obtain ⟨a, xs, rfl, ha, hxs⟩ := dp_tup dv
    cases hxs with
    | cons x1 r1 =>
      cases r1 with
      | cons x2 r2 =>
        cases r2 with
        | cons x3 r3 =>
          cases r3
          exact ⟨a, _, rfl, ha, rfl, _, _, rfl, _, _, rfl, _, _, rfl, rfl, k _ _ _ H2 s2 x1 x2 x3⟩
theorem st_ifF (h : VT tt σ H false) (k : ∀ H', Same H H' → u D σ H') : tSeq (tIfS tt tb tNext) u D σ H := h H (Same.refl H) _ fun H2 s2 => iteF (k H2 s2)
theorem st_ifT (h : VT tt σ H true) (k : ∀ H', Same H H' → tb { D with nx := u D } σ H') : tSeq (tIfS tt tb tc) u D σ H := h H (Same.refl H) _ fun H2 s2 => iteT (k H2 s2)
theorem st_if {b : Bool} (h : VT tt σ H b) (k1 : ∀ H', b = true → Same H H' → tb { D with nx := u D } σ H') (k2 : ∀ H', b = false → Same H H' → tc { D with nx := u D } σ H') : tSeq (tIfS tt tb tc) u D σ H := h H (Same.refl H) _ fun H2 s2 => by
  cases b with
  | true => exact iteT (k1 H2 rfl s2)
  | false => exact iteF (k2 H2 rfl s2)
theorem st_ret (h : VD K te σ H d) (k : ∀ v H', Same H H' → Dp K H' v d → D.rt v H') : tRet te D σ H := h H (Same.refl H) _ k
theorem st_retL (h : VL K te σ H ds) (k : ∀ L H', H L = none → Same H H' → Ls K H' L ds → D.rt (.ref L) H') : tRet te D σ H := h H (Same.refl H) _ k
/-- what stands for what is put to a list -/
theorem Ls.put {L : Addr} {us : List V} {w : V} (a : H L = some (.lst us)) (b : DpAll K H us ds) (dw : Dp K H w d) (n1 : noLs ds = true) (n2 : noL d = true) : Ls K (upd H L (.lst (us ++ [w]))) L (ds ++ [d]) := by
  refine ⟨us ++ [w], upd_same, dps_app (dps_chg chg_upd a _ _ n1 b) (.cons (dp_chg chg_upd a _ _ n2 dw) .nil)⟩
theorem st_append {i : Nat} {L : Addr} (e : σ[i]? = some (some (.ref L))) (h : Ls K H L ds) (g : VD K te σ H d) (hl : ds.length < 1000) (n1 : noLs ds = true) (n2 : noL d = true) (k : ∀ H' H2, Same H H2 → Chg L H2 H' → Ls K H2 L ds → Ls K H' L (ds ++ [d]) → u D σ H') :
    tSeq (tDrop (tBM K "list" rAppend (tVar i) (tCons te tNil))) u D σ H := by
  obtain ⟨us0, a0, b0⟩ := h
  refine ⟨.ref L, e, .inl ⟨rfl, us0, SqL.of a0⟩, g H (Same.refl H) _ fun w H2 s2 dw => ?_⟩
  obtain ⟨us, a, b⟩ := Ls.same (K := K) ⟨us0, a0, b0⟩ s2
  exact ⟨L, us, w, rfl, rfl, a, by rw [dps_len b]; exact small1000 (Nat.le_of_lt hl), k _ H2 s2 chg_upd ⟨us, a, b⟩ (Ls.put a b dw n1 n2)⟩
end
end Ep

namespace Ep
open PySem PySem.Spec PyProof.Rows L2
section
variable {K : PySem.W.Frag} {σ : L2.St} {H H' : Hp} {te ti tj tl : TE} {ta t tk : TA} {d : PyData} {ds es fs xs ys zs : List PyData} {v : V} {E : XK} {vs : List Nat} {i : Nat}
/-- so far filled -/
def Fil (K : PySem.W.Frag) (H : Hp) (D : Addr) (ys : List PyData) (i : Nat) (H2 : Hp) : Prop := Same H H2 ∧ Ls K H2 D (ys.take i)
theorem fil_put {D : Addr} {j : Nat} {w : V} (n : H D = none) (hj : ys[j]? = some d) (nl : noLs ys = true) (hl : ys.length ≤ 1000) (f : Fil K H D ys j H') (dw : Dp K H' w d) : ∃ acc, H' D = some (.lst acc) ∧ acc.length < sizeLine ∧ Fil K H D ys (j + 1) (upd H' D (.lst (acc ++ [w]))) := by
  obtain ⟨s, us, a, b⟩ := f
  have mem : ∀ (l : List PyData), noLs l = true → ∀ x ∈ l, noL x = true := by
    intro l
    induction l with
    | nil => intro _ x hx; cases hx
    | cons y l ih =>
      intro h x hx
      have h2 : noL y = true ∧ noLs l = true := by simpa [noLs] using h
      rcases List.mem_cons.mp hx with rfl | hx
      · exact h2.1
      · exact ih h2.2 x hx
  have tk : ∀ (l : List PyData) (k : Nat), noLs l = true → noLs (l.take k) = true := by
    intro l
    induction l with
    | nil => intro k _; simp [noLs]
    | cons y l ih =>
      intro k h
      have h2 : noL y = true ∧ noLs l = true := by simpa [noLs] using h
      cases k with
      | zero => rfl
      | succ k =>
        show (noL y && noLs (l.take k)) = true
        rw [h2.1, ih k h2.2]
        rfl
  refine ⟨us, a, ?_, Same.new_upd s n, ?_⟩
  · rw [dps_len b]
    exact small1000 (by rw [List.length_take]; omega)
  · rw [List.take_add_one, hj]
    exact Ls.put a b dw (tk _ _ nl) (mem _ nl _ (List.mem_of_getElem? hj))
theorem fil_same {D : Addr} {j : Nat} {H2 H3 : Hp} (f : Fil K H D ys j H2) (s : Same H2 H3) : Fil K H D ys j H3 := ⟨f.1.trans s, f.2.same s⟩
theorem fil_end {D : Addr} {n : Nat} {H2 : Hp} (hn : ys.length = n) (f : Fil K H D ys n H2) : Same H H2 ∧ Ls K H2 D ys := by
  have e : ys.take n = ys := List.take_of_length_le (by omega)
  have f2 := f.2
  rw [e] at f2
  exact ⟨f.1, f2⟩
/-- [te for x in range(n)] -/
theorem vl_rng {n : Int} (ha : VDs K ta σ H [.int n]) (hn : n = (ys.length : Nat)) (hl : ys.length ≤ 1000) (nl : noLs ys = true) (hw : ∀ x, wipe ((wipe σ vs).set i (some x)) vs = wipe σ vs)
    (he : ∀ (j : Nat) (d : PyData) (H2 : Hp), ys[j]? = some d → Same H H2 → VD K te ((wipe σ vs).set i (some (.int (j : Nat)))) H2 d) : VL K (tLc (iRng1 ta) (gName i) tYes te vs) σ H ys := fun H1 s Q q => ha H1 s _ fun ws H2 s2 dws => by
  cases dws with
  | cons x1 r1 =>
    cases r1
    cases x1
    refine ⟨n, rfl, by omega, by omega, fun D nD => ?_⟩
    have hN : n.toNat = ys.length := by omega
    refine lc_it walk_range (Fil K H2 D ys) ⟨same_upd nD, [], upd_same, .nil⟩ (fun _ _ _ _ => trivial) ?_ ?_
    · rintro j x H3 H4 hj f ⟨rfl, rfl⟩
      have hj2 : j < ys.length := by omega
      refine ⟨hw _, ?_⟩
      show te ((wipe σ vs).set i (some (V.int (0 + (j : Int))))) H4 _
      rw [Int.zero_add]
      refine he j _ H4 (List.getElem?_eq_getElem hj2) ((s.trans s2).trans f.1) _ (Same.refl _) _ fun v H5 s5 d5 => fil_put nD (List.getElem?_eq_getElem hj2) nl hl (fil_same f s5) d5
    · intro H3 f
      obtain ⟨s3, l3⟩ := fil_end hN.symm f
      exact q _ _ (s2.free nD) (s2.trans s3) l3
/-- [te for x in range(m, n)] -/
theorem vl_rng2 {m n : Int} (ha : VDs K ta σ H [.int m, .int n]) (hm : 0 ≤ m ∧ m ≤ 100000 ∧ -100000 ≤ n ∧ n ≤ 100000) (hn : (n - m).toNat = ys.length) (hl : ys.length ≤ 1000) (nl : noLs ys = true) (hw : ∀ x, wipe ((wipe σ vs).set i (some x)) vs = wipe σ vs)
    (he : ∀ (j : Nat) (d : PyData) (H2 : Hp), ys[j]? = some d → Same H H2 → VD K te ((wipe σ vs).set i (some (.int (m + j)))) H2 d) : VL K (tLc (iRng2 ta) (gName i) tYes te vs) σ H ys := fun H1 s Q q => ha H1 s _ fun ws H2 s2 dws => by
  cases dws with
  | cons x1 r1 =>
    cases r1 with
    | cons x2 r2 =>
      cases r2
      cases x1
      cases x2
      refine ⟨m, n, rfl, ⟨by omega, by omega, by omega, by omega⟩, fun D nD => ?_⟩
      refine lc_it walk_range (Fil K H2 D ys) ⟨same_upd nD, [], upd_same, .nil⟩ (fun _ _ _ _ => trivial) ?_ ?_
      · rintro j x H3 H4 hj f ⟨rfl, rfl⟩
        have hj2 : j < ys.length := by omega
        refine ⟨hw _, ?_⟩
        refine he j _ H4 (List.getElem?_eq_getElem hj2) ((s.trans s2).trans f.1) _ (Same.refl _) _ fun v H5 s5 d5 => fil_put nD (List.getElem?_eq_getElem hj2) nl hl (fil_same f s5) d5
      · intro H3 f
        obtain ⟨s3, l3⟩ := fil_end hn.symm f
        exact q _ _ (s2.free nD) (s2.trans s3) l3
theorem vl_mapL (ha : VD K tl σ H (.list xs)) (hn : xs.length = ys.length) (hl : ys.length ≤ 1000) (nl : noLs ys = true) (hw : ∀ x, wipe ((wipe σ vs).set i (some x)) vs = wipe σ vs)
    (he : ∀ (j : Nat) (x : V) (e d : PyData) (H2 : Hp), xs[j]? = some e → ys[j]? = some d → Same H H2 → Dp K H2 x e → VD K te ((wipe σ vs).set i (some x)) H2 d) : VL K (tLc (iList K tl) (gName i) tYes te vs) σ H ys := fun H1 s Q q => ha H1 s _ fun w H2 s2 dw => by
  obtain ⟨a, us, rfl, hu, du⟩ := dp_lst dw
  refine ⟨a, rfl, ⟨us, hu⟩, fun D nD => ?_⟩
  have hN : us.length = ys.length := (dps_len du).trans hn
  refine lc_it walk_list (Fil K H2 D ys) ⟨same_upd nD, [], upd_same, .nil⟩ (fun j H3 _ f => f.1.seq hu) ?_ ?_
  · rintro j x H3 H4 hj f ⟨rfl, hx⟩
    have hj2 : j < ys.length := by omega
    obtain ⟨e, he1, he2⟩ := dps_get du hx
    refine ⟨hw _, ?_⟩
    refine he j x e _ H4 he1 (List.getElem?_eq_getElem hj2) ((s.trans s2).trans f.1) (dp_same f.1 _ _ he2) _ (Same.refl _) _ fun v H5 s5 d5 => fil_put nD (List.getElem?_eq_getElem hj2) nl hl (fil_same f s5) d5
  · intro H3 f
    obtain ⟨s3, l3⟩ := fil_end hN.symm f
    exact q _ _ (s2.free nD) (s2.trans s3) l3
theorem vl_mapT (ha : VD K tl σ H (.tuple xs)) (hn : xs.length = ys.length) (hl : ys.length ≤ 1000) (nl : noLs ys = true) (hw : ∀ x, wipe ((wipe σ vs).set i (some x)) vs = wipe σ vs)
    (he : ∀ (j : Nat) (x : V) (e d : PyData) (H2 : Hp), xs[j]? = some e → ys[j]? = some d → Same H H2 → Dp K H2 x e → VD K te ((wipe σ vs).set i (some x)) H2 d) : VL K (tLc (iTup K tl) (gName i) tYes te vs) σ H ys := fun H1 s Q q => ha H1 s _ fun w H2 s2 dw => by
  obtain ⟨a, us, rfl, hu, du⟩ := dp_tup dw
  refine ⟨a, rfl, ⟨us, hu⟩, fun D nD => ?_⟩
  have hN : us.length = ys.length := (dps_len du).trans hn
  refine lc_it walk_tup (Fil K H2 D ys) ⟨same_upd nD, [], upd_same, .nil⟩ (fun j H3 _ f => Same.tup f.1 hu) ?_ ?_
  · rintro j x H3 H4 hj f ⟨rfl, hx⟩
    have hj2 : j < ys.length := by omega
    obtain ⟨e, he1, he2⟩ := dps_get du hx
    refine ⟨hw _, ?_⟩
    refine he j x e _ H4 he1 (List.getElem?_eq_getElem hj2) ((s.trans s2).trans f.1) (dp_same f.1 _ _ he2) _ (Same.refl _) _ fun v H5 s5 d5 => fil_put nD (List.getElem?_eq_getElem hj2) nl hl (fil_same f s5) d5
  · intro H3 f
    obtain ⟨s3, l3⟩ := fil_end hN.symm f
    exact q _ _ (s2.free nD) (s2.trans s3) l3
/-- [te for x, y in zip(a, b)]: of lists, of tuples -/
theorem vl_zipL {i2 : Nat} (ha : VDs K ta σ H [.list xs, .list zs]) (hn : min xs.length zs.length = ys.length) (hl : ys.length ≤ 1000) (nl : noLs ys = true) (hw : ∀ x y, wipe (((wipe σ vs).set i (some x)).set i2 (some y)) vs = wipe σ vs)
    (he : ∀ (j : Nat) (x y : V) (e f d : PyData) (H2 : Hp), xs[j]? = some e → zs[j]? = some f → ys[j]? = some d → Same H H2 → Dp K H2 x e → Dp K H2 y f → VD K te (((wipe σ vs).set i (some x)).set i2 (some y)) H2 d) :
    VL K (tLc (RZ.iZipA K ta) (gTup K 2 (gCons (gName i) (gCons (gName i2) gNil))) tYes te vs) σ H ys := fun H1 s Q q => ha H1 s _ fun ws H2 s2 dws => by
  cases dws with
  | cons x1 r1 =>
    cases r1 with
    | cons x2 r2 =>
      cases r2
      obtain ⟨a, us, rfl, hu, du⟩ := dp_lst x1
      obtain ⟨b, us2, rfl, hu2, du2⟩ := dp_lst x2
      refine ⟨a, b, us, us2, rfl, .inl ⟨hu, hu2, fun D nD => ?_⟩⟩
      have hN : min us.length us2.length = ys.length := by rw [dps_len du, dps_len du2]; exact hn
      refine lc_it (walk_zip rfl) (Fil K H2 D ys) ⟨same_upd nD, [], upd_same, .nil⟩ (fun j H3 _ f => ⟨f.1.seq hu, f.1.seq hu2⟩) ?_ ?_
      · rintro j x H3 H4 hj f ⟨T, x, y, rfl, nT, rfl, ex, ey⟩
        have hj2 : j < ys.length := by omega
        obtain ⟨e, he1, he2⟩ := dps_get du ex
        obtain ⟨g, hg1, hg2⟩ := dps_get du2 ey
        have sT := same_upd (o := .tup [x, y]) nT
        refine ⟨T, _, rfl, SqT.of upd_same, rfl, x, [y], rfl, y, [], rfl, rfl, hw _ _, ?_⟩
        refine he j x y e g _ _ he1 hg1 (List.getElem?_eq_getElem hj2) ((s.trans s2).trans (f.1.trans sT)) (dp_same (f.1.trans sT) _ _ he2) (dp_same (f.1.trans sT) _ _ hg2) _ (Same.refl _) _ fun v H5 s5 d5 => fil_put nD (List.getElem?_eq_getElem hj2) nl hl (fil_same f (sT.trans s5)) d5
      · intro H3 f
        obtain ⟨s3, l3⟩ := fil_end hN.symm f
        exact q _ _ (s2.free nD) (s2.trans s3) l3
theorem vl_zipT {i2 : Nat} (ha : VDs K ta σ H [.tuple xs, .tuple zs]) (hn : min xs.length zs.length = ys.length) (hl : ys.length ≤ 1000) (nl : noLs ys = true) (hw : ∀ x y, wipe (((wipe σ vs).set i (some x)).set i2 (some y)) vs = wipe σ vs)
    (he : ∀ (j : Nat) (x y : V) (e f d : PyData) (H2 : Hp), xs[j]? = some e → zs[j]? = some f → ys[j]? = some d → Same H H2 → Dp K H2 x e → Dp K H2 y f → VD K te (((wipe σ vs).set i (some x)).set i2 (some y)) H2 d) :
    VL K (tLc (RZ.iZipA K ta) (gTup K 2 (gCons (gName i) (gCons (gName i2) gNil))) tYes te vs) σ H ys := fun H1 s Q q => ha H1 s _ fun ws H2 s2 dws => by
  cases dws with
  | cons x1 r1 =>
    cases r1 with
    | cons x2 r2 =>
      cases r2
      obtain ⟨a, us, rfl, hu, du⟩ := dp_tup x1
      obtain ⟨b, us2, rfl, hu2, du2⟩ := dp_tup x2
      refine ⟨a, b, us, us2, rfl, .inr ⟨hu, hu2, fun D nD => ?_⟩⟩
      have hN : min us.length us2.length = ys.length := by rw [dps_len du, dps_len du2]; exact hn
      refine lc_it (walk_zipT rfl) (Fil K H2 D ys) ⟨same_upd nD, [], upd_same, .nil⟩ (fun j H3 _ f => ⟨Same.tup f.1 hu, Same.tup f.1 hu2⟩) ?_ ?_
      · rintro j x H3 H4 hj f ⟨T, x, y, rfl, nT, rfl, ex, ey⟩
        have hj2 : j < ys.length := by omega
        obtain ⟨e, he1, he2⟩ := dps_get du ex
        obtain ⟨g, hg1, hg2⟩ := dps_get du2 ey
        have sT := same_upd (o := .tup [x, y]) nT
        refine ⟨T, _, rfl, SqT.of upd_same, rfl, x, [y], rfl, y, [], rfl, rfl, hw _ _, ?_⟩
        refine he j x y e g _ _ he1 hg1 (List.getElem?_eq_getElem hj2) ((s.trans s2).trans (f.1.trans sT)) (dp_same (f.1.trans sT) _ _ he2) (dp_same (f.1.trans sT) _ _ hg2) _ (Same.refl _) _ fun v H5 s5 d5 => fil_put nD (List.getElem?_eq_getElem hj2) nl hl (fil_same f (sT.trans s5)) d5
      · intro H3 f
        obtain ⟨s3, l3⟩ := fil_end hN.symm f
        exact q _ _ (s2.free nD) (s2.trans s3) l3
theorem vl_rep {k : Int} (h : VX K ti σ H ds) (g : VD K tj σ H (.int k)) (hk : 0 ≤ k ∧ k ≤ 1000) (hl : ds.length * k.toNat ≤ 1000) : VL K (tOp rRep ti tj) σ H (List.replicate k.toNat ds).flatten := fun H1 s Q q =>
  h H1 s _ fun L H2 s2 l2 => g H2 (s.trans s2) _ fun w H3 s3 dw => by
    cases dw
    obtain ⟨us, a, b⟩ := l2.same s3
    refine ⟨L, k, us, rfl, rfl, a, by omega, by omega, by rw [dps_len b]; exact small_le hl, fun p np => q _ _ ((s2.trans s3).free np) ((s2.trans s3).trans (same_upd np)) ⟨_, upd_same, dps_same (same_upd np) _ _ (dps_rep b _)⟩⟩
theorem rep_one (n : Nat) (d : PyData) : (List.replicate n [d]).flatten = List.replicate n d := by
  induction n with
  | zero => rfl
  | succ n ih => rw [List.replicate_succ, List.flatten_cons, ih]; rfl
/-! ### numbers drawn -/
/-- [te for x in range(n)] where te draws -/
theorem lc_draw {p : Addr} {n0 c : Nat} {n : Int} {P : PyData → Prop} {Q : VK} (hb : Bx H p n0) (ha : VDs K ta σ H [.int n]) (hn : n ≤ 1000 ∧ -1000 ≤ n) (hP : ∀ d, P d → noL d = true) (hw : ∀ x, wipe ((wipe σ vs).set i (some x)) vs = wipe σ vs)
    (he : ∀ (j : Nat) (H2 : Hp) (R : VK), j < n.toNat → Chg p H H2 → Bx H2 p (n0 + c * j) → (∀ v d H3, P d → Chg p H2 H3 → Bx H3 p (n0 + c * j + c) → Dp K H3 v d → R v H3) → te ((wipe σ vs).set i (some (.int (j : Nat)))) H2 R)
    (q : ∀ L H' ys, H L = none → Chg p H H' → Bx H' p (n0 + c * n.toNat) → Ls K H' L ys → ys.length = n.toNat → (∀ d ∈ ys, P d) → Q (.ref L) H') : tLc (iRng1 ta) (gName i) tYes te vs σ H Q := ha H (Same.refl H) _ fun ws H2 s2 dws => by
  cases dws with
  | cons x1 r1 =>
    cases r1
    cases x1
    refine ⟨n, rfl, by omega, by omega, fun D nD => ?_⟩
    have b2 := hb.same s2
    have nDp := b2.ne nD
    have nDH : H D = none := s2.free nD
    refine lc_it walk_range (fun j H3 => Chg p H H3 ∧ Bx H3 p (n0 + c * j) ∧ ∃ ys, Ls K H3 D ys ∧ ys.length = j ∧ ∀ d ∈ ys, P d) ⟨Chg.of_same (s2.trans (same_upd nD)), b2.same (same_upd nD), [], ⟨[], upd_same, .nil⟩, rfl, by simp⟩ (fun _ _ _ _ => trivial) ?_ ?_
    · rintro j x H3 H4 hj ⟨c3, b3, ys, l3, hl3, hP3⟩ ⟨rfl, rfl⟩
      refine ⟨hw _, ?_⟩
      show te ((wipe σ vs).set i (some (V.int (0 + (j : Int))))) H4 _
      rw [Int.zero_add]
      refine he j H4 _ hj c3 b3 fun v d H5 hd c5 b5 d5 => ?_
      have nls : noLs ys = true := by
        clear l3 hl3
        induction ys with
        | nil => rfl
        | cons y ys ih =>
          show (noL y && noLs ys) = true
          rw [hP _ (hP3 y (List.mem_cons_self ..)), ih (fun d hd => hP3 d (List.mem_cons_of_mem _ hd))]
          rfl
      obtain ⟨us, a, b⟩ := b3.ls c5 l3 nDp nls
      refine ⟨us, a, by rw [dps_len b]; exact small1000 (by omega), (c3.trans c5).new_upd nDH, (b5.other nDp.symm).mono (by rw [Nat.mul_add]; omega), ys ++ [d], Ls.put a b d5 nls (hP d hd), by rw [List.length_append, hl3]; rfl, fun e hm => ?_⟩
      rcases List.mem_append.mp hm with hm | hm
      · exact hP3 e hm
      · rw [List.mem_singleton.mp hm]
        exact hd
    · rintro H3 ⟨c3, b3, ys, l3, hl3, hP3⟩
      exact q _ _ ys nDH c3 b3 l3 hl3 hP3
end
/-- a list whose things are FRACTIONs of a kind -/
theorem frs_of {P : Rat → Prop} : ∀ {ys : List PyData}, (∀ d ∈ ys, ∃ q, d = frD q ∧ P q) → ∃ qs, ys = frs qs ∧ ∀ q ∈ qs, P q
  | [], _ => ⟨[], rfl, by simp⟩
  | y :: ys, h => by
    obtain ⟨q, rfl, hq⟩ := h y (List.mem_cons_self ..)
    obtain ⟨qs, rfl, hqs⟩ := frs_of (fun d hd => h d (List.mem_cons_of_mem _ hd))
    refine ⟨q :: qs, rfl, fun x hx => ?_⟩
    rcases List.mem_cons.mp hx with rfl | hx
    · exact hq
    · exact hqs x hx
end Ep

namespace Ep
open PySem PySem.Spec PyProof.Rows L2
section
variable {K : PySem.W.Frag} {H : Hp} {vs : List V} {d1 d2 d3 d4 d5 : PyData}
theorem dps1 (h : DpAll K H vs [d1]) : ∃ x1, vs = [x1] ∧ Dp K H x1 d1 := by
  cases h with
  | cons a b =>
    cases b
    exact ⟨_, rfl, a⟩
theorem dps2 (h : DpAll K H vs [d1, d2]) : ∃ x1 x2, vs = [x1, x2] ∧ Dp K H x1 d1 ∧ Dp K H x2 d2 := by
  cases h with
  | cons a b =>
    obtain ⟨_, rfl, c⟩ := dps1 b
    exact ⟨_, _, rfl, a, c⟩
theorem dps3 (h : DpAll K H vs [d1, d2, d3]) : ∃ x1 x2 x3, vs = [x1, x2, x3] ∧ Dp K H x1 d1 ∧ Dp K H x2 d2 ∧ Dp K H x3 d3 := by
  cases h with
  | cons a b =>
    obtain ⟨_, _, rfl, c⟩ := dps2 b
    exact ⟨_, _, _, rfl, a, c⟩
theorem dps4 (h : DpAll K H vs [d1, d2, d3, d4]) : ∃ x1 x2 x3 x4, vs = [x1, x2, x3, x4] ∧ Dp K H x1 d1 ∧ Dp K H x2 d2 ∧ Dp K H x3 d3 ∧ Dp K H x4 d4 := by
  cases h with
  | cons a b =>
    obtain ⟨_, _, _, rfl, c⟩ := dps3 b
    exact ⟨_, _, _, _, rfl, a, c⟩
end
section
variable {K : PySem.W.Frag} {σ : L2.St} {H H' : Hp} {te ti tj tl : TE} {t tk : TA} {d : PyData} {ds es fs : List PyData} {D : Ends} {u : TS} {tt : TT} {tb tc : TS}
theorem st1_set {i : Nat} (h : VD K te σ H d) (k : ∀ v H', Same H H' → Dp K H' v d → D.nx (σ.set i (some v)) H') : tAsg te (gName i) D σ H := h H (Same.refl H) _ k
theorem st1_ifF (h : VT tt σ H false) (k : ∀ H', Same H H' → D.nx σ H') : tIfS tt tb tNext D σ H := h H (Same.refl H) _ fun H2 s2 => iteF (k H2 s2)
theorem st1_append {i : Nat} {L : Addr} (e : σ[i]? = some (some (.ref L))) (h : Ls K H L ds) (g : VD K te σ H d) (hl : ds.length < 1000) (n1 : noLs ds = true) (n2 : noL d = true) (k : ∀ H' H2, Same H H2 → Chg L H2 H' → Ls K H2 L ds → Ls K H' L (ds ++ [d]) → D.nx σ H') :
    tDrop (tBM K "list" rAppend (tVar i) (tCons te tNil)) D σ H := by
  obtain ⟨us0, a0, b0⟩ := h
  refine ⟨.ref L, e, .inl ⟨rfl, us0, SqL.of a0⟩, g H (Same.refl H) _ fun w H2 s2 dw => ?_⟩
  obtain ⟨us, a, b⟩ := Ls.same (K := K) ⟨us0, a0, b0⟩ s2
  exact ⟨L, us, w, rfl, rfl, a, by rw [dps_len b]; exact small1000 (Nat.le_of_lt hl), k _ H2 s2 chg_upd ⟨us, a, b⟩ (Ls.put a b dw n1 n2)⟩
theorem dps_bools : ∀ {vs : List V} {bs : List Bool}, DpAll K H vs (bs.map PyData.bool) → vs = bs.map V.bl
  | [], [], _ => rfl
  | [], _ :: _, h => by cases h
  | _ :: _, [], h => by cases h
  | v :: vs, b :: bs, h => by
    cases h with
    | cons a r =>
      cases a
      rw [dps_bools r]
      rfl
theorem vd_all {bs : List Bool} (h : VD K te σ H (.list (bs.map PyData.bool))) : VD K (tCB (rAll K) (tCons te tNil)) σ H (.bool (bs.all id)) := fun H1 s Q q => h H1 s _ fun v H2 s2 dv => by
  obtain ⟨a, xs, rfl, ha, hxs⟩ := dp_lst dv
  rw [dps_bools hxs] at ha
  exact ⟨a, bs, rfl, ha, q _ _ s2 (.bl _)⟩
theorem vd_any {bs : List Bool} (h : VD K te σ H (.list (bs.map PyData.bool))) : VD K (tCB (rAny K) (tCons te tNil)) σ H (.bool (bs.any id)) := fun H1 s Q q => h H1 s _ fun v H2 s2 dv => by
  obtain ⟨a, xs, rfl, ha, hxs⟩ := dp_lst dv
  rw [dps_bools hxs] at ha
  exact ⟨a, bs, rfl, ha, q _ _ s2 (.bl _)⟩
theorem noLs_bools : ∀ bs : List Bool, noLs (bs.map PyData.bool) = true
  | [] => rfl
  | b :: bs => by
    show (noL (.bool b) && noLs (bs.map PyData.bool)) = true
    rw [noLs_bools bs]
    rfl
end
/-- a whole number's size of at most z bits, as a value -/
def IsSz (K : PySem.W.Frag) (z : Nat) (H : Hp) (v : V) : Prop := ∃ q, Sz z q ∧ Dp K H v (frD q)
theorem IsSz.same {K : PySem.W.Frag} {z : Nat} {H H' : Hp} {v : V} (h : IsSz K z H v) (e : Same H H') : IsSz K z H' v := by
  obtain ⟨q, a, b⟩ := h
  exact ⟨q, a, dp_same e _ _ b⟩
theorem Bx.isz {K : PySem.W.Frag} {z : Nat} {H H' : Hp} {p : Addr} {n : Nat} {v : V} (b : Bx H p n) (c : Chg p H H') (h : IsSz K z H v) : IsSz K z H' v := by
  obtain ⟨q, a, d⟩ := h
  exact ⟨q, a, b.dp c d (noL_fr q)⟩
theorem isz_new {K : PySem.W.Frag} {z : Nat} {H : Hp} {a : Addr} {i j : Int} (q : Rat) (n : H a = none) (h1 : q.num = i) (h2 : (q.den : Int) = j) (hz : Sz z q) : IsSz K z (upd H a (.tup [.int i, .int j])) (.ref a) := ⟨q, hz, new_q n q h1 h2⟩
theorem four {α : Type} {l : List α} (h : l.length = 4) : ∃ a b c d, l = [a, b, c, d] := by
  match l, h with
  | [a, b, c, d], _ => exact ⟨a, b, c, d, rfl⟩
theorem eqv_fr_self (q : Rat) : PyData.eqv (frD q) (frD q) = true := by rw [eqv_fr]; simp
end Ep

namespace Ep
open PySem PySem.Spec PyProof.Rows L2
/-! ### numbers whose bottoms divide N, of at most B: what panes do to them -/
def Dv (N B : Nat) (q : Rat) : Prop := ∃ z : Int, q * (N : Rat) = (z : Rat) ∧ z.natAbs ≤ B * N
theorem dv_add {N B C : Nat} {q r : Rat} (h : Dv N B q) (g : Dv N C r) : Dv N (B + C) (q + r) := by
  obtain ⟨z, e, hz⟩ := h
  obtain ⟨y, f, hy⟩ := g
  refine ⟨z + y, ?_, ?_⟩
  · rw [Rat.intCast_add, ← e, ← f]
    grind
  · rw [Nat.add_mul]
    omega
theorem dv_neg {N B : Nat} {q : Rat} (h : Dv N B q) : Dv N B (-q) := by
  obtain ⟨z, e, hz⟩ := h
  refine ⟨-z, ?_, by rw [Int.natAbs_neg]; exact hz⟩
  rw [Rat.intCast_neg, ← e]
  grind
theorem dv_sub {N B C : Nat} {q r : Rat} (h : Dv N B q) (g : Dv N C r) : Dv N (B + C) (q - r) := by
  have := dv_add h (dv_neg g)
  rw [Rat.sub_eq_add_neg]
  exact this
theorem dv_mul {N M B C : Nat} {q r : Rat} (h : Dv N B q) (g : Dv M C r) : Dv (N * M) (B * C) (q * r) := by
  obtain ⟨z, e, hz⟩ := h
  obtain ⟨y, f, hy⟩ := g
  refine ⟨z * y, ?_, ?_⟩
  · rw [Rat.intCast_mul, ← e, ← f, Rat.natCast_mul]
    grind
  · rw [Int.natAbs_mul]
    have := Nat.mul_le_mul hz hy
    calc z.natAbs * y.natAbs ≤ B * N * (C * M) := this
      _ = B * C * (N * M) := by grind
theorem dv_up {N B : Nat} {q : Rat} (k : Nat) (h : Dv N B q) : Dv (k * N) B q := by
  obtain ⟨z, e, hz⟩ := h
  refine ⟨k * z, ?_, ?_⟩
  · rw [Rat.intCast_mul, ← e, Rat.natCast_mul, Rat.intCast_natCast]
    grind
  · rw [Int.natAbs_mul, Int.natAbs_natCast]
    have := Nat.mul_le_mul_left k hz
    calc k * z.natAbs ≤ k * (B * N) := this
      _ = B * (k * N) := by grind
theorem dv_le {N B C : Nat} {q : Rat} (h : Dv N B q) (g : B ≤ C) : Dv N C q := by
  obtain ⟨z, e, hz⟩ := h
  exact ⟨z, e, Nat.le_trans hz (Nat.mul_le_mul_right _ g)⟩
theorem dv_zero {N B : Nat} : Dv N B 0 := ⟨0, by rw [Rat.zero_mul]; rfl, Nat.zero_le _⟩
theorem dv_int {N B : Nat} {i : Int} (h : i.natAbs ≤ B) : Dv N B (i : Rat) := by
  refine ⟨i * N, ?_, ?_⟩
  · rw [Rat.intCast_mul, Rat.intCast_natCast]
  · rw [Int.natAbs_mul, Int.natAbs_natCast]
    exact Nat.mul_le_mul_right _ h
theorem q_den (q : Rat) : q * (q.den : Rat) = (q.num : Rat) := by
  have e : Rat.divInt q.num q.den = q := Rat.num_divInt_den q
  have h : (q.den : Rat) ≠ 0 := fun w => q.den_nz (Rat.natCast_inj.mp (show ((q.den : Nat) : Rat) = ((0 : Nat) : Rat) from w))
  have e2 : q = (q.num : Rat) / (q.den : Rat) := by
    have e3 := Rat.divInt_eq_div q.num q.den
    rw [e, Rat.intCast_natCast] at e3
    exact e3
  calc q * (q.den : Rat) = (q.num : Rat) / (q.den : Rat) * (q.den : Rat) := by rw [← e2]
    _ = (q.num : Rat) := Rat.div_mul_cancel h
theorem dv_self {B : Nat} {q : Rat} (h : q.num.natAbs ≤ B * q.den) : Dv q.den B q := ⟨q.num, q_den q, h⟩
theorem dv_of {N B : Nat} {q : Rat} (hN : 0 < N) (h : Dv N B q) : q.den ≤ N ∧ q.num.natAbs ≤ B * N := by
  obtain ⟨z, e, hz⟩ := h
  have e2 : (q.num * (N : Int) : Int) = z * (q.den : Int) := by
    have e3 : ((q.num * (N : Int) : Int) : Rat) = ((z * (q.den : Int) : Int) : Rat) := by
      rw [Rat.intCast_mul, Rat.intCast_mul, ← e, ← q_den q, Rat.intCast_natCast, Rat.intCast_natCast]
      grind
    exact Rat.intCast_inj.mp e3
  have dv : (q.den : Int) ∣ (N : Int) := by
    have h1 : (q.den : Int) ∣ q.num * (N : Int) := ⟨z, by rw [e2, Int.mul_comm]⟩
    have h2 : q.den ∣ q.num.natAbs * N := by
      have h3 := Int.natAbs_dvd_natAbs.mpr h1
      rw [Int.natAbs_mul, Int.natAbs_natCast, Int.natAbs_natCast] at h3
      exact h3
    exact Int.natCast_dvd_natCast.mpr (Nat.Coprime.dvd_of_dvd_mul_left (Nat.Coprime.symm q.reduced) h2)
  obtain ⟨c, hc⟩ := Int.natCast_dvd_natCast.mp dv
  have cpos : 0 < c := by
    rcases Nat.eq_zero_or_pos c with w | w
    · rw [w] at hc
      omega
    · exact w
  refine ⟨by rw [hc]; exact Nat.le_mul_of_pos_right _ cpos, ?_⟩
  have e4 : z = q.num * c := by
    have hdi : (q.den : Int) ≠ 0 := by
      have := q.den_nz
      omega
    have e5 : z * (q.den : Int) = q.num * c * (q.den : Int) := by
      rw [← e2, hc, Int.natCast_mul]
      grind
    exact Int.eq_of_mul_eq_mul_right hdi e5
  have : q.num.natAbs ≤ z.natAbs := by
    rw [e4, Int.natAbs_mul, Int.natAbs_natCast]
    exact Nat.le_mul_of_pos_right _ cpos
  omega
theorem dv_sz {N B b : Nat} {q : Rat} (hN : 0 < N) (h : Dv N B q) (h1 : N < 2 ^ b) (h2 : B * N < 2 ^ b) : Sz b q := by
  obtain ⟨a, c⟩ := dv_of hN h
  exact ⟨Nat.lt_of_le_of_lt c h2, Nat.lt_of_le_of_lt a h1⟩
/-! ### a pane, met -/
def metL (p a b : Rat) : Rat := p * a + (1 - p) * b
def metR (p a b : Rat) : Rat := (1 + p) * a - p * b
theorem dv_one {N : Nat} : Dv N 1 1 := by
  have := dv_int (N := N) (B := 1) (i := 1) (by decide)
  exact this
theorem dv_metL {D N B : Nat} {p a b : Rat} (hp : Dv D 1 p) (ha : Dv N B a) (hb : Dv N B b) : Dv (D * N) (3 * B) (metL p a b) := by
  have h1 := dv_mul hp ha
  have h2 := dv_mul (dv_sub dv_one hp) hb
  exact dv_le (dv_add h1 h2) (by omega)
theorem dv_metR {D N B : Nat} {p a b : Rat} (hp : Dv D 1 p) (ha : Dv N B a) (hb : Dv N B b) : Dv (D * N) (3 * B) (metR p a b) := by
  have h1 := dv_mul hp hb
  have h2 := dv_mul (dv_add dv_one hp) ha
  exact dv_le (dv_sub h2 h1) (by omega)
/-! ### one beat of waves -/
def smQ (ws : List (Rat × Rat)) (c0 c1 : Rat) : List (Rat × Rat) := (c0, 0) :: ws ++ [(0, c1)]
def aQ (ws : List (Rat × Rat)) (c0 c1 : Rat) (i : Nat) : Rat := ((smQ ws c0 c1).getD i (0, 0)).1
def bQ (ws : List (Rat × Rat)) (c0 c1 : Rat) (i : Nat) : Rat := ((smQ ws c0 c1).getD (i + 1) (0, 0)).2
/-- what goes to the left behind a beat, from pane (or wall) i on -/
def lfQ (ps : List Rat) (sh : Int) (ws : List (Rat × Rat)) (c0 c1 : Rat) (j : Nat) : Rat :=
  if j < ps.length then metL (ps.getD j 0) (aQ ws c0 c1 j) (bQ ws c0 c1 j) else (sh : Rat) * aQ ws c0 c1 ps.length
/-- what goes to the right behind a beat, in room j -/
def rfQ (ps : List Rat) (ws : List (Rat × Rat)) (c0 c1 : Rat) : Nat → Rat
  | 0 => 0
  | j + 1 => metR (ps.getD j 0) (aQ ws c0 c1 j) (bQ ws c0 c1 j)
def beatQ (ps : List Rat) (sh : Int) (ws : List (Rat × Rat)) (c0 c1 : Rat) : List (Rat × Rat) × Rat × Rat :=
  if ps.length = 0 then (if sh = 0 then ([], c1, c0) else ([], (sh : Rat) * c0, 0)) else
  ((List.range (if sh = 0 then ps.length - 1 else ps.length)).map fun r => (rfQ ps ws c0 c1 (r + 1), lfQ ps sh ws c0 c1 (r + 1)), lfQ ps sh ws c0 c1 0, if sh = 0 then rfQ ps ws c0 c1 ps.length else 0)
/-- how many rooms there are inside -/
def insN (ps : List Rat) (sh : Int) : Nat := if sh = 0 then ps.length - 1 else ps.length
theorem beat_len (ps : List Rat) (sh : Int) (ws : List (Rat × Rat)) (c0 c1 : Rat) : (beatQ ps sh ws c0 c1).1.length = insN ps sh := by
  unfold beatQ insN
  by_cases h : ps.length = 0
  · rw [if_pos h]
    by_cases g : sh = 0
    · rw [if_pos g, if_pos g, h]
      rfl
    · rw [if_neg g, if_neg g, h]
      rfl
  · rw [if_neg h]
    simp
/-- a list that is being filled from its beginning -/
def fillQ (n i : Nat) (f : Nat → Rat) : List Rat := (List.range n).map fun j => if j < i then f j else 0
theorem fill_len (n i : Nat) (f : Nat → Rat) : (fillQ n i f).length = n := by simp [fillQ]
theorem fill_get {n i j : Nat} {f : Nat → Rat} (h : j < n) : (fillQ n i f)[j]? = some (if j < i then f j else 0) := by
  unfold fillQ
  rw [List.getElem?_map, List.getElem?_range h]
  rfl
theorem fill_set {n i : Nat} {f : Nat → Rat} (h : i < n) : (fillQ n i f).set i (f i) = fillQ n (i + 1) f := by
  refine List.ext_getElem? fun j => ?_
  by_cases hj : j < n
  · rw [fill_get hj, List.getElem?_set]
    by_cases e : i = j
    · subst e
      rw [if_pos rfl, if_pos (by rw [fill_len]; exact hj), if_pos (by omega)]
    · rw [if_neg e, fill_get hj]
      by_cases e2 : j < i
      · rw [if_pos e2, if_pos (by omega)]
      · rw [if_neg e2, if_neg (by omega)]
  · rw [List.getElem?_eq_none (by rw [List.length_set, fill_len]; omega), List.getElem?_eq_none (by rw [fill_len]; omega)]
theorem fill_none {n : Nat} {f : Nat → Rat} : fillQ n 0 f = List.replicate n 0 := by
  unfold fillQ
  refine List.ext_getElem? fun j => ?_
  by_cases hj : j < n
  · rw [List.getElem?_map, List.getElem?_range hj, List.getElem?_replicate, if_pos hj]
    simp
  · rw [List.getElem?_eq_none (by simp; omega), List.getElem?_eq_none (by simp; omega)]
theorem fill_one {n : Nat} {f : Nat → Rat} (h : f 0 = 0) : fillQ n 1 f = List.replicate n 0 := by
  rw [← fill_none (f := f)]
  unfold fillQ
  refine List.map_congr_left fun j _ => ?_
  by_cases e : j = 0
  · subst e
    simp [h]
  · rw [if_neg (by omega), if_neg (by omega)]
end Ep
namespace Ep
open PySem PySem.Spec PyProof.Rows L2
/-! ### pairs of FRACTIONs -/
def prD (x : Rat × Rat) : PyData := .tuple [frD x.1, frD x.2]
def prs (ws : List (Rat × Rat)) : List PyData := ws.map prD
theorem noL_pr (x : Rat × Rat) : noL (prD x) = true := rfl
theorem noL_prs : ∀ ws : List (Rat × Rat), noLs (prs ws) = true
  | [] => rfl
  | w :: ws => by
    show (noL (prD w) && noLs (prs ws)) = true
    rw [noL_pr, noL_prs ws]
    rfl
theorem prs_len (ws : List (Rat × Rat)) : (prs ws).length = ws.length := List.length_map ..
theorem prs_app (a b : List (Rat × Rat)) : prs (a ++ b) = prs a ++ prs b := List.map_append
section
variable {K : PySem.W.Frag} {H H' : Hp}
theorem dp_pr {v : V} {x : Rat × Rat} (h : Dp K H v (prD x)) : ∃ a y z, v = .ref a ∧ SqT K H a [y, z] ∧ Dp K H y (frD x.1) ∧ Dp K H z (frD x.2) := by
  obtain ⟨a, xs, rfl, ha, hxs⟩ := dp_tup h
  cases hxs with
  | cons r t =>
    cases t with
    | cons r2 t2 =>
      cases t2
      exact ⟨a, _, _, rfl, ha, r, r2⟩
theorem new_pr {a : Addr} {y z : V} {x : Rat × Rat} (n : H a = none) (h1 : Dp K H y (frD x.1)) (h2 : Dp K H z (frD x.2)) : Dp K (upd H a (.tup [y, z])) (.ref a) (prD x) := new_tup n (.cons h1 (.cons h2 .nil))
theorem dps_pr {vs : List V} {ws : List (Rat × Rat)} {i : Nat} {v : V} (h : DpAll K H vs (prs ws)) (e : vs[i]? = some v) : ∃ x, ws[i]? = some x ∧ Dp K H v (prD x) := by
  obtain ⟨d, hd, dx⟩ := dps_get h e
  unfold prs at hd
  rw [List.getElem?_map] at hd
  cases hw : ws[i]? with
  | none =>
    rw [hw] at hd
    cases hd
  | some x =>
    rw [hw] at hd
    cases hd
    exact ⟨x, rfl, dx⟩
theorem dps_fr {vs : List V} {qs : List Rat} {i : Nat} {v : V} (h : DpAll K H vs (frs qs)) (e : vs[i]? = some v) : ∃ q, qs[i]? = some q ∧ Dp K H v (frD q) := by
  obtain ⟨d, hd, dx⟩ := dps_get h e
  unfold frs at hd
  rw [List.getElem?_map] at hd
  cases hw : qs[i]? with
  | none =>
    rw [hw] at hd
    cases hd
  | some x =>
    rw [hw] at hd
    cases hd
    exact ⟨x, rfl, dx⟩
/-- a list of pairs -/
def Lp (K : PySem.W.Frag) (H : Hp) (L : Addr) (ws : List (Rat × Rat)) : Prop := ∃ us, H L = some (.lst us) ∧ DpAll K H us (prs ws)
theorem Lp.same {L : Addr} {ws : List (Rat × Rat)} (h : Lp K H L ws) (e : Same H H') : Lp K H' L ws := by
  obtain ⟨us, a, b⟩ := h
  exact ⟨us, e _ _ a, dps_same e _ _ b⟩
theorem Lp.chg {L p : Addr} {ws : List (Rat × Rat)} {l : List V} (h : Lp K H L ws) (c : Chg p H H') (hp : H p = some (.lst l)) (n : L ≠ p) : Lp K H' L ws := by
  obtain ⟨us, a, b⟩ := h
  exact ⟨us, c _ _ n a, dps_chg c hp _ _ (noL_prs ws) b⟩
theorem Lp.dp {L : Addr} {ws : List (Rat × Rat)} (h : Lp K H L ws) : Dp K H (.ref L) (.list (prs ws)) := by
  obtain ⟨us, a, b⟩ := h
  exact .lst (SqL.of a) b
theorem dps_set : ∀ {xs : List V} {us : List PyData} (n : Nat) {v : V} {d : PyData}, DpAll K H xs us → Dp K H v d → DpAll K H (xs.set n v) (us.set n d)
  | _, _, _, _, _, .nil, _ => .nil
  | _, _, 0, _, _, .cons _ t, h => .cons h t
  | _, _, n + 1, _, _, .cons r t, h => .cons r (dps_set n t h)
theorem Lq.set {L : Addr} {qs : List Rat} {us : List V} {v : V} {q : Rat} {n : Nat} (a : H L = some (.lst us)) (b : DpAll K H us (frs qs)) (h : Dp K H v (frD q)) : Lq K (upd H L (.lst (us.set n v))) L (qs.set n q) := by
  refine ⟨_, upd_same, ?_⟩
  have e : frs (qs.set n q) = (frs qs).set n (frD q) := by
    unfold frs
    rw [List.map_set]
  rw [e]
  exact dps_put a (by rw [← e]; exact noL_frs _) (dps_set n b h)
end
end Ep
namespace Ep
open PySem PySem.Spec PyProof.Rows L2
/-! ### a row heard for some beats -/
def cryQ (cs : List (Rat × Rat)) (t : Nat) : Rat × Rat := cs.getD t (0, 0)
def waysQ (ps : List Rat) (sh : Int) (cs : List (Rat × Rat)) : Nat → List (Rat × Rat)
  | 0 => List.replicate (insN ps sh) (0, 0)
  | t + 1 => (beatQ ps sh (waysQ ps sh cs t) (cryQ cs t).1 (cryQ cs t).2).1
def hearQ (ps : List Rat) (sh : Int) (cs : List (Rat × Rat)) (t : Nat) : Rat × Rat := (beatQ ps sh (waysQ ps sh cs t) (cryQ cs t).1 (cryQ cs t).2).2
def heardQ (ps : List Rat) (sh : Int) (cs : List (Rat × Rat)) (n : Nat) : List (Rat × Rat) := (List.range n).map (hearQ ps sh cs)
theorem ways_len (ps : List Rat) (sh : Int) (cs : List (Rat × Rat)) : ∀ t : Nat, (waysQ ps sh cs t).length = insN ps sh
  | 0 => List.length_replicate
  | t + 1 => beat_len ..
theorem heard_len (ps : List Rat) (sh : Int) (cs : List (Rat × Rat)) (n : Nat) : (heardQ ps sh cs n).length = n := by simp [heardQ]
theorem heard_get {ps : List Rat} {sh : Int} {cs : List (Rat × Rat)} {n i : Nat} (h : i < n) : (heardQ ps sh cs n)[i]? = some (hearQ ps sh cs i) := by
  unfold heardQ
  rw [List.getElem?_map, List.getElem?_range h]
  rfl
def Dp2 (N B : Nat) (x : Rat × Rat) : Prop := Dv N B x.1 ∧ Dv N B x.2
theorem getD_prop {P : Rat × Rat → Prop} {xs : List (Rat × Rat)} (h0 : P (0, 0)) (h : ∀ x ∈ xs, P x) (i : Nat) : P (xs.getD i (0, 0)) := by
  rw [List.getD_eq_getElem?_getD]
  cases e : xs[i]? with
  | none => exact h0
  | some x => exact h x (List.mem_of_getElem? e)
theorem beat_dv {ps : List Rat} {sh : Int} {ws : List (Rat × Rat)} {c0 c1 : Rat} {D N B : Nat} (hB : 0 < B) (wsh : sh = 0 ∨ sh = 1 ∨ sh = -1) (hp : ∀ p ∈ ps, Dv D 1 p) (hs : ∀ x ∈ smQ ws c0 c1, Dp2 N B x) :
    (∀ x ∈ (beatQ ps sh ws c0 c1).1, Dp2 (D * N) (3 * B) x) ∧ Dp2 (D * N) (3 * B) (beatQ ps sh ws c0 c1).2 := by
  have ga : ∀ i, Dv N B (aQ ws c0 c1 i) := fun i => (getD_prop (P := Dp2 N B) ⟨dv_zero, dv_zero⟩ hs i).1
  have gb : ∀ i, Dv N B (bQ ws c0 c1 i) := fun i => (getD_prop (P := Dp2 N B) ⟨dv_zero, dv_zero⟩ hs (i + 1)).2
  have gp : ∀ i, i < ps.length → Dv D 1 (ps.getD i 0) := fun i hi => by
    rw [List.getD_eq_getElem?_getD, List.getElem?_eq_getElem hi]
    exact hp _ (List.getElem_mem hi)
  have up : ∀ {q : Rat}, Dv N B q → Dv (D * N) (3 * B) q := fun h => dv_le (dv_up D h) (by omega)
  have shm : ∀ {q : Rat}, Dv N B q → Dv N B ((sh : Rat) * q) := fun {q} h => by
    have := dv_mul (dv_int (N := 1) (B := 1) (i := sh) (by rcases wsh with rfl | rfl | rfl <;> decide)) h
    rw [Nat.one_mul, Nat.one_mul] at this
    exact this
  have gl : ∀ j, Dv (D * N) (3 * B) (lfQ ps sh ws c0 c1 j) := fun j => by
    unfold lfQ
    by_cases h : j < ps.length
    · rw [if_pos h]
      exact dv_metL (gp j h) (ga j) (gb j)
    · rw [if_neg h]
      exact up (shm (ga _))
  have gr : ∀ j, j ≤ ps.length → Dv (D * N) (3 * B) (rfQ ps ws c0 c1 j) := fun j hj => by
    cases j with
    | zero => exact dv_zero
    | succ j => exact dv_metR (gp j (by omega)) (ga j) (gb j)
  have hc0 : Dv N B c0 := (hs (c0, 0) (by simp [smQ])).1
  have hc1 : Dv N B c1 := (hs (0, c1) (by simp [smQ])).2
  unfold beatQ
  by_cases h0 : ps.length = 0
  · rw [if_pos h0]
    by_cases g : sh = 0
    · rw [if_pos g]
      exact ⟨fun x hx => absurd hx List.not_mem_nil, up hc1, up hc0⟩
    · rw [if_neg g]
      exact ⟨fun x hx => absurd hx List.not_mem_nil, up (shm hc0), dv_zero⟩
  · rw [if_neg h0]
    refine ⟨fun x hx => ?_, gl 0, ?_⟩
    · obtain ⟨r, hr, rfl⟩ := List.mem_map.mp hx
      rw [List.mem_range] at hr
      refine ⟨gr (r + 1) ?_, gl (r + 1)⟩
      split at hr <;> omega
    · show Dv _ _ (if sh = 0 then _ else _)
      split
      · exact gr _ (Nat.le_refl _)
      · exact dv_zero
theorem sm_dv {ws : List (Rat × Rat)} {c : Rat × Rat} {N B : Nat} (h : ∀ x ∈ ws, Dp2 N B x) (hc : Dp2 N B c) : ∀ x ∈ smQ ws c.1 c.2, Dp2 N B x := fun x hx => by
  unfold smQ at hx
  rcases List.mem_append.mp hx with hx | hx
  · rcases List.mem_cons.mp hx with rfl | hx
    · exact ⟨hc.1, dv_zero⟩
    · exact h x hx
  · rw [List.mem_singleton.mp hx]
    exact ⟨dv_zero, hc.2⟩
theorem cry_dv {cs : List (Rat × Rat)} {D N B : Nat} (h : ∀ x ∈ cs, Dp2 N B x) (t : Nat) : Dp2 (D ^ t * N) (3 ^ t * B) (cryQ cs t) := by
  have := getD_prop (P := Dp2 N B) ⟨dv_zero, dv_zero⟩ h t
  have hb : B ≤ 3 ^ t * B := Nat.le_mul_of_pos_left _ (Nat.pow_pos (by decide))
  exact ⟨dv_le (dv_up _ this.1) hb, dv_le (dv_up _ this.2) hb⟩
theorem ways_dv {ps : List Rat} {sh : Int} {cs : List (Rat × Rat)} {D N B : Nat} (hB : 0 < B) (wsh : sh = 0 ∨ sh = 1 ∨ sh = -1) (hp : ∀ p ∈ ps, Dv D 1 p) (hc : ∀ x ∈ cs, Dp2 N B x) : ∀ t : Nat, ∀ x ∈ waysQ ps sh cs t, Dp2 (D ^ t * N) (3 ^ t * B) x
  | 0, x, hx => by
    rw [List.eq_of_mem_replicate hx]
    exact ⟨dv_zero, dv_zero⟩
  | t + 1, x, hx => by
    have ih := ways_dv hB wsh hp hc t
    have := (beat_dv (Nat.mul_pos (Nat.pow_pos (by decide)) hB) wsh hp (sm_dv ih (cry_dv (D := D) hc t))).1 x hx
    have e1 : D * (D ^ t * N) = D ^ (t + 1) * N := by rw [Nat.pow_succ]; grind
    have e2 : 3 * (3 ^ t * B) = 3 ^ (t + 1) * B := by rw [Nat.pow_succ]; grind
    rw [e1, e2] at this
    exact this
theorem hear_dv {ps : List Rat} {sh : Int} {cs : List (Rat × Rat)} {D N B : Nat} (hB : 0 < B) (wsh : sh = 0 ∨ sh = 1 ∨ sh = -1) (hp : ∀ p ∈ ps, Dv D 1 p) (hc : ∀ x ∈ cs, Dp2 N B x) (t : Nat) : Dp2 (D ^ (t + 1) * N) (3 ^ (t + 1) * B) (hearQ ps sh cs t) := by
  have := (beat_dv (Nat.mul_pos (Nat.pow_pos (by decide)) hB) wsh hp (sm_dv (ways_dv hB wsh hp hc t) (cry_dv (D := D) hc t))).2
  have e1 : D * (D ^ t * N) = D ^ (t + 1) * N := by rw [Nat.pow_succ]; grind
  have e2 : 3 * (3 ^ t * B) = 3 ^ (t + 1) * B := by rw [Nat.pow_succ]; grind
  rw [e1, e2] at this
  exact this
/-- how many bits such numbers have -/
theorem wave_sz {D N B t m b : Nat} {q : Rat} (hD : 0 < D) (hN : 0 < N) (hB : 0 < B) (ht : t ≤ m) (hb : B * N * (3 * D) ^ m < 2 ^ b) (h : Dv (D ^ t * N) (3 ^ t * B) q) : Sz b q := by
  have e : 3 ^ t * B * (D ^ t * N) = B * N * (3 * D) ^ t := by
    rw [Nat.mul_pow]
    grind
  have le : B * N * (3 * D) ^ t ≤ B * N * (3 * D) ^ m := Nat.mul_le_mul_left _ (Nat.pow_le_pow_right (by omega) ht)
  have p3 : 0 < 3 ^ t * B := Nat.mul_pos (Nat.pow_pos (by decide)) hB
  have pN : 0 < D ^ t * N := Nat.mul_pos (Nat.pow_pos hD) hN
  refine dv_sz pN h ?_ ?_
  · have : D ^ t * N ≤ 3 ^ t * B * (D ^ t * N) := Nat.le_mul_of_pos_left _ p3
    omega
  · omega
end Ep

namespace Ep
open PySem PySem.Spec PyProof.Rows L2
/-! ### cells of the script, the box, a draw -/
def topS (i : Nat) : Stmt := PySem.Challenge.pw_echopanes_k08_a_pane_met.main.body.getD i (.Pass ⟨0, 0, 0, 0⟩)
abbrev sCell : Stmt := topS 9
abbrev sBox : Stmt := topS 10
abbrev sTake : Stmt := topS 11
abbrev sOf : Stmt := topS 12
theorem scCell : FnScope ["_law_script", "_law_k"] ["_law_script", "_law_k"] (defScope sCell) := ⟨rfl, rfl, rfl, by decide +kernel, rfl, by decide +kernel, by decide +kernel⟩
theorem scBox : FnScope ["_law_script", "_law_k", "_law_core"] ["_law_script", "_law_k"] (defScope sBox) := ⟨rfl, rfl, rfl, by decide +kernel, rfl, by decide +kernel, by decide +kernel⟩
theorem scTake : FnScope ["_law_box_here", "_law_span", "_law_found", "_law_once", "_law_twice"] ["_law_box_here", "_law_span"] (defScope sTake) := ⟨rfl, rfl, rfl, by decide +kernel, rfl, by decide +kernel, by decide +kernel⟩
theorem scOf : FnScope ["_law_box_here", "_law_some"] ["_law_box_here", "_law_some"] (defScope sOf) := ⟨rfl, rfl, rfl, by decide +kernel, rfl, by decide +kernel, by decide +kernel⟩
def spCell (K : PySem.W.Frag) : Sp := fun vs H Q _ => ∃ (a : Addr) (k : Int) (ns : List Int), vs = [.ref a, .int k] ∧ SqL K H a (ns.map V.int) ∧ 0 ≤ k ∧ ∀ c : Int, Q (.int c) H
def spBox (K : PySem.W.Frag) : Sp := fun vs H Q _ => ∃ (a : Addr) (k : Int) (ns : List Int), vs = [.ref a, .int k] ∧ SqL K H a (ns.map V.int) ∧ 0 ≤ k ∧ k ≤ 63 ∧ ∀ (p : Addr) (H' : Hp), H p = none → Same H H' → Bx H' p 0 → Q (.ref p) H'
def spTake : Sp := fun vs H Q _ => ∃ (p : Addr) (z : Int) (n : Nat), vs = [.ref p, .int z] ∧ Bx H p n ∧ n < 1000000 ∧ 0 < z ∧ z < 1000000 ∧
  ∀ (r : Int) (H' : Hp), 0 ≤ r → r < z → Chg p H H' → Bx H' p (n + 1) → Q (.int r) H'
def spOf (K : PySem.W.Frag) : Sp := fun vs H Q _ => ∃ (p l : Addr) (xs : List V) (n : Nat), vs = [.ref p, .ref l] ∧ Bx H p n ∧ n < 1000000 ∧ H l = some (.lst xs) ∧ l ≠ p ∧ xs ≠ [] ∧ xs.length < 1000 ∧
  ∀ (v : V) (H' : Hp), v ∈ xs → Chg p H H' → Bx H' p (n + 1) → Q v H'
section
variable {P : Program} {w : World} {K : PySem.W.Frag} {mg : Str → Option Value} {base : Heap}
theorem ok_cell {f : Addr} {fd : FuncData} {k : Nat} (F : Fun K "_law_cell_at" "_law_cell_at" sCell f fd) (ml : mg "len" = none) : FnOk P w K mg base CX0 (k + 1) f fd ["_law_script", "_law_k"] (spCell K) := by
  refine F.ok scCell (fun vs H Q E h => ?_) (fun cdv A outer s H vs Q E hr h => ?_)
  · obtain ⟨a, k, ns, rfl, _⟩ := h
    rfl
  · obtain ⟨a, k, ns, rfl, hS, hk, q⟩ := h
    refine ⟨_, pss_cons (ps_if (pt_cmpR op_lt (pv 1) (pe_callB call_len_seq (by rfl) ml PySem.boot_len (pa_cons (pv 0) pa_nil)) (nomark _)) (pss_one (ps_ret (pe_ix ix_list (pv 0) (pv 1) (fun _ _ => rfl)))) pss_nil) (pss_one (ps_ret pe_int)), ?_⟩
    refine ⟨.int k, rfl, .ref a, rfl, a, _, rfl, .inl hS, _, _, rfl, rfl, _, rfl, ite2 (fun e => ?_) (fun e => ?_)⟩
    · have e1 : k < ((ns.map V.int).length : Int) := of_decide_eq_true e
      rw [List.length_map] at e1
      have hlt : k.toNat < ns.length := by omega
      refine ⟨.ref a, rfl, .int k, rfl, a, _, _, .int ns[k.toNat], rfl, rfl, hS, ?_, q _⟩
      refine at_of (j := k.toNat) (by omega) ?_
      rw [List.getElem?_map, List.getElem?_eq_getElem hlt]
      rfl
    · exact q 0
theorem ok_box {f fC : Addr} {fd fdC : FuncData} {k : Nat} (F : Fun K "_law_box" "_law_box" sBox f fd) (FC : Fun K "_law_cell_at" "_law_cell_at" sCell fC fdC) (bC : Binds K fdC ["_law_script", "_law_k"] []) (gC : mg "_law_cell_at" = some (.ref fC))
    (ml : mg "len" = none) (ma : mg "abs" = none) (mi : mg "int" = none) : FnOk P w K mg base CX0 (k + 2) f fd ["_law_script", "_law_k"] (spBox K) := by
  have GC : FnOk P w K mg base CX0 (k + 1) fC fdC ["_law_script", "_law_k"] (spCell K) := ok_cell FC ml
  refine F.ok scBox (fun vs H Q E h => ?_) (fun cdv A outer s H vs Q E hr h => ?_)
  · obtain ⟨a, k, ns, rfl, _⟩ := h
    rfl
  · obtain ⟨a, k, ns, rfl, hS, hk, hk2, q⟩ := h
    refine ⟨_, pss_cons (ps_set (i := 2) scBox.nd rfl (.inl rfl) (pe_call GC hr (by rfl) gC FC.kp bC .nil pass0 (pa_cons (pv 0) (pa_cons (pv 1) pa_nil))))
      (pss_one (ps_ret (pe_lst (pa_cons (pe_op op_mul (pe_callB call_abs (by rfl) ma (by decide +kernel) (pa_cons (pv 2) pa_nil)) (pe_callTy call_int1 (by rfl) mi PyProof.Rows.boot_int (pa_cons (pe_cmpR op_ge (pe_callB call_abs (by rfl) ma (by decide +kernel) (pa_cons (pv 2) pa_nil)) (pe_op op_pow pe_int pe_int) (nomark _)) pa_nil)))
        (pa_cons (pe_op op_add (pe_op op_add (pe_op op_mod (pv 2) pe_int) (pe_op op_mul pe_int (pv 1))) pe_int) (pa_cons pe_int pa_nil)))))), ?_⟩
    refine ⟨.ref a, rfl, .int k, rfl, a, k, ns, rfl, hS, hk, fun c => ?_⟩
    refine ⟨.int c, rfl, c, rfl, .int c, rfl, c, rfl, 10, 18, rfl, rfl, ⟨by decide, by decide, by decide⟩, _, _, rfl, rfl, .inr ⟨_, rfl, _, _, rfl, rfl, .inr ?_, ?_⟩⟩
    · split <;> split <;> decide
    · refine ⟨.int c, rfl, _, _, rfl, rfl, (by decide : (0 : Int) < 2305843009213693951), .int k, rfl, _, _, rfl, rfl, .inl ⟨by decide, by decide⟩, _, _, rfl, rfl, _, _, rfl, rfl, (by decide : 3 ≤ sizeLine), fun p hp => ?_⟩
      refine q p _ hp (same_upd hp) ⟨_, _, _, upd_same, ?_, ?_, ?_, Int.le_refl _, Int.le_refl _⟩
      · split <;> split <;> omega
      · omega
      · omega
theorem ok_take {f : Addr} {fd : FuncData} {k : Nat} (F : Fun K "_law_take" "_law_take" sTake f fd) : FnOk P w K mg base CX0 (k + 1) f fd ["_law_box_here", "_law_span"] spTake := by
  refine F.ok scTake (fun vs H Q E h => ?_) (fun cdv A outer s H vs Q E hr h => ?_)
  · obtain ⟨p, z, n, rfl, _⟩ := h
    rfl
  · obtain ⟨p, z, n, rfl, hb, hn, hz, hz2, q⟩ := h
    obtain ⟨x, y, c, hp, hx, hy, hy2, hc, hcn⟩ := hb.ex
    refine ⟨_, pss_cons (ps_if (pt_cmpR op_gt (pe_ix ix_list (pv 0) pe_int (fun _ _ => rfl)) pe_int (nomark _))
        (pss_cons (ps_set (i := 2) scTake.nd rfl (.inl rfl) (pe_op op_mod (pe_ix ix_list (pv 0) pe_int (fun _ _ => rfl)) (pv 1)))
        (pss_cons (ps_asg (pe_op op_fdiv (pe_ix ix_list (pv 0) pe_int (fun _ _ => rfl)) (pv 1)) (pg_sub (pv 0) pe_int set_list))
        (pss_one (ps_ret (pv 2))))) pss_nil)
      (pss_cons (ps_asg (pe_op op_add (pe_ix ix_list (pv 0) pe_int (fun _ _ => rfl)) pe_int) (pg_sub (pv 0) pe_int set_list))
      (pss_cons (ps_set (i := 3) scTake.nd rfl (.inl rfl) (pe_op op_mod (pe_op op_mul (pe_op op_add (pe_ix ix_list (pv 0) pe_int (fun _ _ => rfl)) (pe_op op_mul pe_int (pe_ix ix_list (pv 0) pe_int (fun _ _ => rfl)))) (pe_op op_add pe_int (pe_ix ix_list (pv 0) pe_int (fun _ _ => rfl)))) pe_int))
      (pss_cons (ps_set (i := 4) scTake.nd rfl (.inl rfl) (pe_op op_mod (pe_op op_mul (pe_op op_add (pe_op op_add (pv 3) (pe_ix ix_list (pv 0) pe_int (fun _ _ => rfl))) (pe_op op_fdiv (pe_ix ix_list (pv 0) pe_int (fun _ _ => rfl)) pe_int)) (pe_op op_add (pe_op op_mod (pv 3) pe_int) pe_int)) pe_int))
      (pss_one (ps_ret (pe_op op_mod (pe_op op_fdiv (pe_op op_mod (pe_op op_add (pe_op op_mul (pv 4) pe_int) (pv 3)) pe_int) pe_int) (pv 1))))))), ?_⟩
    refine ⟨.ref p, rfl, p, _, 0, _, rfl, rfl, SqL.of hp, atI_nat (j := 0) rfl, _, _, rfl, rfl, _, rfl, ite2 (fun e => ?_) (fun e => ?_)⟩
    · -- the great number
      refine ⟨.ref p, rfl, p, _, 0, _, rfl, rfl, SqL.of hp, atI_nat (j := 0) rfl, .int z, rfl, _, _, rfl, rfl, hz, ?_⟩
      refine ⟨.ref p, rfl, p, _, 0, _, rfl, rfl, SqL.of hp, atI_nat (j := 0) rfl, .int z, rfl, _, _, rfl, rfl, ⟨hz, by omega⟩, ?_⟩
      refine ⟨.ref p, rfl, p, _, 0, 0, rfl, rfl, hp, rfl, ?_⟩
      refine ⟨_, rfl, q _ _ (Int.emod_nonneg _ (by omega)) (Int.emod_lt_of_pos _ hz) chg_upd ⟨_, _, _, upd_same, Int.ediv_nonneg hx (by omega), hy, hy2, hc, by omega⟩⟩
    · refine ⟨.ref p, rfl, p, _, 2, _, rfl, rfl, SqL.of hp, atI_nat (j := 2) rfl, _, _, rfl, rfl, .ref p, rfl, p, _, 2, 2, rfl, rfl, hp, rfl, ?_⟩
      have hp2 : (upd H p (.lst [.int x, .int y, .int (c + 1)])) p = some (.lst [.int x, .int y, .int (c + 1)]) := upd_same
      refine ⟨.ref p, rfl, p, _, 1, _, rfl, rfl, SqL.of hp2, atI_nat (j := 1) rfl, .ref p, rfl, p, _, 2, _, rfl, rfl, SqL.of hp2, atI_nat (j := 2) rfl, _, _, rfl, rfl, .inl ⟨by decide, by decide⟩, _, _, rfl, rfl,
        .ref p, rfl, p, _, 2, _, rfl, rfl, SqL.of hp2, atI_nat (j := 2) rfl, _, _, rfl, rfl, _, _, rfl, rfl, .inl ⟨by omega, by omega⟩, _, _, rfl, rfl, (by decide : (0 : Int) < 2147483647), ?_⟩
      generalize e1 : (y + 48271 * (c + 1)) * (39373 + (c + 1)) % 2147483647 = o
      have ho : 0 ≤ o ∧ o < 2147483647 := by omega
      refine ⟨_, rfl, .ref p, rfl, p, _, 2, _, rfl, rfl, SqL.of hp2, atI_nat (j := 2) rfl, _, _, rfl, rfl, .ref p, rfl, p, _, 1, _, rfl, rfl, SqL.of hp2, atI_nat (j := 1) rfl, _, _, rfl, rfl, ⟨by decide, by decide⟩, _, _, rfl, rfl,
        _, rfl, _, _, rfl, rfl, (by decide : (0 : Int) < 40009), _, _, rfl, rfl, _, _, rfl, rfl, .inl ⟨by omega, by omega⟩, _, _, rfl, rfl, (by decide : (0 : Int) < 2147483629), ?_⟩
      generalize e2 : (o + (c + 1) + y / 1000003) * (o % 40009 + 7) % 2147483629 = o2
      have ho2 : 0 ≤ o2 ∧ o2 < 2147483629 := by omega
      refine ⟨_, rfl, _, _, rfl, rfl, .inl ⟨by omega, by omega⟩, _, rfl, _, _, rfl, rfl, _, _, rfl, rfl, (by decide : (0 : Int) < 2147483587), _, _, rfl, rfl, ⟨by decide, by decide⟩, .int z, rfl, _, _, rfl, rfl, hz, ?_⟩
      exact q _ _ (Int.emod_nonneg _ (by omega)) (Int.emod_lt_of_pos _ hz) chg_upd ⟨_, _, _, hp2, hx, hy, hy2, by omega, by omega⟩
theorem ok_of {f fT : Addr} {fd fdT : FuncData} {k : Nat} (F : Fun K "_law_of" "_law_of" sOf f fd) (FT : Fun K "_law_take" "_law_take" sTake fT fdT) (bT : Binds K fdT ["_law_box_here", "_law_span"] []) (gT : mg "_law_take" = some (.ref fT))
    (ml : mg "len" = none) : FnOk P w K mg base CX0 (k + 2) f fd ["_law_box_here", "_law_some"] (spOf K) := by
  have GT : FnOk P w K mg base CX0 (k + 1) fT fdT ["_law_box_here", "_law_span"] spTake := ok_take FT
  refine F.ok scOf (fun vs H Q E h => ?_) (fun cdv A outer s H vs Q E hr h => ?_)
  · obtain ⟨p, l, xs, n, rfl, _⟩ := h
    rfl
  · obtain ⟨p, l, xs, n, rfl, hb, hn, hl, hlp, hne, hlen, q⟩ := h
    have hpos : 0 < xs.length := List.length_pos_iff.mpr hne
    refine ⟨_, pss_one (ps_ret (pe_ix ix_list (pv 1) (pe_call GT hr (by rfl) gT FT.kp bT .nil pass0 (pa_cons (pv 0) (pa_cons (pe_callB call_len_seq (by rfl) ml PySem.boot_len (pa_cons (pv 1) pa_nil)) pa_nil))) (fun _ _ => rfl))), ?_⟩
    refine ⟨.ref l, rfl, .ref p, rfl, .ref l, rfl, l, _, rfl, .inl (SqL.of hl), p, _, n, rfl, hb, hn, by omega, by omega, fun r H' h0 h1 c b => ?_⟩
    have hlt : r.toNat < xs.length := by omega
    refine ⟨l, _, _, xs[r.toNat], rfl, rfl, SqL.of (c _ _ hlp hl), at_of (j := r.toNat) (by omega) (List.getElem?_eq_getElem hlt), q _ _ (List.getElem_mem hlt) c b⟩
end
/-! ### FRACTIONs by the program and by the law's own sums -/
abbrev sFrac : Stmt := topS 14
theorem scFrac : FnScope ["_law_top", "_law_under", "_law_big", "_law_small", "_law_sign"] ["_law_top", "_law_under"] (defScope sFrac) := ⟨rfl, rfl, rfl, by decide +kernel, rfl, by decide +kernel, by decide +kernel⟩
/-- a FRACTION of two whole numbers is told, as a new pair -/
def spFrac (K : PySem.W.Frag) : Sp := fun vs H Q _ => ∃ (t u : Int) (b : Nat), vs = [.int t, .int u] ∧ 0 < u ∧ t.natAbs < 2 ^ b ∧ u.natAbs < 2 ^ b ∧ 0 < b ∧ b ≤ 9000 ∧
  ∀ (v : V) (H' : Hp), Same H H' → Dp K H' v (frD (Rat.divInt t u)) → Q v H'
section
variable {P : Program} {w : World} {K : PySem.W.Frag} {mg : Str → Option Value} {base : Heap}
theorem abs_gcd (a b : Int) : Int.gcd (if a < 0 then -a else a) (if b < 0 then -b else b) = Int.gcd a b := by
  unfold Int.gcd
  congr 1 <;> split <;> omega
theorem g_le {t u : Int} {b : Nat} (hu : 0 < u) (h : u.natAbs < 2 ^ b) : (Int.gcd t u : Int).natAbs < 2 ^ b := by
  have : Int.gcd t u ≤ u.natAbs := Int.gcd_le_natAbs_right t (by omega)
  omega
theorem ok_frac {f : Addr} {fd : FuncData} {k : Nat} (F : Fun K "_law_frac" "_law_frac" sFrac f fd) (ma : mg "abs" = none) : FnOk P w K mg base CX0 (k + 1) f fd ["_law_top", "_law_under"] (spFrac K) := by
  refine F.ok scFrac (fun vs H Q E h => ?_) (fun cdv A outer s H vs Q E hr h => ?_)
  · obtain ⟨t, u, b, rfl, _⟩ := h
    rfl
  · obtain ⟨t, u, b, rfl, hu, ht, hub, hb0, hb9, q⟩ := h
    refine ⟨_, pss_cons (ps_par (by rfl) scFrac.nd (i := 2) (j := 3) rfl rfl (by decide) rfl rfl (pa_cons (pe_callB call_abs (by rfl) ma (by decide +kernel) (pa_cons (pv 0) pa_nil)) (pa_cons (pe_callB call_abs (by rfl) ma (by decide +kernel) (pa_cons (pv 1) pa_nil)) pa_nil)) (by rfl))
      (pss_cons (ps_while PassesOwn.never (pt_cmpR op_gt (pv 3) pe_int (nomark _)) (pss_one (ps_par (by rfl) scFrac.nd (i := 2) (j := 3) rfl rfl (by decide) rfl rfl (pa_cons (pv 3) (pa_cons (pe_op op_mod (pv 2) (pv 3)) pa_nil)) (by rfl))))
      (pss_cons (ps_set (i := 4) scFrac.nd rfl (.inl rfl) (pe_ifExp (pt_cmpR op_gt (pv 1) pe_int (nomark _)) pe_int (pe_un un_neg pe_int)))
      (pss_one (ps_ret (pe_tup (pa_cons (pe_op op_fdivW (pe_op op_mul (pv 4) (pv 0)) (pv 2)) (pa_cons (pe_op op_fdivW (pe_callB call_abs (by rfl) ma (by decide +kernel) (pa_cons (pv 1) pa_nil)) (pv 2)) pa_nil))))))), ?_⟩
    refine ⟨.int t, rfl, t, rfl, .int u, rfl, u, rfl, _, _, rfl, ?_⟩
    refine ⟨fun m σ H1 => ∃ x y : Int, σ = [some (.int t), some (.int u), some (.int x), some (.int y), none] ∧ 0 ≤ x ∧ 0 ≤ y ∧ Int.gcd x y = Int.gcd t u ∧ H1 = H ∧ m = y.toNat,
      ⟨_, _, _, rfl, ?_, ?_, abs_gcd t u, rfl, rfl⟩, ?_⟩
    · split <;> omega
    · split <;> omega
    · rintro m σ H1 ⟨x, y, rfl, hx, hy, hg, rfl, rfl⟩
      refine ⟨.int y, rfl, _, _, rfl, rfl, _, rfl, ite2 (fun e => ?_) (fun e => ?_)⟩
      · have e1 : 0 < y := of_decide_eq_true e
        have m1 := Int.emod_nonneg x (show y ≠ 0 by omega)
        have m2 := Int.emod_lt_of_pos x e1
        refine ⟨fun σ' H' => ∃ x' y' : Int, σ' = [some (.int t), some (.int u), some (.int x'), some (.int y'), none] ∧ 0 ≤ x' ∧ 0 ≤ y' ∧ Int.gcd x' y' = Int.gcd t u ∧ H' = H1 ∧ y' < y, fun σ' H' hN => ?_, ?_⟩
        · obtain ⟨x', y', e2, h1, h2, h3, h4, h5⟩ := hN
          exact ⟨y'.toNat, by omega, x', y', e2, h1, h2, h3, h4, rfl⟩
        · refine ⟨.int y, rfl, .int x, rfl, .int y, rfl, _, _, rfl, rfl, e1, _, _, rfl, y, x % y, rfl, hy, m1, ?_, rfl, m2⟩
          rw [gcd_emod x y (by omega)]
          exact hg
      · have e1 : ¬ 0 < y := fun z => e (decide_eq_true z)
        have y0 : y = 0 := by omega
        subst y0
        have ex : x = (Int.gcd t u : Int) := by
          rw [← hg, Int.gcd_zero_right]
          omega
        subst ex
        have hgp := gcd_pos (t := t) hu
        have hg1 := g_le (t := t) hu hub
        refine ⟨.int u, rfl, _, _, rfl, rfl, _, rfl, ite2 (fun _ => ?_) (fun z => absurd (decide_eq_true hu) z)⟩
        refine ⟨_, rfl, .int t, rfl, _, _, rfl, rfl, .inl ⟨by decide, by decide⟩, _, rfl, _, _, rfl, rfl, wide_div (by omega) hg1 hb0 hb9, .int u, rfl, u, rfl, _, rfl, _, _, rfl, rfl, wide_div (by omega) hg1 hb0 hb9, (by decide : 2 ≤ sizeLine), fun p hp => ?_⟩
        refine q _ _ (same_upd hp) (dp_fr_mk (SqT.of ?_))
        rw [upd_same, if_neg (by omega), fr_num hu, fr_den hu, Int.one_mul]
end
abbrev sCommon : Stmt := topS 1
abbrev sFraction : Stmt := topS 2
theorem scCommon : FnScope ["one", "other"] ["one", "other"] (defScope sCommon) := ⟨rfl, rfl, rfl, by decide +kernel, rfl, by decide +kernel, by decide +kernel⟩
theorem scFraction : FnScope ["top", "bottom", "part"] ["top", "bottom"] (defScope sFraction) := ⟨rfl, rfl, rfl, by decide +kernel, rfl, by decide +kernel, by decide +kernel⟩
def spCommon : Sp := fun vs H Q _ => ∃ (t u : Int), vs = [.int t, .int u] ∧ Q (.int (Int.gcd t u : Int)) H
/-- of two FRACTIONs a third one, as a new pair: r says which, C what is asked, z how many bits it has -/
def spTwo (K : PySem.W.Frag) (r : Rat → Rat → Rat) (C : Rat → Prop) : Sp := fun vs H Q _ => ∃ (x y : V) (q1 q2 : Rat) (a b : Nat), vs = [x, y] ∧ Dp K H x (frD q1) ∧ Dp K H y (frD q2) ∧ Sz a q1 ∧ Sz b q2 ∧ a + b < 9000 ∧ C q2 ∧
  ∀ (v : V) (H' : Hp), Same H H' → Dp K H' v (frD (r q1 q2)) → Q v H'
section
variable {P : Program} {w : World} {K : PySem.W.Frag} {mg : Str → Option Value} {base : Heap}
theorem fmod_small (x : Int) {y : Int} (h : y ≠ 0) : (x.fmod y).natAbs < y.natAbs := by
  rw [Int.fmod_eq_emod]
  have a1 := Int.emod_nonneg x h
  have a2 := Int.emod_lt x h
  split
  · omega
  · rename_i z
    have z2 : ¬ y ∣ x := fun w => z (Or.inr w)
    have z3 : x % y ≠ 0 := fun w => z2 (Int.dvd_of_emod_eq_zero w)
    omega
theorem ok_common {f : Addr} {fd : FuncData} {k : Nat} (F : Fun K "common_part" "common_part" sCommon f fd) (ma : mg "abs" = none) : FnOk P w K mg base CX0 (k + 1) f fd ["one", "other"] spCommon := by
  refine F.ok scCommon (fun vs H Q E h => ?_) (fun cdv A outer s H vs Q E hr h => ?_)
  · obtain ⟨t, u, rfl, _⟩ := h
    rfl
  · obtain ⟨t, u, rfl, q⟩ := h
    refine ⟨_, pss_cons (ps_while PassesOwn.never (pt_truth (pv 1) (by intro _; rfl)) (pss_one (ps_par (by rfl) scCommon.nd (i := 0) (j := 1) rfl rfl (by decide) rfl rfl (pa_cons (pv 1) (pa_cons (pe_op op_modN (pv 0) (pv 1)) pa_nil)) (by rfl))))
      (pss_one (ps_ret (pe_callB call_abs (by rfl) ma (by decide +kernel) (pa_cons (pv 0) pa_nil)))), ?_⟩
    refine ⟨fun m σ H1 => ∃ x y : Int, σ = [some (.int x), some (.int y)] ∧ Int.gcd x y = Int.gcd t u ∧ H1 = H ∧ m = y.natAbs, ⟨_, t, u, rfl, rfl, rfl, rfl⟩, ?_⟩
    rintro m σ H1 ⟨x, y, rfl, hg, rfl, rfl⟩
    refine ⟨.int y, rfl, _, rfl, ite2 (fun e => ?_) (fun e => ?_)⟩
    · have y0 : y ≠ 0 := by simpa using e
      refine ⟨fun σ' H' => ∃ x' y' : Int, σ' = [some (.int x'), some (.int y')] ∧ Int.gcd x' y' = Int.gcd t u ∧ H' = H1 ∧ y'.natAbs < y.natAbs, fun σ' H' hN => ?_, ?_⟩
      · obtain ⟨x', y', e2, h1, h2, h3⟩ := hN
        exact ⟨_, h3, x', y', e2, h1, h2, rfl⟩
      · refine ⟨.int y, rfl, .int x, rfl, .int y, rfl, _, _, rfl, rfl, y0, _, _, rfl, y, x.fmod y, rfl, ?_, rfl, ?_⟩
        · rw [gcd_fmod x y y0]
          exact hg
        · exact fmod_small x y0
    · have y0 : y = 0 := by simpa using e
      subst y0
      refine ⟨.int x, rfl, x, rfl, ?_⟩
      have ex : (if x < 0 then -x else x) = (Int.gcd t u : Int) := by
        rw [← hg, Int.gcd_zero_right]
        split <;> omega
      rw [ex]
      exact q
theorem ok_fraction {f fC : Addr} {fd fdC : FuncData} {k : Nat} (F : Fun K "fraction" "fraction" sFraction f fd) (FC : Fun K "common_part" "common_part" sCommon fC fdC) (bC : Binds K fdC ["one", "other"] []) (gC : mg "common_part" = some (.ref fC))
    (ma : mg "abs" = none) : FnOk P w K mg base CX0 (k + 2) f fd ["top", "bottom"] (spFrac K) := by
  have GC : FnOk P w K mg base CX0 (k + 1) fC fdC ["one", "other"] spCommon := ok_common FC ma
  refine F.ok scFraction (fun vs H Q E h => ?_) (fun cdv A outer s H vs Q E hr h => ?_)
  · obtain ⟨t, u, b, rfl, _⟩ := h
    rfl
  · obtain ⟨t, u, b, rfl, hu, ht, hub, hb0, hb9, q⟩ := h
    refine ⟨_, pss_cons (ps_set (i := 2) scFraction.nd rfl (.inl rfl) (pe_call GC hr (by rfl) gC FC.kp bC .nil pass0 (pa_cons (pv 0) (pa_cons (pv 1) pa_nil))))
      (pss_cons (ps_if (pt_cmpR op_lt (pv 1) pe_int (nomark _)) (pss_one (ps_set (i := 2) scFraction.nd rfl (.inl rfl) (pe_un un_neg (pv 2)))) pss_nil)
      (pss_one (ps_ret (pe_tup (pa_cons (pe_op op_fdivW (pv 0) (pv 2)) (pa_cons (pe_op op_fdivW (pv 1) (pv 2)) pa_nil)))))), ?_⟩
    have hgp := gcd_pos (t := t) hu
    have hg1 := g_le (t := t) hu hub
    refine ⟨.int t, rfl, .int u, rfl, t, u, rfl, .int u, rfl, _, _, rfl, rfl, _, rfl, ite2 (fun e => ?_) (fun e => ?_)⟩
    · have e1 : u < 0 := of_decide_eq_true e
      omega
    · refine ⟨.int t, rfl, _, rfl, _, _, rfl, rfl, wide_div (by omega) hg1 hb0 hb9, .int u, rfl, _, rfl, _, _, rfl, rfl, wide_div (by omega) hg1 hb0 hb9, (by decide : 2 ≤ sizeLine), fun p hp => ?_⟩
      refine q _ _ (same_upd hp) (dp_fr_mk (SqT.of ?_))
      rw [upd_same, fr_num hu, fr_den hu]
end
section
variable {P : Program} {w : World} {K : PySem.W.Frag} {mg : Str → Option Value} {base : Heap}
abbrev s_plus : Stmt := topS 3
theorem sc_plus : FnScope ["one", "other"] ["one", "other"] (defScope s_plus) := ⟨rfl, rfl, rfl, by decide +kernel, rfl, by decide +kernel, by decide +kernel⟩
theorem ok_plus {f fC : Addr} {fd fdC : FuncData} {k : Nat} (F : Fun K "plus" "plus" s_plus f fd) (kp : PySem.W.keepIn K (.ref fC) = true) (G : FnOk P w K mg base CX0 k fC fdC ["top", "bottom"] (spFrac K)) (bC : Binds K fdC ["top", "bottom"] []) (gC : mg "fraction" = some (.ref fC)) :
    FnOk P w K mg base CX0 (k + 1) f fd ["one", "other"] (spTwo K (fun q1 q2 => q1 + q2) (fun r => True)) := by
  refine F.ok sc_plus (fun vs H Q E h => ?_) (fun cdv A outer s H vs Q E hr h => ?_)
  · obtain ⟨x, y, q1, q2, a, b, rfl, _⟩ := h
    rfl
  · obtain ⟨x, y, q1, q2, a, b, rfl, hx, hy, z1, z2, hz, hc, q⟩ := h
    obtain ⟨p1, rfl, h1⟩ := dp_fr hx
    obtain ⟨p2, rfl, h2⟩ := dp_fr hy
    refine ⟨_, pss_one (ps_ret (pe_call G hr (by rfl) gC kp bC .nil pass0 (pa_cons (pe_op op_add (pe_op op_mulW (pe_ix ix_tup (pv 0) pe_int (fun _ _ => rfl)) (pe_ix ix_tup (pv 1) pe_int (fun _ _ => rfl))) (pe_op op_mulW (pe_ix ix_tup (pv 1) pe_int (fun _ _ => rfl)) (pe_ix ix_tup (pv 0) pe_int (fun _ _ => rfl)))) (pa_cons (pe_op op_mulW (pe_ix ix_tup (pv 0) pe_int (fun _ _ => rfl)) (pe_ix ix_tup (pv 1) pe_int (fun _ _ => rfl))) pa_nil)))), ?_⟩
    refine ⟨.ref p1, rfl, p1, _, 0, _, rfl, rfl, h1, atI_nat (j := 0) rfl, .ref p2, rfl, p2, _, 1, _, rfl, rfl, h2, atI_nat (j := 1) rfl, _, _, rfl, rfl, wide_mul (up_lt z1.1 (Nat.le_add_right a 1)) (up_lt z2.den (Nat.le_add_right b 1)) (by omega) (by omega) (by omega), .ref p2, rfl, p2, _, 0, _, rfl, rfl, h2, atI_nat (j := 0) rfl, .ref p1, rfl, p1, _, 1, _, rfl, rfl, h1, atI_nat (j := 1) rfl, _, _, rfl, rfl, wide_mul (up_lt z2.1 (Nat.le_add_right b 1)) (up_lt z1.den (Nat.le_add_right a 1)) (by omega) (by omega) (by omega), _, _, rfl, rfl, .ref p1, rfl, p1, _, 1, _, rfl, rfl, h1, atI_nat (j := 1) rfl, .ref p2, rfl, p2, _, 1, _, rfl, rfl, h2, atI_nat (j := 1) rfl, _, _, rfl, rfl, wide_mul (up_lt z1.den (Nat.le_add_right a 1)) (up_lt z2.den (Nat.le_add_right b 1)) (by omega) (by omega) (by omega), _, _, a + b + 1, rfl, dd_pos q1 q2, up_lt (sz_add_t z1 z2) (Nat.le_refl _), up_lt (sz_dd z1 z2) (by omega), by omega, by omega, fun v H' sm d => q v H' sm ?_⟩
    rw [q_add] at d
    exact d
end
section
variable {P : Program} {w : World} {K : PySem.W.Frag} {mg : Str → Option Value} {base : Heap}
abbrev s_minus : Stmt := topS 4
theorem sc_minus : FnScope ["one", "other"] ["one", "other"] (defScope s_minus) := ⟨rfl, rfl, rfl, by decide +kernel, rfl, by decide +kernel, by decide +kernel⟩
theorem ok_minus {f fC : Addr} {fd fdC : FuncData} {k : Nat} (F : Fun K "minus" "minus" s_minus f fd) (kp : PySem.W.keepIn K (.ref fC) = true) (G : FnOk P w K mg base CX0 k fC fdC ["top", "bottom"] (spFrac K)) (bC : Binds K fdC ["top", "bottom"] []) (gC : mg "fraction" = some (.ref fC)) :
    FnOk P w K mg base CX0 (k + 1) f fd ["one", "other"] (spTwo K (fun q1 q2 => q1 - q2) (fun r => True)) := by
  refine F.ok sc_minus (fun vs H Q E h => ?_) (fun cdv A outer s H vs Q E hr h => ?_)
  · obtain ⟨x, y, q1, q2, a, b, rfl, _⟩ := h
    rfl
  · obtain ⟨x, y, q1, q2, a, b, rfl, hx, hy, z1, z2, hz, hc, q⟩ := h
    obtain ⟨p1, rfl, h1⟩ := dp_fr hx
    obtain ⟨p2, rfl, h2⟩ := dp_fr hy
    refine ⟨_, pss_one (ps_ret (pe_call G hr (by rfl) gC kp bC .nil pass0 (pa_cons (pe_op op_sub (pe_op op_mulW (pe_ix ix_tup (pv 0) pe_int (fun _ _ => rfl)) (pe_ix ix_tup (pv 1) pe_int (fun _ _ => rfl))) (pe_op op_mulW (pe_ix ix_tup (pv 1) pe_int (fun _ _ => rfl)) (pe_ix ix_tup (pv 0) pe_int (fun _ _ => rfl)))) (pa_cons (pe_op op_mulW (pe_ix ix_tup (pv 0) pe_int (fun _ _ => rfl)) (pe_ix ix_tup (pv 1) pe_int (fun _ _ => rfl))) pa_nil)))), ?_⟩
    refine ⟨.ref p1, rfl, p1, _, 0, _, rfl, rfl, h1, atI_nat (j := 0) rfl, .ref p2, rfl, p2, _, 1, _, rfl, rfl, h2, atI_nat (j := 1) rfl, _, _, rfl, rfl, wide_mul (up_lt z1.1 (Nat.le_add_right a 1)) (up_lt z2.den (Nat.le_add_right b 1)) (by omega) (by omega) (by omega), .ref p2, rfl, p2, _, 0, _, rfl, rfl, h2, atI_nat (j := 0) rfl, .ref p1, rfl, p1, _, 1, _, rfl, rfl, h1, atI_nat (j := 1) rfl, _, _, rfl, rfl, wide_mul (up_lt z2.1 (Nat.le_add_right b 1)) (up_lt z1.den (Nat.le_add_right a 1)) (by omega) (by omega) (by omega), _, _, rfl, rfl, .ref p1, rfl, p1, _, 1, _, rfl, rfl, h1, atI_nat (j := 1) rfl, .ref p2, rfl, p2, _, 1, _, rfl, rfl, h2, atI_nat (j := 1) rfl, _, _, rfl, rfl, wide_mul (up_lt z1.den (Nat.le_add_right a 1)) (up_lt z2.den (Nat.le_add_right b 1)) (by omega) (by omega) (by omega), _, _, a + b + 1, rfl, dd_pos q1 q2, up_lt (sz_sub_t z1 z2) (Nat.le_refl _), up_lt (sz_dd z1 z2) (by omega), by omega, by omega, fun v H' sm d => q v H' sm ?_⟩
    rw [q_sub] at d
    exact d
end
section
variable {P : Program} {w : World} {K : PySem.W.Frag} {mg : Str → Option Value} {base : Heap}
abbrev s_times : Stmt := topS 5
theorem sc_times : FnScope ["one", "other"] ["one", "other"] (defScope s_times) := ⟨rfl, rfl, rfl, by decide +kernel, rfl, by decide +kernel, by decide +kernel⟩
theorem ok_times {f fC : Addr} {fd fdC : FuncData} {k : Nat} (F : Fun K "times" "times" s_times f fd) (kp : PySem.W.keepIn K (.ref fC) = true) (G : FnOk P w K mg base CX0 k fC fdC ["top", "bottom"] (spFrac K)) (bC : Binds K fdC ["top", "bottom"] []) (gC : mg "fraction" = some (.ref fC)) :
    FnOk P w K mg base CX0 (k + 1) f fd ["one", "other"] (spTwo K (fun q1 q2 => q1 * q2) (fun r => True)) := by
  refine F.ok sc_times (fun vs H Q E h => ?_) (fun cdv A outer s H vs Q E hr h => ?_)
  · obtain ⟨x, y, q1, q2, a, b, rfl, _⟩ := h
    rfl
  · obtain ⟨x, y, q1, q2, a, b, rfl, hx, hy, z1, z2, hz, hc, q⟩ := h
    obtain ⟨p1, rfl, h1⟩ := dp_fr hx
    obtain ⟨p2, rfl, h2⟩ := dp_fr hy
    refine ⟨_, pss_one (ps_ret (pe_call G hr (by rfl) gC kp bC .nil pass0 (pa_cons (pe_op op_mulW (pe_ix ix_tup (pv 0) pe_int (fun _ _ => rfl)) (pe_ix ix_tup (pv 1) pe_int (fun _ _ => rfl))) (pa_cons (pe_op op_mulW (pe_ix ix_tup (pv 0) pe_int (fun _ _ => rfl)) (pe_ix ix_tup (pv 1) pe_int (fun _ _ => rfl))) pa_nil)))), ?_⟩
    refine ⟨.ref p1, rfl, p1, _, 0, _, rfl, rfl, h1, atI_nat (j := 0) rfl, .ref p2, rfl, p2, _, 0, _, rfl, rfl, h2, atI_nat (j := 0) rfl, _, _, rfl, rfl, wide_mul (up_lt z1.1 (Nat.le_add_right a 1)) (up_lt z2.1 (Nat.le_add_right b 1)) (by omega) (by omega) (by omega), .ref p1, rfl, p1, _, 1, _, rfl, rfl, h1, atI_nat (j := 1) rfl, .ref p2, rfl, p2, _, 1, _, rfl, rfl, h2, atI_nat (j := 1) rfl, _, _, rfl, rfl, wide_mul (up_lt z1.den (Nat.le_add_right a 1)) (up_lt z2.den (Nat.le_add_right b 1)) (by omega) (by omega) (by omega), _, _, a + b + 1, rfl, dd_pos q1 q2, up_lt (m_lt z1.1 z2.1) (by omega), up_lt (sz_dd z1 z2) (by omega), by omega, by omega, fun v H' sm d => q v H' sm ?_⟩
    rw [q_mul] at d
    exact d
end
section
variable {P : Program} {w : World} {K : PySem.W.Frag} {mg : Str → Option Value} {base : Heap}
abbrev s__law_plus : Stmt := topS 15
theorem sc__law_plus : FnScope ["_law_one", "_law_other"] ["_law_one", "_law_other"] (defScope s__law_plus) := ⟨rfl, rfl, rfl, by decide +kernel, rfl, by decide +kernel, by decide +kernel⟩
theorem ok__law_plus {f fC : Addr} {fd fdC : FuncData} {k : Nat} (F : Fun K "_law_plus" "_law_plus" s__law_plus f fd) (kp : PySem.W.keepIn K (.ref fC) = true) (G : FnOk P w K mg base CX0 k fC fdC ["_law_top", "_law_under"] (spFrac K)) (bC : Binds K fdC ["_law_top", "_law_under"] []) (gC : mg "_law_frac" = some (.ref fC)) :
    FnOk P w K mg base CX0 (k + 1) f fd ["_law_one", "_law_other"] (spTwo K (fun q1 q2 => q1 + q2) (fun r => True)) := by
  refine F.ok sc__law_plus (fun vs H Q E h => ?_) (fun cdv A outer s H vs Q E hr h => ?_)
  · obtain ⟨x, y, q1, q2, a, b, rfl, _⟩ := h
    rfl
  · obtain ⟨x, y, q1, q2, a, b, rfl, hx, hy, z1, z2, hz, hc, q⟩ := h
    obtain ⟨p1, rfl, h1⟩ := dp_fr hx
    obtain ⟨p2, rfl, h2⟩ := dp_fr hy
    refine ⟨_, pss_one (ps_ret (pe_call G hr (by rfl) gC kp bC .nil pass0 (pa_cons (pe_op op_add (pe_op op_mulW (pe_ix ix_tup (pv 0) pe_int (fun _ _ => rfl)) (pe_ix ix_tup (pv 1) pe_int (fun _ _ => rfl))) (pe_op op_mulW (pe_ix ix_tup (pv 1) pe_int (fun _ _ => rfl)) (pe_ix ix_tup (pv 0) pe_int (fun _ _ => rfl)))) (pa_cons (pe_op op_mulW (pe_ix ix_tup (pv 0) pe_int (fun _ _ => rfl)) (pe_ix ix_tup (pv 1) pe_int (fun _ _ => rfl))) pa_nil)))), ?_⟩
    refine ⟨.ref p1, rfl, p1, _, 0, _, rfl, rfl, h1, atI_nat (j := 0) rfl, .ref p2, rfl, p2, _, 1, _, rfl, rfl, h2, atI_nat (j := 1) rfl, _, _, rfl, rfl, wide_mul (up_lt z1.1 (Nat.le_add_right a 1)) (up_lt z2.den (Nat.le_add_right b 1)) (by omega) (by omega) (by omega), .ref p2, rfl, p2, _, 0, _, rfl, rfl, h2, atI_nat (j := 0) rfl, .ref p1, rfl, p1, _, 1, _, rfl, rfl, h1, atI_nat (j := 1) rfl, _, _, rfl, rfl, wide_mul (up_lt z2.1 (Nat.le_add_right b 1)) (up_lt z1.den (Nat.le_add_right a 1)) (by omega) (by omega) (by omega), _, _, rfl, rfl, .ref p1, rfl, p1, _, 1, _, rfl, rfl, h1, atI_nat (j := 1) rfl, .ref p2, rfl, p2, _, 1, _, rfl, rfl, h2, atI_nat (j := 1) rfl, _, _, rfl, rfl, wide_mul (up_lt z1.den (Nat.le_add_right a 1)) (up_lt z2.den (Nat.le_add_right b 1)) (by omega) (by omega) (by omega), _, _, a + b + 1, rfl, dd_pos q1 q2, up_lt (sz_add_t z1 z2) (Nat.le_refl _), up_lt (sz_dd z1 z2) (by omega), by omega, by omega, fun v H' sm d => q v H' sm ?_⟩
    rw [q_add] at d
    exact d
end
section
variable {P : Program} {w : World} {K : PySem.W.Frag} {mg : Str → Option Value} {base : Heap}
abbrev s__law_less : Stmt := topS 16
theorem sc__law_less : FnScope ["_law_one", "_law_other"] ["_law_one", "_law_other"] (defScope s__law_less) := ⟨rfl, rfl, rfl, by decide +kernel, rfl, by decide +kernel, by decide +kernel⟩
theorem ok__law_less {f fC : Addr} {fd fdC : FuncData} {k : Nat} (F : Fun K "_law_less" "_law_less" s__law_less f fd) (kp : PySem.W.keepIn K (.ref fC) = true) (G : FnOk P w K mg base CX0 k fC fdC ["_law_top", "_law_under"] (spFrac K)) (bC : Binds K fdC ["_law_top", "_law_under"] []) (gC : mg "_law_frac" = some (.ref fC)) :
    FnOk P w K mg base CX0 (k + 1) f fd ["_law_one", "_law_other"] (spTwo K (fun q1 q2 => q1 - q2) (fun r => True)) := by
  refine F.ok sc__law_less (fun vs H Q E h => ?_) (fun cdv A outer s H vs Q E hr h => ?_)
  · obtain ⟨x, y, q1, q2, a, b, rfl, _⟩ := h
    rfl
  · obtain ⟨x, y, q1, q2, a, b, rfl, hx, hy, z1, z2, hz, hc, q⟩ := h
    obtain ⟨p1, rfl, h1⟩ := dp_fr hx
    obtain ⟨p2, rfl, h2⟩ := dp_fr hy
    refine ⟨_, pss_one (ps_ret (pe_call G hr (by rfl) gC kp bC .nil pass0 (pa_cons (pe_op op_sub (pe_op op_mulW (pe_ix ix_tup (pv 0) pe_int (fun _ _ => rfl)) (pe_ix ix_tup (pv 1) pe_int (fun _ _ => rfl))) (pe_op op_mulW (pe_ix ix_tup (pv 1) pe_int (fun _ _ => rfl)) (pe_ix ix_tup (pv 0) pe_int (fun _ _ => rfl)))) (pa_cons (pe_op op_mulW (pe_ix ix_tup (pv 0) pe_int (fun _ _ => rfl)) (pe_ix ix_tup (pv 1) pe_int (fun _ _ => rfl))) pa_nil)))), ?_⟩
    refine ⟨.ref p1, rfl, p1, _, 0, _, rfl, rfl, h1, atI_nat (j := 0) rfl, .ref p2, rfl, p2, _, 1, _, rfl, rfl, h2, atI_nat (j := 1) rfl, _, _, rfl, rfl, wide_mul (up_lt z1.1 (Nat.le_add_right a 1)) (up_lt z2.den (Nat.le_add_right b 1)) (by omega) (by omega) (by omega), .ref p2, rfl, p2, _, 0, _, rfl, rfl, h2, atI_nat (j := 0) rfl, .ref p1, rfl, p1, _, 1, _, rfl, rfl, h1, atI_nat (j := 1) rfl, _, _, rfl, rfl, wide_mul (up_lt z2.1 (Nat.le_add_right b 1)) (up_lt z1.den (Nat.le_add_right a 1)) (by omega) (by omega) (by omega), _, _, rfl, rfl, .ref p1, rfl, p1, _, 1, _, rfl, rfl, h1, atI_nat (j := 1) rfl, .ref p2, rfl, p2, _, 1, _, rfl, rfl, h2, atI_nat (j := 1) rfl, _, _, rfl, rfl, wide_mul (up_lt z1.den (Nat.le_add_right a 1)) (up_lt z2.den (Nat.le_add_right b 1)) (by omega) (by omega) (by omega), _, _, a + b + 1, rfl, dd_pos q1 q2, up_lt (sz_sub_t z1 z2) (Nat.le_refl _), up_lt (sz_dd z1 z2) (by omega), by omega, by omega, fun v H' sm d => q v H' sm ?_⟩
    rw [q_sub] at d
    exact d
end
section
variable {P : Program} {w : World} {K : PySem.W.Frag} {mg : Str → Option Value} {base : Heap}
abbrev s__law_times : Stmt := topS 17
theorem sc__law_times : FnScope ["_law_one", "_law_other"] ["_law_one", "_law_other"] (defScope s__law_times) := ⟨rfl, rfl, rfl, by decide +kernel, rfl, by decide +kernel, by decide +kernel⟩
theorem ok__law_times {f fC : Addr} {fd fdC : FuncData} {k : Nat} (F : Fun K "_law_times" "_law_times" s__law_times f fd) (kp : PySem.W.keepIn K (.ref fC) = true) (G : FnOk P w K mg base CX0 k fC fdC ["_law_top", "_law_under"] (spFrac K)) (bC : Binds K fdC ["_law_top", "_law_under"] []) (gC : mg "_law_frac" = some (.ref fC)) :
    FnOk P w K mg base CX0 (k + 1) f fd ["_law_one", "_law_other"] (spTwo K (fun q1 q2 => q1 * q2) (fun r => True)) := by
  refine F.ok sc__law_times (fun vs H Q E h => ?_) (fun cdv A outer s H vs Q E hr h => ?_)
  · obtain ⟨x, y, q1, q2, a, b, rfl, _⟩ := h
    rfl
  · obtain ⟨x, y, q1, q2, a, b, rfl, hx, hy, z1, z2, hz, hc, q⟩ := h
    obtain ⟨p1, rfl, h1⟩ := dp_fr hx
    obtain ⟨p2, rfl, h2⟩ := dp_fr hy
    refine ⟨_, pss_one (ps_ret (pe_call G hr (by rfl) gC kp bC .nil pass0 (pa_cons (pe_op op_mulW (pe_ix ix_tup (pv 0) pe_int (fun _ _ => rfl)) (pe_ix ix_tup (pv 1) pe_int (fun _ _ => rfl))) (pa_cons (pe_op op_mulW (pe_ix ix_tup (pv 0) pe_int (fun _ _ => rfl)) (pe_ix ix_tup (pv 1) pe_int (fun _ _ => rfl))) pa_nil)))), ?_⟩
    refine ⟨.ref p1, rfl, p1, _, 0, _, rfl, rfl, h1, atI_nat (j := 0) rfl, .ref p2, rfl, p2, _, 0, _, rfl, rfl, h2, atI_nat (j := 0) rfl, _, _, rfl, rfl, wide_mul (up_lt z1.1 (Nat.le_add_right a 1)) (up_lt z2.1 (Nat.le_add_right b 1)) (by omega) (by omega) (by omega), .ref p1, rfl, p1, _, 1, _, rfl, rfl, h1, atI_nat (j := 1) rfl, .ref p2, rfl, p2, _, 1, _, rfl, rfl, h2, atI_nat (j := 1) rfl, _, _, rfl, rfl, wide_mul (up_lt z1.den (Nat.le_add_right a 1)) (up_lt z2.den (Nat.le_add_right b 1)) (by omega) (by omega) (by omega), _, _, a + b + 1, rfl, dd_pos q1 q2, up_lt (m_lt z1.1 z2.1) (by omega), up_lt (sz_dd z1 z2) (by omega), by omega, by omega, fun v H' sm d => q v H' sm ?_⟩
    rw [q_mul] at d
    exact d
end
section
variable {P : Program} {w : World} {K : PySem.W.Frag} {mg : Str → Option Value} {base : Heap}
abbrev s__law_over : Stmt := topS 18
theorem sc__law_over : FnScope ["_law_one", "_law_other"] ["_law_one", "_law_other"] (defScope s__law_over) := ⟨rfl, rfl, rfl, by decide +kernel, rfl, by decide +kernel, by decide +kernel⟩
theorem ok__law_over {f fC : Addr} {fd fdC : FuncData} {k : Nat} (F : Fun K "_law_over" "_law_over" s__law_over f fd) (kp : PySem.W.keepIn K (.ref fC) = true) (G : FnOk P w K mg base CX0 k fC fdC ["_law_top", "_law_under"] (spFrac K)) (bC : Binds K fdC ["_law_top", "_law_under"] []) (gC : mg "_law_frac" = some (.ref fC)) :
    FnOk P w K mg base CX0 (k + 1) f fd ["_law_one", "_law_other"] (spTwo K (fun q1 q2 => q1 / q2) (fun r => 0 < r)) := by
  refine F.ok sc__law_over (fun vs H Q E h => ?_) (fun cdv A outer s H vs Q E hr h => ?_)
  · obtain ⟨x, y, q1, q2, a, b, rfl, _⟩ := h
    rfl
  · obtain ⟨x, y, q1, q2, a, b, rfl, hx, hy, z1, z2, hz, hc, q⟩ := h
    obtain ⟨p1, rfl, h1⟩ := dp_fr hx
    obtain ⟨p2, rfl, h2⟩ := dp_fr hy
    refine ⟨_, pss_one (ps_ret (pe_call G hr (by rfl) gC kp bC .nil pass0 (pa_cons (pe_op op_mulW (pe_ix ix_tup (pv 0) pe_int (fun _ _ => rfl)) (pe_ix ix_tup (pv 1) pe_int (fun _ _ => rfl))) (pa_cons (pe_op op_mulW (pe_ix ix_tup (pv 0) pe_int (fun _ _ => rfl)) (pe_ix ix_tup (pv 1) pe_int (fun _ _ => rfl))) pa_nil)))), ?_⟩
    refine ⟨.ref p1, rfl, p1, _, 0, _, rfl, rfl, h1, atI_nat (j := 0) rfl, .ref p2, rfl, p2, _, 1, _, rfl, rfl, h2, atI_nat (j := 1) rfl, _, _, rfl, rfl, wide_mul (up_lt z1.1 (Nat.le_add_right a 1)) (up_lt z2.den (Nat.le_add_right b 1)) (by omega) (by omega) (by omega), .ref p1, rfl, p1, _, 1, _, rfl, rfl, h1, atI_nat (j := 1) rfl, .ref p2, rfl, p2, _, 0, _, rfl, rfl, h2, atI_nat (j := 0) rfl, _, _, rfl, rfl, wide_mul (up_lt z1.den (Nat.le_add_right a 1)) (up_lt z2.1 (Nat.le_add_right b 1)) (by omega) (by omega) (by omega), _, _, a + b + 1, rfl, dn_pos q1 q2 hc, up_lt (m_lt z1.1 z2.den) (by omega), up_lt (m_lt z1.den z2.1) (by omega), by omega, by omega, fun v H' sm d => q v H' sm ?_⟩
    rw [q_div] at d
    exact d
end
/-! ### what is alike is told so -/
abbrev sSame : Stmt := topS 13
theorem scSame : FnScope ["_law_found", "_law_due", "_law_one", "_law_two"] ["_law_found", "_law_due"] (defScope sSame) := ⟨rfl, rfl, rfl, by decide +kernel, rfl, by decide +kernel, by decide +kernel⟩
/-- data less than d deep, no list or tuple of more than 1000 -/
def okD : Nat → PyData → Bool
  | 0, _ => false
  | d + 1, .list ds => decide (ds.length ≤ 1000) && ds.all (okD d)
  | d + 1, .tuple ds => decide (ds.length ≤ 1000) && ds.all (okD d)
  | _ + 1, .dict _ => false
  | _ + 1, _ => true
/-- two things that are the same data: True -/
def spSame (K : PySem.W.Frag) (d : Nat) : Sp := fun vs H Q _ => ∃ (x y : V) (D : PyData), vs = [x, y] ∧ Dp K H x D ∧ Dp K H y D ∧ okD d D = true ∧ ∀ H' : Hp, Same H H' → Q (.bl true) H'
theorem ok_list {d : Nat} {ds : List PyData} (h : okD (d + 1) (.list ds) = true) : ds.length ≤ 1000 ∧ ∀ x ∈ ds, okD d x = true := by
  unfold okD at h
  simpa using h
theorem ok_tuple {d : Nat} {ds : List PyData} (h : okD (d + 1) (.tuple ds) = true) : ds.length ≤ 1000 ∧ ∀ x ∈ ds, okD d x = true := by
  unfold okD at h
  simpa using h
theorem all_true (n : Nat) : (List.replicate n true).all id = true := by
  induction n with
  | zero => rfl
  | succ n ih =>
    rw [List.replicate_succ, List.all_cons, ih]
    rfl
theorem rep_snoc (n : Nat) : (List.replicate n true).map V.bl ++ [V.bl true] = (List.replicate (n + 1) true).map V.bl := by
  rw [List.replicate_succ', List.map_append]
  rfl
section
variable {P : Program} {w : World} {K : PySem.W.Frag} {mg : Str → Option Value} {base : Heap}
theorem ok_same {f : Addr} {fd : FuncData} (F : Fun K "_law_same" "_law_same" sSame f fd) (b : Binds K fd ["_law_found", "_law_due"] []) (g : mg "_law_same" = some (.ref f))
    (mI : mg "isinstance" = none) (mdict : mg "dict" = none) (mlist : mg "list" = none) (mtuple : mg "tuple" = none) (ml : mg "len" = none) (mall : mg "all" = none) (mz : mg "zip" = none) (mbool : mg "bool" = none) (mstr : mg "str" = none) (mint : mg "int" = none) :
    ∀ d : Nat, FnOk P w K mg base CX0 d f fd ["_law_found", "_law_due"] (spSame K d)
  | 0 => ⟨fun vs H Q E h => by obtain ⟨x, y, D, rfl, _⟩ := h; rfl, fun A outer s H args us vs Q E _ _ _ _ h => by
      obtain ⟨x, y, D, _, _, _, h0, _⟩ := h
      cases h0⟩
  | d + 1 => by
    have G := ok_same F b g mI mdict mlist mtuple ml mall mz mbool mstr mint d
    refine F.ok scSame (fun vs H Q E h => ?_) (fun cdv A outer s H vs Q E hr h => ?_)
    · obtain ⟨x, y, D, rfl, _⟩ := h
      rfl
    · obtain ⟨x, y, D, rfl, hx, hy, hd, q⟩ := h
      refine ⟨_, pss_cons (ps_if (pt_val (pe_callB call_isi (by rfl) mI PyProof.Rows.boot_isinstance (pa_cons (pv 1) (pa_cons (pe_bltn (v := .ty "dict") (by rfl) mdict PyProof.Rows.boot_dict rfl) pa_nil)))) pss_never pss_nil)
        (pss_cons (ps_if (pt_val (pe_callB call_isiT (by rfl) mI PyProof.Rows.boot_isinstance (pa_cons (pv 1) (pa_cons (pe_tup (pa_cons (pe_bltn (v := .ty "list") (by rfl) mlist PyProof.Rows.boot_list rfl) (pa_cons (pe_bltn (v := .ty "tuple") (by rfl) mtuple PyProof.Rows.boot_tuple rfl) pa_nil))) pa_nil))))
          (pss_cons (ps_if (PW.pt (pw_or (pt_cmpR op_ne (pe_callB call_isi (by rfl) mI PyProof.Rows.boot_isinstance (pa_cons (pv 0) (pa_cons (pe_bltn (v := .ty "list") (by rfl) mlist PyProof.Rows.boot_list rfl) pa_nil))) (pe_callB call_isi (by rfl) mI PyProof.Rows.boot_isinstance (pa_cons (pv 1) (pa_cons (pe_bltn (v := .ty "list") (by rfl) mlist PyProof.Rows.boot_list rfl) pa_nil))) (nomark _))
              (pw_or1 (pt_cmpR op_ne (pe_callB call_isi (by rfl) mI PyProof.Rows.boot_isinstance (pa_cons (pv 0) (pa_cons (pe_bltn (v := .ty "tuple") (by rfl) mtuple PyProof.Rows.boot_tuple rfl) pa_nil))) (pe_callB call_isi (by rfl) mI PyProof.Rows.boot_isinstance (pa_cons (pv 1) (pa_cons (pe_bltn (v := .ty "tuple") (by rfl) mtuple PyProof.Rows.boot_tuple rfl) pa_nil))) (nomark _))))) pss_never pss_nil)
          (pss_one (ps_ret (pe_and (pe_cmpR op_eq (pe_callB call_len_seq (by rfl) ml PySem.boot_len (pa_cons (pv 0) pa_nil)) (pe_callB call_len_seq (by rfl) ml PySem.boot_len (pa_cons (pv 1) pa_nil)) (nomark _))
            (pe_one (pe_callB (cr_all rfl) (by rfl) mall (by decide +kernel) (pa_cons
              (pe_lc (own := [("_law_one", 2), ("_law_two", 3)]) (g := gTup K 2 (gCons (gName 2) (gCons (gName 3) gNil))) (tt := tYes) rfl scSame.nd (RZ.pi_zipA (by rfl) mz (pa_cons (pv 0) (pa_cons (pv 1) pa_nil)))
                (blkOk_by (N := ["_law_found", "_law_due", "_law_one", "_law_two"]) (sc := defScope sSame) (by decide +kernel))
                (fun _ _ _ _ _ => pg_tup rfl (pgs_cons (pg_name (i := 2) scSame.nd rfl (.inl rfl)) (pgs_cons (pg_name (i := 3) scSame.nd rfl (.inl rfl)) pgs_nil))) (fun _ _ _ _ _ => pts_nil)
                (fun _ _ _ _ _ => pe_call G hr (by rfl) g F.kp b .nil pass0 (pa_cons (pv 2) (pa_cons (pv 3) pa_nil)))) pa_nil))))))) pss_nil)
        (pss_cons (ps_if (PW.pt (pw_or (pt_cmpR op_isN (pv 1) pe_non (nomark _)) (pw_or1 (pt_val (pe_callB call_isiT (by rfl) mI PyProof.Rows.boot_isinstance (pa_cons (pv 1) (pa_cons (pe_tup (pa_cons (pe_bltn (v := .ty "bool") (by rfl) mbool PyProof.Rows.boot_bool rfl) (pa_cons (pe_bltn (v := .ty "str") (by rfl) mstr PyProof.Rows.boot_str rfl) pa_nil))) pa_nil)))))))
          (pss_one (ps_ret (pe_and (pe_cmpR op_eq (pv 0) (pv 1) (nomark _)) (pe_and (pe_cmpR op_eq (pe_callB call_isi (by rfl) mI PyProof.Rows.boot_isinstance (pa_cons (pv 0) (pa_cons (pe_bltn (v := .ty "bool") (by rfl) mbool PyProof.Rows.boot_bool rfl) pa_nil))) (pe_callB call_isi (by rfl) mI PyProof.Rows.boot_isinstance (pa_cons (pv 1) (pa_cons (pe_bltn (v := .ty "bool") (by rfl) mbool PyProof.Rows.boot_bool rfl) pa_nil))) (nomark _))
            (pe_one (pe_cmpR op_eq (pe_cmpR op_isN (pv 0) pe_non (nomark _)) (pe_cmpR op_isN (pv 1) pe_non (nomark _)) (nomark _))))))) pss_nil)
        (pss_one (ps_ret (pe_and (pe_callB call_isi (by rfl) mI PyProof.Rows.boot_isinstance (pa_cons (pv 0) (pa_cons (pe_bltn (v := .ty "int") (by rfl) mint PyProof.Rows.boot_int rfl) pa_nil)))
          (pe_and (pe_not (pe_callB call_isi (by rfl) mI PyProof.Rows.boot_isinstance (pa_cons (pv 0) (pa_cons (pe_bltn (v := .ty "bool") (by rfl) mbool PyProof.Rows.boot_bool rfl) pa_nil)))) (pe_one (pe_cmpR op_eq (pv 0) (pv 1) (nomark _))))))))), ?_⟩
      cases D with
      | dict kvs => cases hx
      | none =>
        cases hx
        cases hy
        refine ⟨_, rfl, _, _, _, _, _, rfl, .ty _, .base .non, kit_ty (by decide +kernel), _, rfl, iteF ?_⟩
        refine ⟨_, rfl, (by decide : 2 ≤ sizeLine), fun t nt => ⟨_, t, _, _, _, _, rfl, upd_same, .cons (.ty _) (.cons (.ty _) .nil), .base .non, kitAny_cons (kit_ty (r := false) (by decide +kernel)) (fun _ => kitAny_cons (kit_ty (r := false) (by decide +kernel)) (fun _ => kitAny_nil) (fun z => nomatch z)) (fun z => nomatch z), _, rfl, iteF ?_⟩⟩
        refine ⟨_, rfl, rfl, _, rfl, iteT (iteT ?_)⟩
        refine ⟨_, rfl, _, rfl, rfl, _, rfl, iteT ?_⟩
        refine ⟨_, rfl, _, _, _, _, _, rfl, .ty _, .base .non, kit_ty (r := false) (by decide +kernel), _, rfl, _, _, _, _, _, rfl, .ty _, .base .non, kit_ty (r := false) (by decide +kernel), rfl, _, rfl, iteT ?_⟩
        exact ⟨_, rfl, rfl, _, rfl, rfl, rfl, q _ (same_upd nt)⟩
      | bool v =>
        cases hx
        cases hy
        refine ⟨_, rfl, _, _, _, _, _, rfl, .ty _, .base (.bl v), kit_ty (by decide +kernel), _, rfl, iteF ?_⟩
        refine ⟨_, rfl, (by decide : 2 ≤ sizeLine), fun t nt => ⟨_, t, _, _, _, _, rfl, upd_same, .cons (.ty _) (.cons (.ty _) .nil), .base (.bl v), kitAny_cons (kit_ty (r := false) (by decide +kernel)) (fun _ => kitAny_cons (kit_ty (r := false) (by decide +kernel)) (fun _ => kitAny_nil) (fun z => nomatch z)) (fun z => nomatch z), _, rfl, iteF ?_⟩⟩
        refine ⟨_, rfl, rfl, _, rfl, iteF ?_⟩
        refine ⟨_, rfl, (by decide : 2 ≤ sizeLine), fun t2 nt2 => ⟨_, t2, _, _, _, _, rfl, upd_same, .cons (.ty _) (.cons (.ty _) .nil), .base (.bl v), kitAny_cons (r := true) (kit_ty (r := true) (by decide +kernel)) (fun z => nomatch z) (fun z => rfl), _, rfl, iteT ?_⟩⟩
        refine ⟨_, rfl, _, rfl, rfl, _, congrArg V.bl (decide_eq_true rfl), iteT ?_⟩
        refine ⟨_, rfl, _, _, _, _, _, rfl, .ty _, .base (.bl v), kit_ty (r := true) (by decide +kernel), _, rfl, _, _, _, _, _, rfl, .ty _, .base (.bl v), kit_ty (r := true) (by decide +kernel), rfl, _, rfl, iteT ?_⟩
        exact ⟨_, rfl, rfl, _, rfl, rfl, rfl, q _ ((same_upd nt).trans (same_upd nt2))⟩
      | str v =>
        cases hx
        cases hy
        refine ⟨_, rfl, _, _, _, _, _, rfl, .ty _, .base (.str v), kit_ty (by decide +kernel), _, rfl, iteF ?_⟩
        refine ⟨_, rfl, (by decide : 2 ≤ sizeLine), fun t nt => ⟨_, t, _, _, _, _, rfl, upd_same, .cons (.ty _) (.cons (.ty _) .nil), .base (.str v), kitAny_cons (kit_ty (r := false) (by decide +kernel)) (fun _ => kitAny_cons (kit_ty (r := false) (by decide +kernel)) (fun _ => kitAny_nil) (fun z => nomatch z)) (fun z => nomatch z), _, rfl, iteF ?_⟩⟩
        refine ⟨_, rfl, rfl, _, rfl, iteF ?_⟩
        refine ⟨_, rfl, (by decide : 2 ≤ sizeLine), fun t2 nt2 => ⟨_, t2, _, _, _, _, rfl, upd_same, .cons (.ty _) (.cons (.ty _) .nil), .base (.str v), kitAny_cons (r := true) (kit_ty (r := false) (by decide +kernel)) (fun _ => kitAny_cons (kit_ty (r := true) (by decide +kernel)) (fun z => nomatch z) (fun _ => rfl)) (fun z => nomatch z), _, rfl, iteT ?_⟩⟩
        refine ⟨_, rfl, _, rfl, rfl, _, congrArg V.bl (decide_eq_true rfl), iteT ?_⟩
        refine ⟨_, rfl, _, _, _, _, _, rfl, .ty _, .base (.str v), kit_ty (r := false) (by decide +kernel), _, rfl, _, _, _, _, _, rfl, .ty _, .base (.str v), kit_ty (r := false) (by decide +kernel), rfl, _, rfl, iteT ?_⟩
        exact ⟨_, rfl, rfl, _, rfl, rfl, rfl, q _ ((same_upd nt).trans (same_upd nt2))⟩
      | int v =>
        cases hx
        cases hy
        refine ⟨_, rfl, _, _, _, _, _, rfl, .ty _, .base (.int v), kit_ty (by decide +kernel), _, rfl, iteF ?_⟩
        refine ⟨_, rfl, (by decide : 2 ≤ sizeLine), fun t nt => ⟨_, t, _, _, _, _, rfl, upd_same, .cons (.ty _) (.cons (.ty _) .nil), .base (.int v), kitAny_cons (kit_ty (r := false) (by decide +kernel)) (fun _ => kitAny_cons (kit_ty (r := false) (by decide +kernel)) (fun _ => kitAny_nil) (fun z => nomatch z)) (fun z => nomatch z), _, rfl, iteF ?_⟩⟩
        refine ⟨_, rfl, rfl, _, rfl, iteF ?_⟩
        refine ⟨_, rfl, (by decide : 2 ≤ sizeLine), fun t2 nt2 => ⟨_, t2, _, _, _, _, rfl, upd_same, .cons (.ty _) (.cons (.ty _) .nil), .base (.int v), kitAny_cons (kit_ty (r := false) (by decide +kernel)) (fun _ => kitAny_cons (kit_ty (r := false) (by decide +kernel)) (fun _ => kitAny_nil) (fun z => nomatch z)) (fun z => nomatch z), _, rfl, iteF ?_⟩⟩
        refine ⟨_, rfl, _, _, _, _, _, rfl, .ty _, .base (.int v), kit_ty (by decide +kernel), _, rfl, iteT ?_⟩
        refine ⟨_, rfl, _, _, _, _, _, rfl, .ty _, .base (.int v), kit_ty (r := false) (by decide +kernel), _, rfl, _, rfl, iteT ?_⟩
        refine ⟨_, rfl, _, rfl, rfl, ?_⟩
        rw [decide_eq_true rfl]
        exact q _ ((same_upd nt).trans (same_upd nt2))
      | list ds =>
        obtain ⟨a1, xs, rfl, h1, e1⟩ := dp_lst hx
        obtain ⟨a2, ys, rfl, h2, e2⟩ := dp_lst hy
        obtain ⟨hlen, hmem⟩ := ok_list hd
        refine ⟨_, rfl, _, _, _, _, _, rfl, .ty _, ty_lst h2, kit_ty (by decide +kernel), _, rfl, iteF ?_⟩
        refine ⟨_, rfl, (by decide : 2 ≤ sizeLine), fun t nt => ?_⟩
        have S := same_upd (o := .tup [V.ty "list", V.ty "tuple"]) nt
        have g1 := S.seq h1
        have g2 := S.seq h2
        refine ⟨_, t, _, _, _, _, rfl, upd_same, .cons (.ty _) (.cons (.ty _) .nil), ty_lst g2, kitAny_cons (r := true) (kit_ty (r := true) (by decide +kernel)) (fun z => nomatch z) (fun _ => rfl), _, rfl, iteT ?_⟩
        refine ⟨_, rfl, _, _, _, _, _, rfl, .ty _, ty_lst g1, kit_ty (r := true) (by decide +kernel), _, rfl, _, _, _, _, _, rfl, .ty _, ty_lst g2, kit_ty (r := true) (by decide +kernel), rfl, _, rfl, iteF ?_⟩
        refine ⟨_, rfl, _, _, _, _, _, rfl, .ty _, ty_lst g1, kit_ty (r := false) (by decide +kernel), _, rfl, _, _, _, _, _, rfl, .ty _, ty_lst g2, kit_ty (r := false) (by decide +kernel), rfl, _, rfl, iteF ?_⟩
        have hl : xs.length = ys.length := (dps_len e1).trans (dps_len e2).symm
        have hx9 : xs.length ≤ 1000 := by
          rw [dps_len e1]
          exact hlen
        refine ⟨_, rfl, _, _, rfl, (.inl g1), _, rfl, _, _, rfl, (.inl g2), rfl, _, congrArg V.bl (decide_eq_true (congrArg V.int (congrArg Int.ofNat hl))), iteT ?_⟩
        refine ⟨_, rfl, _, rfl, _, _, xs, ys, rfl, .inl ⟨g1, g2, fun L nL => lc_it (walk_zip (xs := xs) (ys := ys) (n := xs.length) (by omega)) (fun i H2 => Same H H2 ∧ H2 L = some (.lst ((List.replicate i true).map V.bl))) ⟨S.trans (same_upd nL), upd_same⟩ (fun i H2 _ p => ⟨Same.seq p.1 h1, Same.seq p.1 h2⟩) ?_ ?_⟩⟩
        · rintro i v H2 H3 hi ⟨s2, hL⟩ ⟨T, x, y, rfl, nT, rfl, ex, ey⟩
          refine ⟨T, _, rfl, SqT.of upd_same, rfl, x, [y], rfl, y, [], rfl, rfl, rfl, x, rfl, y, rfl, ?_⟩
          obtain ⟨D1, f1, k1⟩ := dps_get e1 ex
          obtain ⟨D2, f2, k2⟩ := dps_get e2 ey
          have eD : D1 = D2 := Option.some.inj (f1.symm.trans f2)
          subst eD
          have S3 := s2.trans (same_upd (o := .tup [x, y]) nT)
          refine ⟨x, y, D1, rfl, dp_same S3 _ _ k1, dp_same S3 _ _ k2, hmem _ (List.mem_of_getElem? f1), fun H4 s4 => ?_⟩
          have hL4 : H4 L = some (.lst ((List.replicate i true).map V.bl)) := s4 _ _ (same_upd nT _ _ hL)
          have nLH : H L = none := S.free nL
          refine ⟨_, hL4, ?_, Same.new_upd (S3.trans s4) nLH, ?_⟩
          · rw [List.length_map, List.length_replicate]
            exact small1000 (by omega)
          · rw [upd_same, rep_snoc]
        · rintro H2 ⟨s2, hL⟩
          refine ⟨L, List.replicate xs.length true, rfl, SqL.of hL, ?_⟩
          rw [all_true]
          exact q _ s2
      | tuple ds =>
        obtain ⟨a1, xs, rfl, h1, e1⟩ := dp_tup hx
        obtain ⟨a2, ys, rfl, h2, e2⟩ := dp_tup hy
        obtain ⟨hlen, hmem⟩ := ok_tuple hd
        refine ⟨_, rfl, _, _, _, _, _, rfl, .ty _, ty_tup h2, kit_ty (by decide +kernel), _, rfl, iteF ?_⟩
        refine ⟨_, rfl, (by decide : 2 ≤ sizeLine), fun t nt => ?_⟩
        have S := same_upd (o := .tup [V.ty "list", V.ty "tuple"]) nt
        have g1 := Same.tup S h1
        have g2 := Same.tup S h2
        refine ⟨_, t, _, _, _, _, rfl, upd_same, .cons (.ty _) (.cons (.ty _) .nil), ty_tup g2, kitAny_cons (r := true) (kit_ty (r := false) (by decide +kernel)) (fun _ => kitAny_cons (kit_ty (r := true) (by decide +kernel)) (fun z => nomatch z) (fun _ => rfl)) (fun z => nomatch z), _, rfl, iteT ?_⟩
        refine ⟨_, rfl, _, _, _, _, _, rfl, .ty _, ty_tup g1, kit_ty (r := false) (by decide +kernel), _, rfl, _, _, _, _, _, rfl, .ty _, ty_tup g2, kit_ty (r := false) (by decide +kernel), rfl, _, rfl, iteF ?_⟩
        refine ⟨_, rfl, _, _, _, _, _, rfl, .ty _, ty_tup g1, kit_ty (r := true) (by decide +kernel), _, rfl, _, _, _, _, _, rfl, .ty _, ty_tup g2, kit_ty (r := true) (by decide +kernel), rfl, _, rfl, iteF ?_⟩
        have hl : xs.length = ys.length := (dps_len e1).trans (dps_len e2).symm
        have hx9 : xs.length ≤ 1000 := by
          rw [dps_len e1]
          exact hlen
        refine ⟨_, rfl, _, _, rfl, (.inr g1), _, rfl, _, _, rfl, (.inr g2), rfl, _, congrArg V.bl (decide_eq_true (congrArg V.int (congrArg Int.ofNat hl))), iteT ?_⟩
        refine ⟨_, rfl, _, rfl, _, _, xs, ys, rfl, .inr ⟨g1, g2, fun L nL => lc_it (walk_zipT (xs := xs) (ys := ys) (n := xs.length) (by omega)) (fun i H2 => Same H H2 ∧ H2 L = some (.lst ((List.replicate i true).map V.bl))) ⟨S.trans (same_upd nL), upd_same⟩ (fun i H2 _ p => ⟨Same.tup p.1 h1, Same.tup p.1 h2⟩) ?_ ?_⟩⟩
        · rintro i v H2 H3 hi ⟨s2, hL⟩ ⟨T, x, y, rfl, nT, rfl, ex, ey⟩
          refine ⟨T, _, rfl, SqT.of upd_same, rfl, x, [y], rfl, y, [], rfl, rfl, rfl, x, rfl, y, rfl, ?_⟩
          obtain ⟨D1, f1, k1⟩ := dps_get e1 ex
          obtain ⟨D2, f2, k2⟩ := dps_get e2 ey
          have eD : D1 = D2 := Option.some.inj (f1.symm.trans f2)
          subst eD
          have S3 := s2.trans (same_upd (o := .tup [x, y]) nT)
          refine ⟨x, y, D1, rfl, dp_same S3 _ _ k1, dp_same S3 _ _ k2, hmem _ (List.mem_of_getElem? f1), fun H4 s4 => ?_⟩
          have hL4 : H4 L = some (.lst ((List.replicate i true).map V.bl)) := s4 _ _ (same_upd nT _ _ hL)
          have nLH : H L = none := S.free nL
          refine ⟨_, hL4, ?_, Same.new_upd (S3.trans s4) nLH, ?_⟩
          · rw [List.length_map, List.length_replicate]
            exact small1000 (by omega)
          · rw [upd_same, rep_snoc]
        · rintro H2 ⟨s2, hL⟩
          refine ⟨L, List.replicate xs.length true, rfl, SqL.of hL, ?_⟩
          rw [all_true]
          exact q _ s2
end
theorem vd_two {K : PySem.W.Frag} {σ : L2.St} {H : Hp} {t : TA} {E : XK} {r : Rat → Rat → Rat} {C : Rat → Prop} {q1 q2 : Rat} {a b : Nat} (h : VDs K t σ H [frD q1, frD q2]) (z1 : Sz a q1) (z2 : Sz b q2) (hz : a + b < 9000) (hc : C q2) : VD K (tCall (spTwo K r C) [] E t) σ H (frD (r q1 q2)) := fun H1 s Q q =>
  h H1 s _ fun vs H2 s2 dvs => by
    rw [List.append_nil]
    obtain ⟨x, y, rfl, hx, hy⟩ := dps2 dvs
    exact ⟨x, y, q1, q2, a, b, rfl, hx, hy, z1, z2, hz, hc, fun v H3 s3 d3 => q _ _ (s2.trans s3) d3⟩
theorem vd_same {K : PySem.W.Frag} {σ : L2.St} {H : Hp} {t : TA} {E : XK} {n : Nat} {D : PyData} (h : VDs K t σ H [D, D]) (ok : okD n D = true) : VD K (tCall (spSame K n) [] E t) σ H (.bool true) := fun H1 s Q q =>
  h H1 s _ fun vs H2 s2 dvs => by
    rw [List.append_nil]
    obtain ⟨x, y, rfl, hx, hy⟩ := dps2 dvs
    exact ⟨x, y, D, rfl, hx, hy, ok, fun H3 s3 => q _ _ (s2.trans s3) (.bl true)⟩

/-! ### a pane, met -/
def PMet : List PyData → PyData → Prop := fun ds d => ∃ (p a b : Rat) (c n m : Nat), ds = [frD p, frD a, frD b] ∧ Sz c p ∧ Sz n a ∧ Sz m b ∧ 2 * c + 2 * n + 2 * m + 20 < 9000 ∧ d = prD (metL p a b, metR p a b)
theorem sz_metL {p a b : Rat} {c n m : Nat} (zp : Sz c p) (za : Sz n a) (zb : Sz m b) : Sz (2 * c + n + m + 4) (metL p a b) := (sz_add (sz_mul zp za) (sz_mul (sz_sub sz_one zp) zb)).mono (by omega)
theorem sz_metR {p a b : Rat} {c n m : Nat} (zp : Sz c p) (za : Sz n a) (zb : Sz m b) : Sz (2 * c + n + m + 4) (metR p a b) := (sz_sub (sz_mul (sz_add sz_one zp) za) (sz_mul zp zb)).mono (by omega)
theorem met_thrown (p a b : Rat) : prD (b + p * (a - b), a + p * (a - b)) = prD (metL p a b, metR p a b) := by
  have e1 : b + p * (a - b) = metL p a b := by unfold metL; grind
  have e2 : a + p * (a - b) = metR p a b := by unfold metR; grind
  rw [e1, e2]
abbrev s_met : Stmt := topS 7
theorem sc_met : FnScope ["pane", "a", "b", "thrown"] ["pane", "a", "b"] (defScope s_met) := ⟨rfl, rfl, rfl, by decide +kernel, rfl, by decide +kernel, by decide +kernel⟩
section
variable {P : Program} {w : World} {K : PySem.W.Frag} {mg : Str → Option Value} {base : Heap}

theorem ok_met {f : Addr} {fd : FuncData} {k : Nat} (F : Fun K "met" "met" s_met f fd) {f1 : Addr} {fd1 : FuncData} (cT : Cal P w K mg base k "times" ["one", "other"] (spTwo K (fun q1 q2 => q1 * q2) (fun _ => True)) f1 fd1) {f2 : Addr} {fd2 : FuncData} (cP : Cal P w K mg base k "plus" ["one", "other"] (spTwo K (fun q1 q2 => q1 + q2) (fun _ => True)) f2 fd2) {f3 : Addr} {fd3 : FuncData} (cM : Cal P w K mg base k "minus" ["one", "other"] (spTwo K (fun q1 q2 => q1 - q2) (fun _ => True)) f3 fd3) :
    FnOk P w K mg base CX0 (k + 1) f fd ["pane", "a", "b"] (spP K PMet) := by
  refine F.ok sc_met (fun vs H Q E h => ?_) (fun cdv A outer s H vs Q E hr h => ?_)
  · obtain ⟨ds, d, hd, ⟨p, a, b, c, n, m, rfl, zp, za, zb, hz, rfl⟩, _⟩ := h
    exact dps_len hd
  · obtain ⟨ds, d, hd, ⟨p, a, b, c, n, m, rfl, zp, za, zb, hz, rfl⟩, q⟩ := h
    obtain ⟨x1, x2, x3, rfl, h1, h2, h3⟩ := dps3 hd
    refine ⟨_, (pss_cons (ps_set (i := 3) sc_met.nd rfl (.inl rfl) (pe_c cT hr (by rfl) (pa_cons (pv 0) (pa_cons (pe_c cM hr (by rfl) (pa_cons (pv 1) (pa_cons (pv 2) pa_nil))) pa_nil))))
      (pss_one (ps_ret (pe_tup (pa_cons (pe_c cP hr (by rfl) (pa_cons (pv 2) (pa_cons (pv 3) pa_nil))) (pa_cons (pe_c cP hr (by rfl) (pa_cons (pv 1) (pa_cons (pv 3) pa_nil))) pa_nil)))))), ?_⟩
    have z1 := sz_sub za zb
    have z2 := sz_mul zp z1
    show tSeq _ _ _ [some (x1), some (x2), some (x3), none] _
    refine st_set (K := K) (i := 3) (vd_two (vds_cons (vd_var h1 rfl) (vds_cons (vd_two (vds_cons (vd_var h2 rfl) (vds_cons (vd_var h3 rfl) vds_nil)) za zb (by omega) trivial) vds_nil)) zp z1 (by omega) trivial) fun v5 H3 s4 d6 => ?_
    have f7 := dp_same s4 _ _ h2
    have f8 := dp_same s4 _ _ h3
    have r9 := Same.trans (Same.refl H) s4
    have z10 := sz_add zb z2
    have z11 := sz_add za z2
    show tRet _ _ [some (x1), some (x2), some (x3), some (v5)] _
    exact st_ret (K := K) (VD.eq (vd_tup (vds_cons (vd_two (vds_cons (vd_var f8 rfl) (vds_cons (vd_var d6 rfl) vds_nil)) zb z2 (by omega) trivial) (vds_cons (vd_two (vds_cons (vd_var f7 rfl) (vds_cons (vd_var d6 rfl) vds_nil)) za z2 (by omega) trivial) vds_nil)) (by decide : 2 ≤ 1000)) (met_thrown _ _ _)) fun v12 H13 s14 d15 => q v12 H13 (Same.trans r9 s14) d15
end
abbrev s__law_met : Stmt := topS 21
theorem sc__law_met : FnScope ["_law_pane_here", "_law_a", "_law_b", "_law_one", "_law_left"] ["_law_pane_here", "_law_a", "_law_b"] (defScope s__law_met) := ⟨rfl, rfl, rfl, by decide +kernel, rfl, by decide +kernel, by decide +kernel⟩
section
variable {P : Program} {w : World} {K : PySem.W.Frag} {mg : Str → Option Value} {base : Heap}

theorem ok_lmet {f : Addr} {fd : FuncData} {k : Nat} (F : Fun K "_law_met" "_law_met" s__law_met f fd) {f1 : Addr} {fd1 : FuncData} (cT : Cal P w K mg base k "_law_times" ["_law_one", "_law_other"] (spTwo K (fun q1 q2 => q1 * q2) (fun _ => True)) f1 fd1) {f2 : Addr} {fd2 : FuncData} (cP : Cal P w K mg base k "_law_plus" ["_law_one", "_law_other"] (spTwo K (fun q1 q2 => q1 + q2) (fun _ => True)) f2 fd2) {f3 : Addr} {fd3 : FuncData} (cM : Cal P w K mg base k "_law_less" ["_law_one", "_law_other"] (spTwo K (fun q1 q2 => q1 - q2) (fun _ => True)) f3 fd3) :
    FnOk P w K mg base CX0 (k + 1) f fd ["_law_pane_here", "_law_a", "_law_b"] (spP K PMet) := by
  refine F.ok sc__law_met (fun vs H Q E h => ?_) (fun cdv A outer s H vs Q E hr h => ?_)
  · obtain ⟨ds, d, hd, ⟨p, a, b, c, n, m, rfl, zp, za, zb, hz, rfl⟩, _⟩ := h
    exact dps_len hd
  · obtain ⟨ds, d, hd, ⟨p, a, b, c, n, m, rfl, zp, za, zb, hz, rfl⟩, q⟩ := h
    obtain ⟨x1, x2, x3, rfl, h1, h2, h3⟩ := dps3 hd
    refine ⟨_, (pss_cons (ps_set (i := 3) sc__law_met.nd rfl (.inl rfl) (pe_tup (pa_cons pe_int (pa_cons pe_int pa_nil))))
      (pss_cons (ps_set (i := 4) sc__law_met.nd rfl (.inl rfl) (pe_c cP hr (by rfl) (pa_cons (pe_c cT hr (by rfl) (pa_cons (pv 0) (pa_cons (pv 1) pa_nil))) (pa_cons (pe_c cT hr (by rfl) (pa_cons (pe_c cM hr (by rfl) (pa_cons (pv 3) (pa_cons (pv 0) pa_nil))) (pa_cons (pv 2) pa_nil))) pa_nil))))
      (pss_one (ps_ret (pe_tup (pa_cons (pv 4) (pa_cons (pe_c cM hr (by rfl) (pa_cons (pe_c cT hr (by rfl) (pa_cons (pe_c cP hr (by rfl) (pa_cons (pv 3) (pa_cons (pv 0) pa_nil))) (pa_cons (pv 1) pa_nil))) (pa_cons (pe_c cT hr (by rfl) (pa_cons (pv 0) (pa_cons (pv 2) pa_nil))) pa_nil))) pa_nil))))))), ?_⟩
    show tSeq _ _ _ [some (x1), some (x2), some (x3), none, none] _
    refine st_set (K := K) (i := 3) (vd_fr (1 : Rat) (vd_tup (vds_cons vd_int (vds_cons vd_int vds_nil)) (by decide : 2 ≤ 1000)) (by decide +kernel) (by decide +kernel)) fun v3 H1 s2 d4 => ?_
    have f5 := dp_same s2 _ _ h1
    have f6 := dp_same s2 _ _ h2
    have f7 := dp_same s2 _ _ h3
    have r8 := Same.trans (Same.refl H) s2
    have z9 := sz_mul zp za
    have z10 := sz_sub (⟨by decide +kernel, by decide +kernel⟩ : Sz 1 (1 : Rat)) zp
    have z11 := sz_mul z10 zb
    have z12 := sz_add z9 z11
    show tSeq _ _ _ [some (x1), some (x2), some (x3), some (v3), none] _
    refine st_set (K := K) (i := 4) (vd_two (vds_cons (vd_two (vds_cons (vd_var f5 rfl) (vds_cons (vd_var f6 rfl) vds_nil)) zp za (by omega) trivial) (vds_cons (vd_two (vds_cons (vd_two (vds_cons (vd_var d4 rfl) (vds_cons (vd_var f5 rfl) vds_nil)) (⟨by decide +kernel, by decide +kernel⟩ : Sz 1 (1 : Rat)) zp (by omega) trivial) (vds_cons (vd_var f7 rfl) vds_nil)) z10 zb (by omega) trivial) vds_nil)) z9 z11 (by omega) trivial) fun v15 H13 s14 d16 => ?_
    have f17 := dp_same s14 _ _ f5
    have f18 := dp_same s14 _ _ f6
    have f19 := dp_same s14 _ _ f7
    have f20 := dp_same s14 _ _ d4
    have r21 := Same.trans r8 s14
    have z22 := sz_add (⟨by decide +kernel, by decide +kernel⟩ : Sz 1 (1 : Rat)) zp
    have z23 := sz_mul z22 za
    have z24 := sz_mul zp zb
    have z25 := sz_sub z23 z24
    show tRet _ _ [some (x1), some (x2), some (x3), some (v3), some (v15)] _
    exact st_ret (K := K) (VD.eq (vd_tup (vds_cons (vd_var d16 rfl) (vds_cons (vd_two (vds_cons (vd_two (vds_cons (vd_two (vds_cons (vd_var f20 rfl) (vds_cons (vd_var f17 rfl) vds_nil)) (⟨by decide +kernel, by decide +kernel⟩ : Sz 1 (1 : Rat)) zp (by omega) trivial) (vds_cons (vd_var f18 rfl) vds_nil)) z22 za (by omega) trivial) (vds_cons (vd_two (vds_cons (vd_var f17 rfl) (vds_cons (vd_var f19 rfl) vds_nil)) zp zb (by omega) trivial) vds_nil)) z23 z24 (by omega) trivial) vds_nil)) (by decide : 2 ≤ 1000)) (rfl)) fun v26 H27 s28 d29 => q v26 H27 (Same.trans r21 s28) d29
end
/-! ### a drawn pane, a drawn row, a drawn weight -/
abbrev sPane : Stmt := topS 19
theorem scPane : FnScope ["_law_box_here", "_law_under", "_law_drawn"] ["_law_box_here"] (defScope sPane) := ⟨rfl, rfl, rfl, by decide +kernel, rfl, by decide +kernel, by decide +kernel⟩
def spPane (K : PySem.W.Frag) : Sp := fun vs H Q _ => ∃ (p : Addr) (n : Nat), vs = [.ref p] ∧ Bx H p n ∧ n < 900000 ∧
  ∀ (v : V) (H' : Hp) (q : Rat), PaneQ q → Chg p H H' → Bx H' p (n + 4) → Dp K H' v (frD q) → Q v H'
section
variable {P : Program} {w : World} {K : PySem.W.Frag} {mg : Str → Option Value} {base : Heap}
theorem mem8 {K : PySem.W.Frag} {H : Hp} {a b c d e f g h v : V} (i1 : IsPane K H a) (i2 : IsPane K H b) (i3 : IsPane K H c) (i4 : IsPane K H d) (i5 : IsPane K H e) (i6 : IsPane K H f) (i7 : IsPane K H g) (i8 : IsPane K H h) (hm : v ∈ [a, b, c, d, e, f, g, h]) : IsPane K H v := by
  simp only [List.mem_cons, List.not_mem_nil, or_false] at hm
  rcases hm with rfl | rfl | rfl | rfl | rfl | rfl | rfl | rfl <;> assumption
theorem ok_pane {f fT fO fC : Addr} {fd fdT fdO fdC : FuncData} {k : Nat} (F : Fun K "_law_pane" "_law_pane" sPane f fd)
    (FT : Fun K "_law_take" "_law_take" sTake fT fdT) (bT : Binds K fdT ["_law_box_here", "_law_span"] []) (gT : mg "_law_take" = some (.ref fT))
    (FO : Fun K "_law_of" "_law_of" sOf fO fdO) (bO : Binds K fdO ["_law_box_here", "_law_some"] []) (gO : mg "_law_of" = some (.ref fO))
    (FC : Fun K "_law_frac" "_law_frac" sFrac fC fdC) (bC : Binds K fdC ["_law_top", "_law_under"] []) (gC : mg "_law_frac" = some (.ref fC))
    (ml : mg "len" = none) (ma : mg "abs" = none) : FnOk P w K mg base CX0 (k + 3) f fd ["_law_box_here"] (spPane K) := by
  have GT : FnOk P w K mg base CX0 (k + 2) fT fdT ["_law_box_here", "_law_span"] spTake := ok_take FT
  have GO : FnOk P w K mg base CX0 (k + 2) fO fdO ["_law_box_here", "_law_some"] (spOf K) := ok_of FO FT bT gT ml
  have GC : FnOk P w K mg base CX0 (k + 2) fC fdC ["_law_top", "_law_under"] (spFrac K) := ok_frac FC ma
  refine F.ok scPane (fun vs H Q E h => ?_) (fun cdv A outer s H vs Q E hr h => ?_)
  · obtain ⟨p, n, rfl, _⟩ := h
    rfl
  · obtain ⟨p, n, rfl, hb, hn, q⟩ := h
    refine ⟨_, pss_cons (ps_set (i := 1) scPane.nd rfl (.inl rfl) (pe_op op_add pe_int (pe_call GT hr (by rfl) gT FT.kp bT .nil pass0 (pa_cons (pv 0) (pa_cons (pe_ix ix_list (pe_lst (pa_cons pe_int (pa_cons pe_int (pa_cons pe_int pa_nil)))) (pe_call GT hr (by rfl) gT FT.kp bT .nil pass0 (pa_cons (pv 0) (pa_cons pe_int pa_nil))) (fun _ _ => rfl)) pa_nil)))))
      (pss_cons (ps_set (i := 2) scPane.nd rfl (.inl rfl) (pe_call GC hr (by rfl) gC FC.kp bC .nil pass0 (pa_cons (pe_op op_add (pe_op op_sub (pe_call GT hr (by rfl) gT FT.kp bT .nil pass0 (pa_cons (pv 0) (pa_cons (pe_op op_sub (pe_op op_mul pe_int (pv 1)) pe_int) pa_nil))) (pv 1)) pe_int) (pa_cons (pv 1) pa_nil))))
      (pss_one (ps_ret (pe_call GO hr (by rfl) gO FO.kp bO .nil pass0 (pa_cons (pv 0) (pa_cons (pe_lst (pa_cons (pv 2) (pa_cons (pe_tup (pa_cons pe_int (pa_cons pe_int pa_nil))) (pa_cons (pe_tup (pa_cons (pe_un un_neg pe_int) (pa_cons pe_int pa_nil))) (pa_cons (pe_tup (pa_cons pe_int (pa_cons pe_int pa_nil))) (pa_cons (pe_tup (pa_cons pe_int (pa_cons pe_int pa_nil))) (pa_cons (pe_tup (pa_cons (pe_op op_sub pe_int (pv 1)) (pa_cons (pv 1) pa_nil))) (pa_cons (pv 2) (pa_cons (pv 2) pa_nil))))))))) pa_nil)))))), ?_⟩
    -- under
    refine ⟨.ref p, rfl, (by decide : 3 ≤ sizeLine), fun l hl => ?_⟩
    have b0 := hb.same (same_upd (o := .lst [.int 3, .int 8, .int 59]) hl)
    have nlp : l ≠ p := by
      obtain ⟨x, e⟩ := hb.at
      exact (ne_of_none e hl).symm
    refine ⟨.ref p, rfl, p, 3, n, rfl, b0, by omega, by decide, by decide, fun r H1 h0 h3 c1 b1 => ?_⟩
    obtain ⟨z, hz, hz1, hz2⟩ := pick3 h0 h3
    refine ⟨l, _, _, _, rfl, rfl, SqL.of (c1 _ _ nlp upd_same), hz, p, z, n + 1, rfl, b1, by omega, hz1, by omega, fun r2 H2 h20 h2z c2 b2 => ?_⟩
    have C2 : Chg p H H2 := (Chg.of_same (same_upd hl)).trans (c1.trans c2)
    refine ⟨_, _, rfl, rfl, ?_⟩
    -- any one
    refine ⟨.ref p, rfl, _, rfl, _, _, rfl, rfl, .inl ⟨by decide, by decide⟩, _, _, rfl, rfl, p, _, n + 2, rfl, b2, by omega, by omega, by omega, fun r3 H3 h30 h3z c3 b3 => ?_⟩
    refine ⟨_, rfl, _, _, rfl, rfl, _, _, rfl, rfl, _, rfl, _, _, 6, rfl, by omega, by omega, by omega, by decide, by decide, fun v H4 s4 d4 => ?_⟩
    have P0 : PaneQ (Rat.divInt (r3 - (2 + r2) + 1) (2 + r2)) := pane_fr (by omega) (by omega) (by omega)
    have i0 : IsPane K H4 v := ⟨_, P0, d4⟩
    have b4 : Bx H4 p (n + 3) := b3.same s4
    have C4 : Chg p H H4 := C2.trans (c3.trans (Chg.of_same s4))
    -- the menu
    refine ⟨.ref p, rfl, v, rfl, (by decide : 2 ≤ sizeLine), fun a1 n1 => ⟨1, rfl, (by decide : 2 ≤ sizeLine), fun a2 n2 => ⟨(by decide : 2 ≤ sizeLine), fun a3 n3 => ⟨(by decide : 2 ≤ sizeLine), fun a4 n4 => ⟨_, rfl, _, _, rfl, rfl, _, rfl, (by decide : 2 ≤ sizeLine), fun a5 n5 => ⟨v, rfl, v, rfl, (by decide : 8 ≤ sizeLine), fun l2 nl2 => ?_⟩⟩⟩⟩⟩⟩
    have S1 := same_upd (o := .tup [.int 1, .int 2]) n1
    have S2 := same_upd (o := .tup [.int (-1), .int 2]) n2
    have S3 := same_upd (o := .tup [.int 1, .int 3]) n3
    have S4 := same_upd (o := .tup [.int 0, .int 1]) n4
    have S5 := same_upd (o := .tup [.int (1 - (2 + r2)), .int (2 + r2)]) n5
    have S6 := same_upd (o := .lst [v, .ref a1, .ref a2, .ref a3, .ref a4, .ref a5, v, v]) nl2
    have i1 := (((((pane_lit (K := K) (by decide) (by decide) (by decide) (by decide) (SqT.of (upd_same (H := H4) (a := a1) (o := .tup [.int 1, .int 2])))).same S2).same S3).same S4).same S5).same S6
    have i2 := ((((pane_lit (K := K) (by decide) (by decide) (by decide) (by decide) (SqT.of (upd_same (a := a2) (o := .tup [.int (-1), .int 2])))).same S3).same S4).same S5).same S6
    have i3 := (((pane_lit (K := K) (by decide) (by decide) (by decide) (by decide) (SqT.of (upd_same (a := a3) (o := .tup [.int 1, .int 3])))).same S4).same S5).same S6
    have i4 := ((pane_lit (K := K) (by decide) (by decide) (by decide) (by decide) (SqT.of (upd_same (a := a4) (o := .tup [.int 0, .int 1])))).same S5).same S6
    have i5 := (pane_lit (K := K) (gcd_one_less (2 + r2)) (by omega) (by omega) (by omega) (SqT.of (upd_same (a := a5) (o := .tup [.int (1 - (2 + r2)), .int (2 + r2)])))).same S6
    have SS := ((((S1.trans S2).trans S3).trans S4).trans S5).trans S6
    have i0' := i0.same SS
    have b5 := b4.same SS
    have nl2p : l2 ≠ p := by
      obtain ⟨x, e⟩ := (b4.same ((((S1.trans S2).trans S3).trans S4).trans S5)).at
      exact (ne_of_none e nl2).symm
    refine ⟨p, l2, _, n + 3, rfl, b5, by omega, upd_same, nl2p, by simp, (by decide : 8 < 1000), fun v2 H5 hm c5 b6 => ?_⟩
    obtain ⟨q2, pq, dq⟩ := mem8 i0' i1 i2 i3 i4 i5 i0' i0' hm
    exact q v2 H5 q2 pq (C4.trans ((Chg.of_same SS).trans c5)) b6 (b5.dp c5 dq (noL_fr q2))
end

/-! ### a drawn size -/
abbrev s__law_size : Stmt := topS 20
theorem sc__law_size : FnScope ["_law_box_here"] ["_law_box_here"] (defScope s__law_size) := ⟨rfl, rfl, rfl, by decide +kernel, rfl, by decide +kernel, by decide +kernel⟩
def spSize (K : PySem.W.Frag) : Sp := fun vs H Q _ => ∃ (p : Addr) (n : Nat), vs = [.ref p] ∧ Bx H p n ∧ n < 900000 ∧
  ∀ (v : V) (H' : Hp) (q : Rat), Sz 5 q → Chg p H H' → Bx H' p (n + 3) → Dp K H' v (frD q) → Q v H'
section
variable {P : Program} {w : World} {K : PySem.W.Frag} {mg : Str → Option Value} {base : Heap}
theorem ok_size {f fT fO fC : Addr} {fd fdT fdO fdC : FuncData} {k : Nat} (F : Fun K "_law_size" "_law_size" s__law_size f fd)
    (FT : Fun K "_law_take" "_law_take" sTake fT fdT) (bT : Binds K fdT ["_law_box_here", "_law_span"] []) (gT : mg "_law_take" = some (.ref fT))
    (FO : Fun K "_law_of" "_law_of" sOf fO fdO) (bO : Binds K fdO ["_law_box_here", "_law_some"] []) (gO : mg "_law_of" = some (.ref fO))
    (FC : Fun K "_law_frac" "_law_frac" sFrac fC fdC) (bC : Binds K fdC ["_law_top", "_law_under"] []) (gC : mg "_law_frac" = some (.ref fC))
    (ml : mg "len" = none) (ma : mg "abs" = none) : FnOk P w K mg base CX0 (k + 3) f fd ["_law_box_here"] (spSize K) := by
  have GT : FnOk P w K mg base CX0 (k + 2) fT fdT ["_law_box_here", "_law_span"] spTake := ok_take FT
  have GO : FnOk P w K mg base CX0 (k + 2) fO fdO ["_law_box_here", "_law_some"] (spOf K) := ok_of FO FT bT gT ml
  have GC : FnOk P w K mg base CX0 (k + 2) fC fdC ["_law_top", "_law_under"] (spFrac K) := ok_frac FC ma
  refine F.ok sc__law_size (fun vs H Q E h => ?_) (fun cdv A outer s H vs Q E hr h => ?_)
  · obtain ⟨p, n, rfl, _⟩ := h
    rfl
  · obtain ⟨p, n, rfl, hb, hn, q⟩ := h
    refine ⟨_, (pss_one (ps_ret (pe_call GO hr (by rfl) gO FO.kp bO .nil pass0 (pa_cons (pv 0) (pa_cons (pe_lst (pa_cons (pe_tup (pa_cons pe_int (pa_cons pe_int pa_nil))) (pa_cons (pe_tup (pa_cons (pe_un un_neg pe_int) (pa_cons pe_int pa_nil))) (pa_cons (pe_tup (pa_cons pe_int (pa_cons pe_int pa_nil))) (pa_cons (pe_tup (pa_cons pe_int (pa_cons pe_int pa_nil))) (pa_cons (pe_call GC hr (by rfl) gC FC.kp bC .nil pass0 (pa_cons (pe_op op_sub (pe_call GT hr (by rfl) gT FT.kp bT .nil pass0 (pa_cons (pv 0) (pa_cons pe_int pa_nil))) pe_int) (pa_cons (pe_op op_add pe_int (pe_call GT hr (by rfl) gT FT.kp bT .nil pass0 (pa_cons (pv 0) (pa_cons pe_int pa_nil)))) pa_nil))) pa_nil)))))) pa_nil))))), ?_⟩
    refine ⟨.ref p, rfl, (by decide : 2 ≤ sizeLine), fun a1 n1 => ?_⟩
    have s1 := same_upd (o := .tup [.int (1), .int 1]) n1
    have b1 := hb.same s1
    have i1 := isz_new (K := K) (z := 5) (i := 1) (j := 1) (1 : Rat) n1 (by decide +kernel) (by decide +kernel) ⟨by decide +kernel, by decide +kernel⟩
    have C1 := Chg.of_same (p := p) s1
    refine ⟨1, rfl, (by decide : 2 ≤ sizeLine), fun a2 n2 => ?_⟩
    have s2 := same_upd (o := .tup [.int (-1), .int 1]) n2
    have i1 := i1.same s2
    have b2 := b1.same s2
    have i2 := isz_new (K := K) (z := 5) (i := -1) (j := 1) (-1 : Rat) n2 (by decide +kernel) (by decide +kernel) ⟨by decide +kernel, by decide +kernel⟩
    have C2 := C1.trans (Chg.of_same s2)
    refine ⟨(by decide : 2 ≤ sizeLine), fun a3 n3 => ?_⟩
    have s3 := same_upd (o := .tup [.int (0), .int 1]) n3
    have i1 := i1.same s3
    have i2 := i2.same s3
    have b3 := b2.same s3
    have i3 := isz_new (K := K) (z := 5) (i := 0) (j := 1) (0 : Rat) n3 (by decide +kernel) (by decide +kernel) ⟨by decide +kernel, by decide +kernel⟩
    have C3 := C2.trans (Chg.of_same s3)
    refine ⟨(by decide : 2 ≤ sizeLine), fun a4 n4 => ?_⟩
    have s4 := same_upd (o := .tup [.int (1), .int 2]) n4
    have i1 := i1.same s4
    have i2 := i2.same s4
    have i3 := i3.same s4
    have b4 := b3.same s4
    have i4 := isz_new (K := K) (z := 5) (i := 1) (j := 2) (1 / 2 : Rat) n4 (by decide +kernel) (by decide +kernel) ⟨by decide +kernel, by decide +kernel⟩
    have C4 := C3.trans (Chg.of_same s4)
    refine ⟨.ref p, rfl, p, 41, n, rfl, b4, by omega, by decide, by decide, fun r1 H1 h10 h11 c1 bb1 => ?_⟩
    have i1 := b4.isz c1 i1
    have i2 := b4.isz c1 i2
    have i3 := b4.isz c1 i3
    have i4 := b4.isz c1 i4
    refine ⟨_, _, rfl, rfl, .ref p, rfl, p, 9, n + 1, rfl, bb1, by omega, by decide, by decide, fun r2 H2 h20 h21 c2 bb2 => ?_⟩
    have i1 := bb1.isz c2 i1
    have i2 := bb1.isz c2 i2
    have i3 := bb1.isz c2 i3
    have i4 := bb1.isz c2 i4
    refine ⟨_, _, rfl, rfl, _, _, 5, rfl, by omega, by omega, by omega, by decide, by decide, fun v H3 s9 d9 => ?_⟩
    have i1 := i1.same s9
    have i2 := i2.same s9
    have i3 := i3.same s9
    have i4 := i4.same s9
    have iv : IsSz K 5 H3 v := ⟨_, sz_fr (by omega) (by omega) (by omega), d9⟩
    have bb3 := bb2.same s9
    have CC := C4.trans ((c1.trans c2).trans (Chg.of_same s9))
    refine ⟨(by decide : 5 ≤ sizeLine), fun l nl => ?_⟩
    have s0 := same_upd (o := .lst [.ref a1, .ref a2, .ref a3, .ref a4, v]) nl
    have i1 := i1.same s0
    have i2 := i2.same s0
    have i3 := i3.same s0
    have i4 := i4.same s0
    have iv := iv.same s0
    have nlp := bb3.ne nl
    refine ⟨p, l, _, n + 2, rfl, bb3.same s0, by omega, upd_same, nlp, by simp, (by decide : 5 < 1000), fun v2 H5 hm c5 b5 => ?_⟩
    have hv : IsSz K 5 H5 v2 := by
      simp only [List.mem_cons, List.not_mem_nil, or_false] at hm
      rcases hm with rfl | rfl | rfl | rfl | rfl
      · exact (bb3.same s0).isz c5 i1
      · exact (bb3.same s0).isz c5 i2
      · exact (bb3.same s0).isz c5 i3
      · exact (bb3.same s0).isz c5 i4
      · exact (bb3.same s0).isz c5 iv
    obtain ⟨q2, z2, d2⟩ := hv
    exact q v2 H5 q2 z2 (CC.trans ((Chg.of_same s0).trans c5)) b5 d2
end

theorem met_back (p a b : Rat) : PyData.tuple [frD a, frD b] = prD (metL p (metL p a b) (metR p a b), metR p (metL p a b) (metR p a b)) := by
  have e1 : metL p (metL p a b) (metR p a b) = a := by unfold metL metR; grind
  have e2 : metR p (metL p a b) (metR p a b) = b := by unfold metL metR; grind
  rw [e1, e2]
  rfl
def weighQ (p a b : Rat) : Rat := a * a + shareQ p * (b * b)
theorem weigh_met {p a b : Rat} (h : 0 < 1 + p) : weighQ p a b = weighQ p (metL p a b) (metR p a b) := by
  have h1 : 1 + p ≠ 0 := by grind
  unfold weighQ shareQ metL metR
  grind
theorem neq_fr {x y : Rat} (h : x = y) : (!PyData.eqv (frD x) (frD y)) = false := by
  rw [h, eqv_fr]
  simp
theorem neg_fr (p : Rat) : PyData.tuple [.int (0 - p.num), .int (p.den : Int)] = frD (-p) := by
  unfold frD
  rw [Rat.neg_num, Rat.neg_den]
  simp
theorem sz_neg {p : Rat} {n : Nat} (h : Sz n p) : Sz n (-p) := ⟨by rw [Rat.neg_num, Int.natAbs_neg]; exact h.1, h.2⟩
theorem met_other (p a b : Rat) : PyData.tuple [frD (metR p a b), frD (metL p a b)] = prD (metL (-p) b a, metR (-p) b a) := by
  have e1 : metL (-p) b a = metR p a b := by unfold metL metR; grind
  have e2 : metR (-p) b a = metL p a b := by unfold metL metR; grind
  rw [e1, e2]
  rfl
theorem met_sum (p a b c d : Rat) : PyData.tuple [frD (metL p a b + metL p c d), frD (metR p a b + metR p c d)] = prD (metL p (a + c) (b + d), metR p (a + c) (b + d)) := by
  have e1 : metL p (a + c) (b + d) = metL p a b + metL p c d := by unfold metL; grind
  have e2 : metR p (a + c) (b + d) = metR p a b + metR p c d := by unfold metR; grind
  rw [e1, e2]
  rfl
def PWeigh : List PyData → PyData → Prop := fun ds d => ∃ (p a b : Rat) (c n m : Nat), ds = [frD p, frD a, frD b] ∧ PaneZ c p ∧ Sz n a ∧ Sz m b ∧ 4 * c + 4 * n + 4 * m + 40 < 9000 ∧ d = frD (weighQ p a b)
def spRight (K : PySem.W.Frag) : Sp := fun vs H Q _ => ∃ p, vs = [.ref p] ∧ Bx H p 0 ∧ ∀ H', Chg p H H' → Q (.bl true) H'
abbrev s__law_weighed : Stmt := topS 22
theorem sc__law_weighed : FnScope ["_law_pane_here", "_law_a", "_law_b", "_law_behind"] ["_law_pane_here", "_law_a", "_law_b"] (defScope s__law_weighed) := ⟨rfl, rfl, rfl, by decide +kernel, rfl, by decide +kernel, by decide +kernel⟩
section
variable {P : Program} {w : World} {K : PySem.W.Frag} {mg : Str → Option Value} {base : Heap}

theorem ok_weighed {f : Addr} {fd : FuncData} {k : Nat} (F : Fun K "_law_weighed" "_law_weighed" s__law_weighed f fd) {f1 : Addr} {fd1 : FuncData} (cT : Cal P w K mg base k "_law_times" ["_law_one", "_law_other"] (spTwo K (fun q1 q2 => q1 * q2) (fun r => True)) f1 fd1) {f2 : Addr} {fd2 : FuncData} (cP : Cal P w K mg base k "_law_plus" ["_law_one", "_law_other"] (spTwo K (fun q1 q2 => q1 + q2) (fun r => True)) f2 fd2) {f3 : Addr} {fd3 : FuncData} (cL : Cal P w K mg base k "_law_less" ["_law_one", "_law_other"] (spTwo K (fun q1 q2 => q1 - q2) (fun r => True)) f3 fd3) {f4 : Addr} {fd4 : FuncData} (cO : Cal P w K mg base k "_law_over" ["_law_one", "_law_other"] (spTwo K (fun q1 q2 => q1 / q2) (fun r => 0 < r)) f4 fd4) :
    FnOk P w K mg base CX0 (k + 1) f fd ["_law_pane_here", "_law_a", "_law_b"] (spP K PWeigh) := by
  refine F.ok sc__law_weighed (fun vs H Q E h => ?_) (fun cdv A outer s H vs Q E hr h => ?_)
  · obtain ⟨ds, d, hd, ⟨p, a, b, c, n, m, rfl, pz, za, zb, hz, rfl⟩, _⟩ := h
    exact dps_len hd
  · obtain ⟨ds, d, hd, ⟨p, a, b, c, n, m, rfl, pz, za, zb, hz, rfl⟩, q⟩ := h
    obtain ⟨x1, x2, x3, rfl, h1, h2, h3⟩ := dps3 hd
    refine ⟨_, (pss_cons (ps_set (i := 3) sc__law_weighed.nd rfl (.inl rfl) (pe_c cO hr (by rfl) (pa_cons (pe_c cL hr (by rfl) (pa_cons (pe_tup (pa_cons pe_int (pa_cons pe_int pa_nil))) (pa_cons (pv 0) pa_nil))) (pa_cons (pe_c cP hr (by rfl) (pa_cons (pe_tup (pa_cons pe_int (pa_cons pe_int pa_nil))) (pa_cons (pv 0) pa_nil))) pa_nil))))
      (pss_one (ps_ret (pe_c cP hr (by rfl) (pa_cons (pe_c cT hr (by rfl) (pa_cons (pv 1) (pa_cons (pv 1) pa_nil))) (pa_cons (pe_c cT hr (by rfl) (pa_cons (pv 3) (pa_cons (pe_c cT hr (by rfl) (pa_cons (pv 2) (pa_cons (pv 2) pa_nil))) pa_nil))) pa_nil)))))), ?_⟩
    have z1 := sz_sub (⟨by decide +kernel, by decide +kernel⟩ : Sz 1 (1 : Rat)) pz.sz
    have z2 := sz_add (⟨by decide +kernel, by decide +kernel⟩ : Sz 1 (1 : Rat)) pz.sz
    have z3 := sz_div z1 z2 pz.p1
    show tSeq _ _ _ [some (x1), some (x2), some (x3), none] _
    refine st_set (K := K) (i := 3) (vd_two (vds_cons (vd_two (vds_cons (vd_fr (1 : Rat) (vd_tup (vds_cons vd_int (vds_cons vd_int vds_nil)) (by decide : 2 ≤ 1000)) (by decide +kernel) (by decide +kernel)) (vds_cons (vd_var h1 rfl) vds_nil)) (⟨by decide +kernel, by decide +kernel⟩ : Sz 1 (1 : Rat)) pz.sz (by omega) trivial) (vds_cons (vd_two (vds_cons (vd_fr (1 : Rat) (vd_tup (vds_cons vd_int (vds_cons vd_int vds_nil)) (by decide : 2 ≤ 1000)) (by decide +kernel) (by decide +kernel)) (vds_cons (vd_var h1 rfl) vds_nil)) (⟨by decide +kernel, by decide +kernel⟩ : Sz 1 (1 : Rat)) pz.sz (by omega) trivial) vds_nil)) z1 z2 (by omega) pz.p1) fun v6 H4 s5 d7 => ?_
    have f8 := dp_same s5 _ _ h2
    have f9 := dp_same s5 _ _ h3
    have r10 := Same.trans (Same.refl H) s5
    have z11 := sz_mul za za
    have z12 := sz_mul zb zb
    have z13 := sz_mul z3 z12
    have z14 := sz_add z11 z13
    show tRet _ _ [some (x1), some (x2), some (x3), some (v6)] _
    exact st_ret (K := K) (VD.eq (vd_two (vds_cons (vd_two (vds_cons (vd_var f8 rfl) (vds_cons (vd_var f8 rfl) vds_nil)) za za (by omega) trivial) (vds_cons (vd_two (vds_cons (vd_var d7 rfl) (vds_cons (vd_two (vds_cons (vd_var f9 rfl) (vds_cons (vd_var f9 rfl) vds_nil)) zb zb (by omega) trivial) vds_nil)) z3 z12 (by omega) trivial) vds_nil)) z11 z13 (by omega) trivial) (rfl)) fun v15 H16 s17 d18 => q v15 H16 (Same.trans r10 s17) d18
end

abbrev s__law_right : Stmt := topS 23
theorem sc__law_right : FnScope ["_law_box_here", "_law_turn", "_law_pane_here", "_law_a", "_law_b", "_law_c", "_law_d", "_law_due", "_law_other", "_law_both", "_law_k"] ["_law_box_here"] (defScope s__law_right) := ⟨rfl, rfl, rfl, by decide +kernel, rfl, by decide +kernel, by decide +kernel⟩
structure Fr8 (mg : Str → Option Value) : Prop where
  mrange : mg "range" = none
section
variable {P : Program} {w : World} {K : PySem.W.Frag} {mg : Str → Option Value} {base : Heap}
theorem ok_right {f : Addr} {fd : FuncData} {k : Nat} (F : Fun K "_law_right" "_law_right" s__law_right f fd) (T : Fr8 mg) {f1 : Addr} {fd1 : FuncData} (cPane : Cal P w K mg base k "_law_pane" ["_law_box_here"] (spPane K) f1 fd1) {f2 : Addr} {fd2 : FuncData} (cSize : Cal P w K mg base k "_law_size" ["_law_box_here"] (spSize K) f2 fd2) {f3 : Addr} {fd3 : FuncData} (cMet : Cal P w K mg base k "met" ["pane", "a", "b"] (spP K PMet) f3 fd3) {f4 : Addr} {fd4 : FuncData} (cLmet : Cal P w K mg base k "_law_met" ["_law_pane_here", "_law_a", "_law_b"] (spP K PMet) f4 fd4) {f5 : Addr} {fd5 : FuncData} (cWeigh : Cal P w K mg base k "_law_weighed" ["_law_pane_here", "_law_a", "_law_b"] (spP K PWeigh) f5 fd5) {f6 : Addr} {fd6 : FuncData} (cP : Cal P w K mg base k "_law_plus" ["_law_one", "_law_other"] (spTwo K (fun q1 q2 => q1 + q2) (fun r => True)) f6 fd6) {f7 : Addr} {fd7 : FuncData} (cSame : Cal P w K mg base k "_law_same" ["_law_found", "_law_due"] (spSame K 6) f7 fd7) : FnOk P w K mg base CX0 (k + 1) f fd ["_law_box_here"] (spRight K) := by
  refine F.ok sc__law_right (fun vs H Q E h => ?_) (fun cdv A outer s H vs Q E hr h => ?_)
  · obtain ⟨p, rfl, _⟩ := h
    rfl
  · obtain ⟨p, rfl, hb, q⟩ := h
    refine ⟨_, (pss_cons (ps_for PassesOwn.never rfl (pi_range1 (by rfl) T.mrange (pa_cons pe_int pa_nil)) (pg_name (i := 1) sc__law_right.nd rfl (.inl rfl))
      (pss_cons (ps_asg (pe_op op_cat (pe_lst (pa_cons (pe_c cPane hr (by rfl) (pa_cons (pv 0) pa_nil)) pa_nil)) (pe_lc (own := [("_law_k", 10)]) (g := (gName 10)) (tt := tYes) rfl sc__law_right.nd (pi_range1 (by rfl) T.mrange (pa_cons pe_int pa_nil)) (blkOk_by (N := ["_law_box_here", "_law_turn", "_law_pane_here", "_law_a", "_law_b", "_law_c", "_law_d", "_law_due", "_law_other", "_law_both", "_law_k"]) (sc := defScope s__law_right) (by decide +kernel)) (fun _ _ _ _ _ => pg_name (i := 10) sc__law_right.nd rfl (.inl rfl)) (fun _ _ _ _ _ => pts_nil) (fun _ _ _ _ _ => (pe_c cSize hr (by rfl) (pa_cons (pv 0) pa_nil))))) (pg_lst rfl (pgs_cons (pg_name (i := 2) sc__law_right.nd rfl (.inl rfl)) (pgs_cons (pg_name (i := 3) sc__law_right.nd rfl (.inl rfl)) (pgs_cons (pg_name (i := 4) sc__law_right.nd rfl (.inl rfl)) (pgs_cons (pg_name (i := 5) sc__law_right.nd rfl (.inl rfl)) (pgs_cons (pg_name (i := 6) sc__law_right.nd rfl (.inl rfl)) pgs_nil)))))))
      (pss_cons (ps_set (i := 7) sc__law_right.nd rfl (.inl rfl) (pe_c cLmet hr (by rfl) (pa_cons (pv 2) (pa_cons (pv 3) (pa_cons (pv 4) pa_nil)))))
      (pss_cons (ps_if (pt_not (pt_val (pe_c cSame hr (by rfl) (pa_cons (pe_lst (pa_cons (pe_c cMet hr (by rfl) (pa_cons (pv 2) (pa_cons (pv 3) (pa_cons (pv 4) pa_nil)))) (pa_cons (pe_c cMet hr (by rfl) (pa_cons (pv 2) (pa_cons (pe_ix ix_tup (pv 7) pe_int (fun _ _ => rfl)) (pa_cons (pe_ix ix_tup (pv 7) pe_int (fun _ _ => rfl)) pa_nil)))) pa_nil))) (pa_cons (pe_lst (pa_cons (pv 7) (pa_cons (pe_tup (pa_cons (pv 3) (pa_cons (pv 4) pa_nil))) pa_nil))) pa_nil))))) pss_never pss_nil)
      (pss_cons (ps_if (pt_cmpR (op_neD hr.units) (pe_c cWeigh hr (by rfl) (pa_cons (pv 2) (pa_cons (pv 3) (pa_cons (pv 4) pa_nil)))) (pe_c cWeigh hr (by rfl) (pa_cons (pv 2) (pa_cons (pe_ix ix_tup (pv 7) pe_int (fun _ _ => rfl)) (pa_cons (pe_ix ix_tup (pv 7) pe_int (fun _ _ => rfl)) pa_nil)))) (nomark _)) pss_never pss_nil)
      (pss_cons (ps_if (pt_not (pt_val (pe_c cSame hr (by rfl) (pa_cons (pe_c cMet hr (by rfl) (pa_cons (pe_tup (pa_cons (pe_op op_sub pe_int (pe_ix ix_tup (pv 2) pe_int (fun _ _ => rfl))) (pa_cons (pe_ix ix_tup (pv 2) pe_int (fun _ _ => rfl)) pa_nil))) (pa_cons (pv 4) (pa_cons (pv 3) pa_nil)))) (pa_cons (pe_tup (pa_cons (pe_ix ix_tup (pv 7) pe_int (fun _ _ => rfl)) (pa_cons (pe_ix ix_tup (pv 7) pe_int (fun _ _ => rfl)) pa_nil))) pa_nil))))) pss_never pss_nil)
      (pss_cons (ps_par (by rfl) sc__law_right.nd (i := 8) (j := 9) rfl rfl (by decide) rfl rfl (pa_cons (pe_c cMet hr (by rfl) (pa_cons (pv 2) (pa_cons (pv 5) (pa_cons (pv 6) pa_nil)))) (pa_cons (pe_c cMet hr (by rfl) (pa_cons (pv 2) (pa_cons (pe_c cP hr (by rfl) (pa_cons (pv 3) (pa_cons (pv 5) pa_nil))) (pa_cons (pe_c cP hr (by rfl) (pa_cons (pv 4) (pa_cons (pv 6) pa_nil))) pa_nil)))) pa_nil)) (by rfl))
      (pss_one (ps_if (pt_not (pt_val (pe_c cSame hr (by rfl) (pa_cons (pv 9) (pa_cons (pe_tup (pa_cons (pe_c cP hr (by rfl) (pa_cons (pe_ix ix_tup (pv 7) pe_int (fun _ _ => rfl)) (pa_cons (pe_ix ix_tup (pv 8) pe_int (fun _ _ => rfl)) pa_nil))) (pa_cons (pe_c cP hr (by rfl) (pa_cons (pe_ix ix_tup (pv 7) pe_int (fun _ _ => rfl)) (pa_cons (pe_ix ix_tup (pv 8) pe_int (fun _ _ => rfl)) pa_nil))) pa_nil))) pa_nil))))) pss_never pss_nil))))))))) (pss_one (ps_ret pe_bl))), ?_⟩
    refine ⟨12, rfl, by decide, by decide, for_it walk_range (fun i σ H2 => ∃ e1 e2 e3 e4 e5 e6 e7 e8 e9 e10 : Option V, σ = [some (.ref p), e1, e2, e3, e4, e5, e6, e7, e8, e9, e10] ∧ Chg p H H2 ∧ Bx H2 p (16 * i)) ⟨none, none, none, none, none, none, none, none, none, none, rfl, Chg.refl, hb⟩ (fun _ _ _ _ _ => trivial) ?_ ?_⟩
    · rintro i y σ H0 H0' hi ⟨e1, e2, e3, e4, e5, e6, e7, e8, e9, e10, rfl, C0, b0⟩ ⟨rfl, rfl⟩
      have hi12 : i < 12 := hi
      (
        show tSeq _ _ _ [some (.ref p), some (.int (0 + (i : Int))), e2, e3, e4, e5, e6, e7, e8, e9, e10] _
        refine ⟨.ref p, rfl, p, _, rfl, b0, by omega, fun x1 H1 q1 pq c1 b1 d1 => ?_⟩
        refine ⟨(by decide : 1 ≤ sizeLine), fun L nL => ?_⟩
        have s2 := same_upd (o := .lst [x1]) nL
        have b2 := b1.same s2
        have l2 : Ls K (upd H1 L (.lst [x1])) L (frs [q1]) := ⟨[x1], upd_same, .cons (dp_same s2 _ _ d1) .nil⟩
        have nLp := b1.ne nL
        refine lc_draw (K := K) (c := 3) (P := fun d => ∃ q, d = frD q ∧ Sz 5 q) b2 (vds_cons vd_int vds_nil) (by decide) (fun d ⟨q, h, _⟩ => h ▸ noL_fr q) (fun _ => rfl) (fun j H2 R hj c2 b3 kk => ⟨.ref p, rfl, p, _, rfl, b3, by simp at hj; omega, fun v H3 q zq c3 b4 d3 => kk v _ H3 ⟨q, rfl, zq⟩ c3 b4 d3⟩) fun M H3 ys nM c3 b3 l3 hl3 hP => ?_
        obtain ⟨qs, rfl, hq⟩ := frs_of hP
        obtain ⟨qa, qb, qc, qd, rfl⟩ := four ((List.length_map ..).symm.trans hl3)
        have l4 := b2.ls c3 l2 nLp (noL_frs _)
        obtain ⟨us, ha, hb⟩ := l4
        obtain ⟨y1, rfl, e1⟩ := dps1 hb
        obtain ⟨ws, hc, hd⟩ := l3
        obtain ⟨w1, w2, w3, w4, rfl, g1, g2, g3, g4⟩ := dps4 hd
        refine ⟨L, M, _, _, rfl, rfl, ha, hc, (by decide : 5 ≤ sizeLine), fun N nN => ?_⟩
        have s4 := same_upd (o := .lst [y1, w1, w2, w3, w4]) nN
        refine ⟨N, _, rfl, SqL.of upd_same, rfl, y1, _, rfl, w1, _, rfl, w2, _, rfl, w3, _, rfl, w4, _, rfl, rfl, ?_⟩
        have f0_0 := dp_same s4 _ _ e1
        have f0_1 := dp_same s4 _ _ g1
        have f0_2 := dp_same s4 _ _ g2
        have f0_3 := dp_same s4 _ _ g3
        have f0_4 := dp_same s4 _ _ g4
        have za := hq qa (by simp)
        have zb := hq qb (by simp)
        have zc := hq qc (by simp)
        have zd := hq qd (by simp)
        have bb := b3.same s4
        have rr := C0.trans (c1.trans ((Chg.of_same s2).trans (c3.trans (Chg.of_same s4))))
        have z1 := sz_metL pq.sz za zb
        have z2 := sz_metR pq.sz za zb
        show tSeq _ _ _ [some (.ref p), some (.int (0 + (i : Int))), some (y1), some (w1), some (w2), some (w3), some (w4), e7, e8, e9, e10] _
        refine st_set (K := K) (i := 7) (vd_call (vds_cons (vd_var f0_0 rfl) (vds_cons (vd_var f0_1 rfl) (vds_cons (vd_var f0_2 rfl) vds_nil))) (⟨_, _, _, _, _, _, rfl, pq.sz, za, zb, by omega, rfl⟩)) fun v5 H3 s4 d6 => ?_
        have f7 := bb.same s4
        have f8 := dp_same s4 _ _ f0_0
        have f9 := dp_same s4 _ _ f0_1
        have f10 := dp_same s4 _ _ f0_2
        have f11 := dp_same s4 _ _ f0_3
        have f12 := dp_same s4 _ _ f0_4
        have r13 := Chg.trans rr (Chg.of_same s4)
        have z14 := sz_metL pq.sz za zb
        have z15 := sz_metR pq.sz za zb
        have z16 := sz_metL pq.sz z1 z2
        have z17 := sz_metR pq.sz z1 z2
        show tSeq _ _ _ [some (.ref p), some (.int (0 + (i : Int))), some (y1), some (w1), some (w2), some (w3), some (w4), some (v5), e8, e9, e10] _
        refine st_ifF (vt_not (vt_B (K := K) (vd_same (vds_cons (VL.vd (vl_lst (vds_cons (vd_call (vds_cons (vd_var f8 rfl) (vds_cons (vd_var f9 rfl) (vds_cons (vd_var f10 rfl) vds_nil))) (⟨_, _, _, _, _, _, rfl, pq.sz, za, zb, by omega, rfl⟩)) (vds_cons (vd_call (vds_cons (vd_var f8 rfl) (vds_cons (vd_ixT (vd_var d6 rfl) vd_int (atI_nat (j := 0) rfl)) (vds_cons (vd_ixT (vd_var d6 rfl) vd_int (atI_nat (j := 1) rfl)) vds_nil))) (⟨_, _, _, _, _, _, rfl, pq.sz, z1, z2, by omega, rfl⟩)) vds_nil)) (by decide : 2 ≤ 1000))) (vds_cons (VD.eq (VL.vd (vl_lst (vds_cons (vd_var d6 rfl) (vds_cons (vd_tup (vds_cons (vd_var f9 rfl) (vds_cons (vd_var f10 rfl) vds_nil)) (by decide : 2 ≤ 1000)) vds_nil)) (by decide : 2 ≤ 1000))) (lst_eq (cons_eq rfl (cons_eq (met_back _ _ _) rfl)))) vds_nil)) (rfl)))) fun H18 s19 => ?_
        have f20 := f7.same s19
        have f21 := dp_same s19 _ _ f8
        have f22 := dp_same s19 _ _ f9
        have f23 := dp_same s19 _ _ f10
        have f24 := dp_same s19 _ _ f11
        have f25 := dp_same s19 _ _ f12
        have f26 := dp_same s19 _ _ d6
        have r27 := Chg.trans r13 (Chg.of_same s19)
        show tSeq _ _ _ [some (.ref p), some (.int (0 + (i : Int))), some (y1), some (w1), some (w2), some (w3), some (w4), some (v5), e8, e9, e10] _
        refine st_ifF (vt_test (K := K) (VD.eq (d' := .bool false) (vd_neD (vd_call (vds_cons (vd_var f21 rfl) (vds_cons (vd_var f22 rfl) (vds_cons (vd_var f23 rfl) vds_nil))) (⟨_, _, _, _, _, _, rfl, pq.z, za, zb, by omega, rfl⟩)) (vd_call (vds_cons (vd_var f21 rfl) (vds_cons (vd_ixT (vd_var f26 rfl) vd_int (atI_nat (j := 0) rfl)) (vds_cons (vd_ixT (vd_var f26 rfl) vd_int (atI_nat (j := 1) rfl)) vds_nil))) (⟨_, _, _, _, _, _, rfl, pq.z, z1, z2, by omega, rfl⟩)) (sh_fr _) (sh_fr _)) (congrArg PyData.bool (neq_fr (weigh_met pq.z.p1))))) fun H28 s29 => ?_
        have f30 := f20.same s29
        have f31 := dp_same s29 _ _ f21
        have f32 := dp_same s29 _ _ f22
        have f33 := dp_same s29 _ _ f23
        have f34 := dp_same s29 _ _ f24
        have f35 := dp_same s29 _ _ f25
        have f36 := dp_same s29 _ _ f26
        have r37 := Chg.trans r27 (Chg.of_same s29)
        have z38 := sz_metL (sz_neg pq.sz) zb za
        have z39 := sz_metR (sz_neg pq.sz) zb za
        show tSeq _ _ _ [some (.ref p), some (.int (0 + (i : Int))), some (y1), some (w1), some (w2), some (w3), some (w4), some (v5), e8, e9, e10] _
        refine st_ifF (vt_not (vt_B (K := K) (vd_same (vds_cons (vd_call (vds_cons (VD.eq (vd_tup (vds_cons (vd_sub vd_int (vd_ixT (vd_var f31 rfl) vd_int (atI_nat (j := 0) rfl))) (vds_cons (vd_ixT (vd_var f31 rfl) vd_int (atI_nat (j := 1) rfl)) vds_nil)) (by decide : 2 ≤ 1000)) (neg_fr _)) (vds_cons (vd_var f33 rfl) (vds_cons (vd_var f32 rfl) vds_nil))) (⟨_, _, _, _, _, _, rfl, (sz_neg pq.sz), zb, za, by omega, rfl⟩)) (vds_cons (VD.eq (vd_tup (vds_cons (vd_ixT (vd_var f36 rfl) vd_int (atI_nat (j := 1) rfl)) (vds_cons (vd_ixT (vd_var f36 rfl) vd_int (atI_nat (j := 0) rfl)) vds_nil)) (by decide : 2 ≤ 1000)) (met_other _ _ _)) vds_nil)) (rfl)))) fun H40 s41 => ?_
        have f42 := f30.same s41
        have f43 := dp_same s41 _ _ f31
        have f44 := dp_same s41 _ _ f32
        have f45 := dp_same s41 _ _ f33
        have f46 := dp_same s41 _ _ f34
        have f47 := dp_same s41 _ _ f35
        have f48 := dp_same s41 _ _ f36
        have r49 := Chg.trans r37 (Chg.of_same s41)
        have z50 := sz_metL pq.sz zc zd
        have z51 := sz_metR pq.sz zc zd
        have z52 := sz_add za zc
        have z53 := sz_add zb zd
        have z54 := sz_metL pq.sz z52 z53
        have z55 := sz_metR pq.sz z52 z53
        show tSeq _ _ _ [some (.ref p), some (.int (0 + (i : Int))), some (y1), some (w1), some (w2), some (w3), some (w4), some (v5), e8, e9, e10] _
        refine st_par (K := K) (i := 8) (j := 9) (vd_call (vds_cons (vd_var f43 rfl) (vds_cons (vd_var f46 rfl) (vds_cons (vd_var f47 rfl) vds_nil))) (⟨_, _, _, _, _, _, rfl, pq.sz, zc, zd, by omega, rfl⟩)) (vd_call (vds_cons (vd_var f43 rfl) (vds_cons (vd_two (vds_cons (vd_var f44 rfl) (vds_cons (vd_var f46 rfl) vds_nil)) za zc (by omega) trivial) (vds_cons (vd_two (vds_cons (vd_var f45 rfl) (vds_cons (vd_var f47 rfl) vds_nil)) zb zd (by omega) trivial) vds_nil))) (⟨_, _, _, _, _, _, rfl, pq.sz, z52, z53, by omega, rfl⟩)) fun v58 v59 H56 s57 d60 d61 => ?_
        have f62 := f42.same s57
        have f63 := dp_same s57 _ _ f48
        have r64 := Chg.trans r49 (Chg.of_same s57)
        have z65 := sz_add z1 z50
        have z66 := sz_add z2 z51
        show tIfS _ _ _ _ [some (.ref p), some (.int (0 + (i : Int))), some (y1), some (w1), some (w2), some (w3), some (w4), some (v5), some (v58), some (v59), e10] _
        refine st1_ifF (vt_not (vt_B (K := K) (vd_same (vds_cons (vd_var d61 rfl) (vds_cons (VD.eq (vd_tup (vds_cons (vd_two (vds_cons (vd_ixT (vd_var f63 rfl) vd_int (atI_nat (j := 0) rfl)) (vds_cons (vd_ixT (vd_var d60 rfl) vd_int (atI_nat (j := 0) rfl)) vds_nil)) z1 z50 (by omega) trivial) (vds_cons (vd_two (vds_cons (vd_ixT (vd_var f63 rfl) vd_int (atI_nat (j := 1) rfl)) (vds_cons (vd_ixT (vd_var d60 rfl) vd_int (atI_nat (j := 1) rfl)) vds_nil)) z2 z51 (by omega) trivial) vds_nil)) (by decide : 2 ≤ 1000)) (met_sum _ _ _ _ _)) vds_nil)) (rfl)))) fun H67 s68 => ?_
        have f69 := f62.same s68
        have r70 := Chg.trans r64 (Chg.of_same s68)
        exact ⟨_, _, _, _, _, _, _, _, _, _, rfl, r70, Bx.mono f69 (by simp; omega)⟩)
    · rintro σ H2 ⟨e1, e2, e3, e4, e5, e6, e7, e8, e9, e10, rfl, c2, b2⟩
      exact q _ c2
end

/-! ### the law -/
abbrev s_law : Stmt := topS 24
theorem sc_law : FnScope ["_law_script", "_law_k"] ["_law_script"] (defScope s_law) := ⟨rfl, rfl, rfl, by decide +kernel, rfl, by decide +kernel, by decide +kernel⟩
def spLaw (K : PySem.W.Frag) : Sp := fun vs H Q _ => ∃ (a : Addr) (ns : List Int), vs = [.ref a] ∧ SqL K H a (ns.map V.int) ∧ ns.length ≤ 63 ∧ ∀ H', Q (.bl true) H'
theorem dps_ints {K : PySem.W.Frag} {H : Hp} : ∀ ns : List Int, DpAll K H (ns.map V.int) (ns.map PyData.int)
  | [] => .nil
  | n :: ns => .cons (.int n) (dps_ints ns)
theorem all_rep (n : Nat) : (List.replicate n true).all id = true := all_true n
structure FrL (mg : Str → Option Value) : Prop where
  mrange : mg "range" = none
  mlen : mg "len" = none
  mmin : mg "min" = none
  mmax : mg "max" = none
  mall : mg "all" = none
section
variable {P : Program} {w : World} {K : PySem.W.Frag} {mg : Str → Option Value} {base : Heap}
theorem ok_law {f : Addr} {fd : FuncData} {k : Nat} (F : Fun K "law" "law" s_law f fd) (T : FrL mg) {f1 : Addr} {fd1 : FuncData} (cRight : Cal P w K mg base k "_law_right" ["_law_box_here"] (spRight K) f1 fd1) {f2 : Addr} {fd2 : FuncData} (cBox : Cal P w K mg base k "_law_box" ["_law_script", "_law_k"] (spBox K) f2 fd2) :
    FnOk P w K mg base CX0 (k + 1) f fd ["_law_script"] (spLaw K) := by
  refine F.ok sc_law (fun vs H Q E h => ?_) (fun cdv A outer s H vs Q E hr h => ?_)
  · obtain ⟨a, ns, rfl, _⟩ := h
    rfl
  · obtain ⟨a, ns, rfl, hS0, hlen, q⟩ := h
    have hS : Dp K H (.ref a) (.list (ns.map PyData.int)) := .lst hS0 (dps_ints ns)
    refine ⟨_, (pss_one (ps_ret (pe_callB (cr_all rfl) (by rfl) T.mall (by decide +kernel) (pa_cons (pe_lc (own := [("_law_k", 1)]) (g := (gName 1)) (tt := tYes) rfl sc_law.nd (pi_range1 (by rfl) T.mrange (pa_cons (pe_callB (call_max2 rfl) (by rfl) T.mmax PyProof.Rows.boot_max (pa_cons pe_int (pa_cons (pe_callB (call_min2 rfl) (by rfl) T.mmin PyProof.Rows.boot_min (pa_cons (pe_callB call_len_seq (by rfl) T.mlen PySem.boot_len (pa_cons (pv 0) pa_nil)) (pa_cons pe_int pa_nil))) pa_nil))) pa_nil)) (blkOk_by (N := ["_law_script", "_law_k"]) (sc := defScope s_law) (by decide +kernel)) (fun _ _ _ _ _ => pg_name (i := 1) sc_law.nd rfl (.inl rfl)) (fun _ _ _ _ _ => pts_nil) (fun _ _ _ _ _ => (pe_c cRight hr (by rfl) (pa_cons (pe_c cBox hr (by rfl) (pa_cons (pv 0) (pa_cons (pv 1) pa_nil))) pa_nil)))) pa_nil)))), ?_⟩
    have hl : (ns.map PyData.int).length = ns.length := List.length_map ..
    refine st_ret (K := K) (d := .bool true) (VD.eq (vd_all (bs := List.replicate ((if (if (3 : Int) < ((ns.map PyData.int).length : Int) then (3 : Int) else ((ns.map PyData.int).length : Int)) > (2 : Int) then (if (3 : Int) < ((ns.map PyData.int).length : Int) then (3 : Int) else ((ns.map PyData.int).length : Int)) else (2 : Int))).toNat true) (VL.vd (vl_rng (ys := (List.replicate ((if (if (3 : Int) < ((ns.map PyData.int).length : Int) then (3 : Int) else ((ns.map PyData.int).length : Int)) > (2 : Int) then (if (3 : Int) < ((ns.map PyData.int).length : Int) then (3 : Int) else ((ns.map PyData.int).length : Int)) else (2 : Int))).toNat true).map PyData.bool) (vds_cons (vd_max2 (vds_cons vd_int (vds_cons (vd_min2 (vds_cons (vd_lenL (vd_var hS rfl)) (vds_cons vd_int vds_nil))) vds_nil))) vds_nil) ?_ ?_ (noLs_bools _) (fun _ => rfl) ?_))) (congrArg _ (all_true _))) fun v H' _ dv => by
      cases dv
      exact q _
    · simp only [List.length_map, List.length_replicate]; split <;> split <;> omega
    · simp only [List.length_map, List.length_replicate]; split <;> split <;> omega
    · intro j d H2 hj s2 H1 s1 R r
      have h9 := (List.getElem?_eq_some_iff.mp hj).1
      have hd : d = .bool true := by
        obtain ⟨b, hb, rfl⟩ := List.mem_map.mp (List.mem_of_getElem? hj)
        rw [List.eq_of_mem_replicate hb]
      have hj9 : j < 63 := by
        simp only [List.length_map, List.length_replicate] at h9
        split at h9 <;> split at h9 <;> omega
      subst hd
      exact ⟨.ref a, rfl, .int (j : Nat), rfl, a, _, ns, rfl, (s2.trans s1).seq hS0, by omega, by omega, fun p H' np s3 b3 => ⟨p, rfl, b3, fun H4 c4 => r _ _ (Same.chg_new s3 np c4) (.bl true)⟩⟩
end
/-! ### what the top has written -/
theorem all_mk {l : PySem.W.OpenLaw} {w : World} {K : PySem.W.Frag} {h : Heap} {mg : Str → Option Value} {fa : Addr} (X : K.In h) (G : h.Ns mainGlobals mg) (hfa : mg "law" = some (.ref fa))
    {f0 : Addr} {od0 an0 : Option Addr} {sl0 : Array (Option Value)} {oc0 dc0 pm0 cd0 ct0 : Value}
    {kV0 : Value}
    {f1 : Addr} {od1 an1 : Option Addr} {sl1 : Array (Option Value)} {oc1 dc1 pm1 cd1 ct1 : Value}
    {kV1 : Value}
    {f2 : Addr} {od2 an2 : Option Addr} {sl2 : Array (Option Value)} {oc2 dc2 pm2 cd2 ct2 : Value}
    {kV2 : Value}
    {f3 : Addr} {od3 an3 : Option Addr} {sl3 : Array (Option Value)} {oc3 dc3 pm3 cd3 ct3 : Value}
    {kV3 : Value}
    {f4 : Addr} {od4 an4 : Option Addr} {sl4 : Array (Option Value)} {oc4 dc4 pm4 cd4 ct4 : Value}
    {kV4 : Value}
    {f5 : Addr} {od5 an5 : Option Addr} {sl5 : Array (Option Value)} {oc5 dc5 pm5 cd5 ct5 : Value}
    {kV5 : Value}
    {f6 : Addr} {od6 an6 : Option Addr} {sl6 : Array (Option Value)} {oc6 dc6 pm6 cd6 ct6 : Value}
    {kV6 : Value}
    {f7 : Addr} {od7 an7 : Option Addr} {sl7 : Array (Option Value)} {oc7 dc7 pm7 cd7 ct7 : Value}
    {kV7 : Value}
    {f8 : Addr} {od8 an8 : Option Addr} {sl8 : Array (Option Value)} {oc8 dc8 pm8 cd8 ct8 : Value}
    {kV8 : Value}
    {f9 : Addr} {od9 an9 : Option Addr} {sl9 : Array (Option Value)} {oc9 dc9 pm9 cd9 ct9 : Value}
    {kV9 : Value}
    {f10 : Addr} {od10 an10 : Option Addr} {sl10 : Array (Option Value)} {oc10 dc10 pm10 cd10 ct10 : Value}
    {kV10 : Value}
    {f11 : Addr} {od11 an11 : Option Addr} {sl11 : Array (Option Value)} {oc11 dc11 pm11 cd11 ct11 : Value}
    {kV11 : Value}
    {f12 : Addr} {od12 an12 : Option Addr} {sl12 : Array (Option Value)} {oc12 dc12 pm12 cd12 ct12 : Value}
    {kV12 : Value}
    {f13 : Addr} {od13 an13 : Option Addr} {sl13 : Array (Option Value)} {oc13 dc13 pm13 cd13 ct13 : Value}
    {kV13 : Value}
    {f14 : Addr} {od14 an14 : Option Addr} {sl14 : Array (Option Value)} {oc14 dc14 pm14 cd14 ct14 : Value}
    {kV14 : Value}
    {f15 : Addr} {od15 an15 : Option Addr} {sl15 : Array (Option Value)} {oc15 dc15 pm15 cd15 ct15 : Value}
    {kV15 : Value}
    {f16 : Addr} {od16 an16 : Option Addr} {sl16 : Array (Option Value)} {oc16 dc16 pm16 cd16 ct16 : Value}
    {kV16 : Value}
    {f17 : Addr} {od17 an17 : Option Addr} {sl17 : Array (Option Value)} {oc17 dc17 pm17 cd17 ct17 : Value}
    {kV17 : Value}
    {f18 : Addr} {od18 an18 : Option Addr} {sl18 : Array (Option Value)} {oc18 dc18 pm18 cd18 ct18 : Value}
    {kV18 : Value}
    {f19 : Addr} {od19 an19 : Option Addr} {sl19 : Array (Option Value)} {oc19 dc19 pm19 cd19 ct19 : Value}
    {kV19 : Value}
    {f20 : Addr} {od20 an20 : Option Addr} {sl20 : Array (Option Value)} {oc20 dc20 pm20 cd20 ct20 : Value}
    {kV20 : Value}
    {f21 : Addr} {od21 an21 : Option Addr} {sl21 : Array (Option Value)} {oc21 dc21 pm21 cd21 ct21 : Value}
    {kV21 : Value}
    (a0 : PySem.W.nsIn K mainGlobals "common_part" = some (some (.ref f0))) (l0 : K.lookup f0 = some ⟨oc0, od0, .func (PySem.W.fnOf "common_part" "common_part" (defArgs sCommon) (defBody sCommon) (defScope sCommon) .none kV0 dc0 pm0 an0 cd0 ct0), sl0⟩) (c0 : PySem.W.codeIn K cd0 "common_part" = true) (k0 : PySem.W.keepIn K (.ref f0) = true)
    (a1 : PySem.W.nsIn K mainGlobals "fraction" = some (some (.ref f1))) (l1 : K.lookup f1 = some ⟨oc1, od1, .func (PySem.W.fnOf "fraction" "fraction" (defArgs sFraction) (defBody sFraction) (defScope sFraction) .none kV1 dc1 pm1 an1 cd1 ct1), sl1⟩) (c1 : PySem.W.codeIn K cd1 "fraction" = true) (k1 : PySem.W.keepIn K (.ref f1) = true)
    (a2 : PySem.W.nsIn K mainGlobals "plus" = some (some (.ref f2))) (l2 : K.lookup f2 = some ⟨oc2, od2, .func (PySem.W.fnOf "plus" "plus" (defArgs s_plus) (defBody s_plus) (defScope s_plus) .none kV2 dc2 pm2 an2 cd2 ct2), sl2⟩) (c2 : PySem.W.codeIn K cd2 "plus" = true) (k2 : PySem.W.keepIn K (.ref f2) = true)
    (a3 : PySem.W.nsIn K mainGlobals "minus" = some (some (.ref f3))) (l3 : K.lookup f3 = some ⟨oc3, od3, .func (PySem.W.fnOf "minus" "minus" (defArgs s_minus) (defBody s_minus) (defScope s_minus) .none kV3 dc3 pm3 an3 cd3 ct3), sl3⟩) (c3 : PySem.W.codeIn K cd3 "minus" = true) (k3 : PySem.W.keepIn K (.ref f3) = true)
    (a4 : PySem.W.nsIn K mainGlobals "times" = some (some (.ref f4))) (l4 : K.lookup f4 = some ⟨oc4, od4, .func (PySem.W.fnOf "times" "times" (defArgs s_times) (defBody s_times) (defScope s_times) .none kV4 dc4 pm4 an4 cd4 ct4), sl4⟩) (c4 : PySem.W.codeIn K cd4 "times" = true) (k4 : PySem.W.keepIn K (.ref f4) = true)
    (a5 : PySem.W.nsIn K mainGlobals "met" = some (some (.ref f5))) (l5 : K.lookup f5 = some ⟨oc5, od5, .func (PySem.W.fnOf "met" "met" (defArgs s_met) (defBody s_met) (defScope s_met) .none kV5 dc5 pm5 an5 cd5 ct5), sl5⟩) (c5 : PySem.W.codeIn K cd5 "met" = true) (k5 : PySem.W.keepIn K (.ref f5) = true)
    (a6 : PySem.W.nsIn K mainGlobals "_law_cell_at" = some (some (.ref f6))) (l6 : K.lookup f6 = some ⟨oc6, od6, .func (PySem.W.fnOf "_law_cell_at" "_law_cell_at" (defArgs sCell) (defBody sCell) (defScope sCell) .none kV6 dc6 pm6 an6 cd6 ct6), sl6⟩) (c6 : PySem.W.codeIn K cd6 "_law_cell_at" = true) (k6 : PySem.W.keepIn K (.ref f6) = true)
    (a7 : PySem.W.nsIn K mainGlobals "_law_box" = some (some (.ref f7))) (l7 : K.lookup f7 = some ⟨oc7, od7, .func (PySem.W.fnOf "_law_box" "_law_box" (defArgs sBox) (defBody sBox) (defScope sBox) .none kV7 dc7 pm7 an7 cd7 ct7), sl7⟩) (c7 : PySem.W.codeIn K cd7 "_law_box" = true) (k7 : PySem.W.keepIn K (.ref f7) = true)
    (a8 : PySem.W.nsIn K mainGlobals "_law_take" = some (some (.ref f8))) (l8 : K.lookup f8 = some ⟨oc8, od8, .func (PySem.W.fnOf "_law_take" "_law_take" (defArgs sTake) (defBody sTake) (defScope sTake) .none kV8 dc8 pm8 an8 cd8 ct8), sl8⟩) (c8 : PySem.W.codeIn K cd8 "_law_take" = true) (k8 : PySem.W.keepIn K (.ref f8) = true)
    (a9 : PySem.W.nsIn K mainGlobals "_law_of" = some (some (.ref f9))) (l9 : K.lookup f9 = some ⟨oc9, od9, .func (PySem.W.fnOf "_law_of" "_law_of" (defArgs sOf) (defBody sOf) (defScope sOf) .none kV9 dc9 pm9 an9 cd9 ct9), sl9⟩) (c9 : PySem.W.codeIn K cd9 "_law_of" = true) (k9 : PySem.W.keepIn K (.ref f9) = true)
    (a10 : PySem.W.nsIn K mainGlobals "_law_same" = some (some (.ref f10))) (l10 : K.lookup f10 = some ⟨oc10, od10, .func (PySem.W.fnOf "_law_same" "_law_same" (defArgs sSame) (defBody sSame) (defScope sSame) .none kV10 dc10 pm10 an10 cd10 ct10), sl10⟩) (c10 : PySem.W.codeIn K cd10 "_law_same" = true) (k10 : PySem.W.keepIn K (.ref f10) = true)
    (a11 : PySem.W.nsIn K mainGlobals "_law_frac" = some (some (.ref f11))) (l11 : K.lookup f11 = some ⟨oc11, od11, .func (PySem.W.fnOf "_law_frac" "_law_frac" (defArgs sFrac) (defBody sFrac) (defScope sFrac) .none kV11 dc11 pm11 an11 cd11 ct11), sl11⟩) (c11 : PySem.W.codeIn K cd11 "_law_frac" = true) (k11 : PySem.W.keepIn K (.ref f11) = true)
    (a12 : PySem.W.nsIn K mainGlobals "_law_plus" = some (some (.ref f12))) (l12 : K.lookup f12 = some ⟨oc12, od12, .func (PySem.W.fnOf "_law_plus" "_law_plus" (defArgs s__law_plus) (defBody s__law_plus) (defScope s__law_plus) .none kV12 dc12 pm12 an12 cd12 ct12), sl12⟩) (c12 : PySem.W.codeIn K cd12 "_law_plus" = true) (k12 : PySem.W.keepIn K (.ref f12) = true)
    (a13 : PySem.W.nsIn K mainGlobals "_law_less" = some (some (.ref f13))) (l13 : K.lookup f13 = some ⟨oc13, od13, .func (PySem.W.fnOf "_law_less" "_law_less" (defArgs s__law_less) (defBody s__law_less) (defScope s__law_less) .none kV13 dc13 pm13 an13 cd13 ct13), sl13⟩) (c13 : PySem.W.codeIn K cd13 "_law_less" = true) (k13 : PySem.W.keepIn K (.ref f13) = true)
    (a14 : PySem.W.nsIn K mainGlobals "_law_times" = some (some (.ref f14))) (l14 : K.lookup f14 = some ⟨oc14, od14, .func (PySem.W.fnOf "_law_times" "_law_times" (defArgs s__law_times) (defBody s__law_times) (defScope s__law_times) .none kV14 dc14 pm14 an14 cd14 ct14), sl14⟩) (c14 : PySem.W.codeIn K cd14 "_law_times" = true) (k14 : PySem.W.keepIn K (.ref f14) = true)
    (a15 : PySem.W.nsIn K mainGlobals "_law_over" = some (some (.ref f15))) (l15 : K.lookup f15 = some ⟨oc15, od15, .func (PySem.W.fnOf "_law_over" "_law_over" (defArgs s__law_over) (defBody s__law_over) (defScope s__law_over) .none kV15 dc15 pm15 an15 cd15 ct15), sl15⟩) (c15 : PySem.W.codeIn K cd15 "_law_over" = true) (k15 : PySem.W.keepIn K (.ref f15) = true)
    (a16 : PySem.W.nsIn K mainGlobals "_law_pane" = some (some (.ref f16))) (l16 : K.lookup f16 = some ⟨oc16, od16, .func (PySem.W.fnOf "_law_pane" "_law_pane" (defArgs sPane) (defBody sPane) (defScope sPane) .none kV16 dc16 pm16 an16 cd16 ct16), sl16⟩) (c16 : PySem.W.codeIn K cd16 "_law_pane" = true) (k16 : PySem.W.keepIn K (.ref f16) = true)
    (a17 : PySem.W.nsIn K mainGlobals "_law_size" = some (some (.ref f17))) (l17 : K.lookup f17 = some ⟨oc17, od17, .func (PySem.W.fnOf "_law_size" "_law_size" (defArgs s__law_size) (defBody s__law_size) (defScope s__law_size) .none kV17 dc17 pm17 an17 cd17 ct17), sl17⟩) (c17 : PySem.W.codeIn K cd17 "_law_size" = true) (k17 : PySem.W.keepIn K (.ref f17) = true)
    (a18 : PySem.W.nsIn K mainGlobals "_law_met" = some (some (.ref f18))) (l18 : K.lookup f18 = some ⟨oc18, od18, .func (PySem.W.fnOf "_law_met" "_law_met" (defArgs s__law_met) (defBody s__law_met) (defScope s__law_met) .none kV18 dc18 pm18 an18 cd18 ct18), sl18⟩) (c18 : PySem.W.codeIn K cd18 "_law_met" = true) (k18 : PySem.W.keepIn K (.ref f18) = true)
    (a19 : PySem.W.nsIn K mainGlobals "_law_weighed" = some (some (.ref f19))) (l19 : K.lookup f19 = some ⟨oc19, od19, .func (PySem.W.fnOf "_law_weighed" "_law_weighed" (defArgs s__law_weighed) (defBody s__law_weighed) (defScope s__law_weighed) .none kV19 dc19 pm19 an19 cd19 ct19), sl19⟩) (c19 : PySem.W.codeIn K cd19 "_law_weighed" = true) (k19 : PySem.W.keepIn K (.ref f19) = true)
    (a20 : PySem.W.nsIn K mainGlobals "_law_right" = some (some (.ref f20))) (l20 : K.lookup f20 = some ⟨oc20, od20, .func (PySem.W.fnOf "_law_right" "_law_right" (defArgs s__law_right) (defBody s__law_right) (defScope s__law_right) .none kV20 dc20 pm20 an20 cd20 ct20), sl20⟩) (c20 : PySem.W.codeIn K cd20 "_law_right" = true) (k20 : PySem.W.keepIn K (.ref f20) = true)
    (a21 : PySem.W.nsIn K mainGlobals "law" = some (some (.ref f21))) (l21 : K.lookup f21 = some ⟨oc21, od21, .func (PySem.W.fnOf "law" "law" (defArgs s_law) (defBody s_law) (defScope s_law) .none kV21 dc21 pm21 an21 cd21 ct21), sl21⟩) (c21 : PySem.W.codeIn K cd21 "law" = true) (k21 : PySem.W.keepIn K (.ref f21) = true)
    (z0 : PySem.W.nsIn K mainGlobals "abs" = some none)
    (z1 : PySem.W.nsIn K mainGlobals "len" = some none)
    (z2 : PySem.W.nsIn K mainGlobals "int" = some none)
    (z3 : PySem.W.nsIn K mainGlobals "min" = some none)
    (z4 : PySem.W.nsIn K mainGlobals "max" = some none)
    (z5 : PySem.W.nsIn K mainGlobals "range" = some none)
    (z6 : PySem.W.nsIn K mainGlobals "tuple" = some none)
    (z7 : PySem.W.nsIn K mainGlobals "zip" = some none)
    (z8 : PySem.W.nsIn K mainGlobals "isinstance" = some none)
    (z9 : PySem.W.nsIn K mainGlobals "dict" = some none)
    (z10 : PySem.W.nsIn K mainGlobals "list" = some none)
    (z11 : PySem.W.nsIn K mainGlobals "all" = some none)
    (z12 : PySem.W.nsIn K mainGlobals "bool" = some none)
    (z13 : PySem.W.nsIn K mainGlobals "str" = some none) :
    ∃ fd : FuncData, (∀ (s : Shared) (v : Value), BindsTo s fd ⟨[v], []⟩ [("_law_script", v)]) ∧ ∀ base : Heap, K.In base → base.Ns mainGlobals mg → FnOk l.prog w K mg base CX0 8 fa fd ["_law_script"] (spLaw K) := by
  have e := hfa.symm.trans (PySem.W.mg_of X G a21)
  cases e
  have F_common_part := fun_mk (st := sCommon) l0 c0 k0
  have b_common_part := F_common_part.binds (ps := ["one", "other"]) fun _ _ _ _ _ _ us hl => match us, hl with | [_, _], _ => rfl
  have g_common_part := PySem.W.mg_of X G a0
  have F_fraction := fun_mk (st := sFraction) l1 c1 k1
  have b_fraction := F_fraction.binds (ps := ["top", "bottom"]) fun _ _ _ _ _ _ us hl => match us, hl with | [_, _], _ => rfl
  have g_fraction := PySem.W.mg_of X G a1
  have F_plus := fun_mk (st := s_plus) l2 c2 k2
  have b_plus := F_plus.binds (ps := ["one", "other"]) fun _ _ _ _ _ _ us hl => match us, hl with | [_, _], _ => rfl
  have g_plus := PySem.W.mg_of X G a2
  have F_minus := fun_mk (st := s_minus) l3 c3 k3
  have b_minus := F_minus.binds (ps := ["one", "other"]) fun _ _ _ _ _ _ us hl => match us, hl with | [_, _], _ => rfl
  have g_minus := PySem.W.mg_of X G a3
  have F_times := fun_mk (st := s_times) l4 c4 k4
  have b_times := F_times.binds (ps := ["one", "other"]) fun _ _ _ _ _ _ us hl => match us, hl with | [_, _], _ => rfl
  have g_times := PySem.W.mg_of X G a4
  have F_met := fun_mk (st := s_met) l5 c5 k5
  have b_met := F_met.binds (ps := ["pane", "a", "b"]) fun _ _ _ _ _ _ us hl => match us, hl with | [_, _, _], _ => rfl
  have g_met := PySem.W.mg_of X G a5
  have F__law_cell_at := fun_mk (st := sCell) l6 c6 k6
  have b__law_cell_at := F__law_cell_at.binds (ps := ["_law_script", "_law_k"]) fun _ _ _ _ _ _ us hl => match us, hl with | [_, _], _ => rfl
  have g__law_cell_at := PySem.W.mg_of X G a6
  have F__law_box := fun_mk (st := sBox) l7 c7 k7
  have b__law_box := F__law_box.binds (ps := ["_law_script", "_law_k"]) fun _ _ _ _ _ _ us hl => match us, hl with | [_, _], _ => rfl
  have g__law_box := PySem.W.mg_of X G a7
  have F__law_take := fun_mk (st := sTake) l8 c8 k8
  have b__law_take := F__law_take.binds (ps := ["_law_box_here", "_law_span"]) fun _ _ _ _ _ _ us hl => match us, hl with | [_, _], _ => rfl
  have g__law_take := PySem.W.mg_of X G a8
  have F__law_of := fun_mk (st := sOf) l9 c9 k9
  have b__law_of := F__law_of.binds (ps := ["_law_box_here", "_law_some"]) fun _ _ _ _ _ _ us hl => match us, hl with | [_, _], _ => rfl
  have g__law_of := PySem.W.mg_of X G a9
  have F__law_same := fun_mk (st := sSame) l10 c10 k10
  have b__law_same := F__law_same.binds (ps := ["_law_found", "_law_due"]) fun _ _ _ _ _ _ us hl => match us, hl with | [_, _], _ => rfl
  have g__law_same := PySem.W.mg_of X G a10
  have F__law_frac := fun_mk (st := sFrac) l11 c11 k11
  have b__law_frac := F__law_frac.binds (ps := ["_law_top", "_law_under"]) fun _ _ _ _ _ _ us hl => match us, hl with | [_, _], _ => rfl
  have g__law_frac := PySem.W.mg_of X G a11
  have F__law_plus := fun_mk (st := s__law_plus) l12 c12 k12
  have b__law_plus := F__law_plus.binds (ps := ["_law_one", "_law_other"]) fun _ _ _ _ _ _ us hl => match us, hl with | [_, _], _ => rfl
  have g__law_plus := PySem.W.mg_of X G a12
  have F__law_less := fun_mk (st := s__law_less) l13 c13 k13
  have b__law_less := F__law_less.binds (ps := ["_law_one", "_law_other"]) fun _ _ _ _ _ _ us hl => match us, hl with | [_, _], _ => rfl
  have g__law_less := PySem.W.mg_of X G a13
  have F__law_times := fun_mk (st := s__law_times) l14 c14 k14
  have b__law_times := F__law_times.binds (ps := ["_law_one", "_law_other"]) fun _ _ _ _ _ _ us hl => match us, hl with | [_, _], _ => rfl
  have g__law_times := PySem.W.mg_of X G a14
  have F__law_over := fun_mk (st := s__law_over) l15 c15 k15
  have b__law_over := F__law_over.binds (ps := ["_law_one", "_law_other"]) fun _ _ _ _ _ _ us hl => match us, hl with | [_, _], _ => rfl
  have g__law_over := PySem.W.mg_of X G a15
  have F__law_pane := fun_mk (st := sPane) l16 c16 k16
  have b__law_pane := F__law_pane.binds (ps := ["_law_box_here"]) fun _ _ _ _ _ _ us hl => match us, hl with | [_], _ => rfl
  have g__law_pane := PySem.W.mg_of X G a16
  have F__law_size := fun_mk (st := s__law_size) l17 c17 k17
  have b__law_size := F__law_size.binds (ps := ["_law_box_here"]) fun _ _ _ _ _ _ us hl => match us, hl with | [_], _ => rfl
  have g__law_size := PySem.W.mg_of X G a17
  have F__law_met := fun_mk (st := s__law_met) l18 c18 k18
  have b__law_met := F__law_met.binds (ps := ["_law_pane_here", "_law_a", "_law_b"]) fun _ _ _ _ _ _ us hl => match us, hl with | [_, _, _], _ => rfl
  have g__law_met := PySem.W.mg_of X G a18
  have F__law_weighed := fun_mk (st := s__law_weighed) l19 c19 k19
  have b__law_weighed := F__law_weighed.binds (ps := ["_law_pane_here", "_law_a", "_law_b"]) fun _ _ _ _ _ _ us hl => match us, hl with | [_, _, _], _ => rfl
  have g__law_weighed := PySem.W.mg_of X G a19
  have F__law_right := fun_mk (st := s__law_right) l20 c20 k20
  have b__law_right := F__law_right.binds (ps := ["_law_box_here"]) fun _ _ _ _ _ _ us hl => match us, hl with | [_], _ => rfl
  have g__law_right := PySem.W.mg_of X G a20
  have F_law := fun_mk (st := s_law) l21 c21 k21
  have b_law := F_law.binds (ps := ["_law_script"]) fun _ _ _ _ _ _ us hl => match us, hl with | [_], _ => rfl
  have g_law := PySem.W.mg_of X G a21
  have m_abs := PySem.W.mg_none_of X G z0
  have m_len := PySem.W.mg_none_of X G z1
  have m_int := PySem.W.mg_none_of X G z2
  have m_min := PySem.W.mg_none_of X G z3
  have m_max := PySem.W.mg_none_of X G z4
  have m_range := PySem.W.mg_none_of X G z5
  have m_tuple := PySem.W.mg_none_of X G z6
  have m_zip := PySem.W.mg_none_of X G z7
  have m_isinstance := PySem.W.mg_none_of X G z8
  have m_dict := PySem.W.mg_none_of X G z9
  have m_list := PySem.W.mg_none_of X G z10
  have m_all := PySem.W.mg_none_of X G z11
  have m_bool := PySem.W.mg_none_of X G z12
  have m_str := PySem.W.mg_none_of X G z13
  refine ⟨_, fun s v => .of_eq (fd := PySem.W.fnOf "law" "law" (defArgs s_law) (defBody s_law) (defScope s_law) .none kV21 dc21 pm21 an21 cd21 ct21) rfl, fun base _ _ => ?_⟩
  have G_fraction : FnOk l.prog w K mg base CX0 3 _ _ _ (spFrac K) := ok_fraction F_fraction F_common_part b_common_part g_common_part m_abs
  have G_plus := ok_plus F_plus F_fraction.kp G_fraction b_fraction g_fraction
  have G_minus := ok_minus F_minus F_fraction.kp G_fraction b_fraction g_fraction
  have G_times := ok_times F_times F_fraction.kp G_fraction b_fraction g_fraction
  have G__law_take : FnOk l.prog w K mg base CX0 3 _ _ _ (spTake) := ok_take F__law_take
  have G__law_of : FnOk l.prog w K mg base CX0 3 _ _ _ (spOf K) := ok_of F__law_of F__law_take b__law_take g__law_take m_len
  have G__law_frac : FnOk l.prog w K mg base CX0 3 _ _ _ (spFrac K) := ok_frac F__law_frac m_abs
  have G__law_box : FnOk l.prog w K mg base CX0 3 _ _ _ (spBox K) := ok_box F__law_box F__law_cell_at b__law_cell_at g__law_cell_at m_len m_abs m_int
  have G__law_plus := ok__law_plus F__law_plus F__law_frac.kp G__law_frac b__law_frac g__law_frac
  have G__law_less := ok__law_less F__law_less F__law_frac.kp G__law_frac b__law_frac g__law_frac
  have G__law_times := ok__law_times F__law_times F__law_frac.kp G__law_frac b__law_frac g__law_frac
  have G__law_over := ok__law_over F__law_over F__law_frac.kp G__law_frac b__law_frac g__law_frac
  have G__law_pane : FnOk l.prog w K mg base CX0 3 _ _ _ (spPane K) := ok_pane F__law_pane F__law_take b__law_take g__law_take F__law_of b__law_of g__law_of F__law_frac b__law_frac g__law_frac m_len m_abs
  have G__law_size : FnOk l.prog w K mg base CX0 3 _ _ _ (spSize K) := ok_size F__law_size F__law_take b__law_take g__law_take F__law_of b__law_of g__law_of F__law_frac b__law_frac g__law_frac m_len m_abs
  have G__law_same : FnOk l.prog w K mg base CX0 6 _ _ _ (spSame K 6) := ok_same F__law_same b__law_same g__law_same m_isinstance m_dict m_list m_tuple m_len m_all m_zip m_bool m_str m_int 6
  have G_met := ok_met F_met ⟨F_times.kp, G_times.mono (by decide : 4 ≤ 4), b_times, g_times⟩ ⟨F_plus.kp, G_plus.mono (by decide : 4 ≤ 4), b_plus, g_plus⟩ ⟨F_minus.kp, G_minus.mono (by decide : 4 ≤ 4), b_minus, g_minus⟩
  have G__law_met := ok_lmet F__law_met ⟨F__law_times.kp, G__law_times.mono (by decide : 4 ≤ 4), b__law_times, g__law_times⟩ ⟨F__law_plus.kp, G__law_plus.mono (by decide : 4 ≤ 4), b__law_plus, g__law_plus⟩ ⟨F__law_less.kp, G__law_less.mono (by decide : 4 ≤ 4), b__law_less, g__law_less⟩
  have G__law_weighed := ok_weighed F__law_weighed ⟨F__law_times.kp, G__law_times.mono (by decide : 4 ≤ 4), b__law_times, g__law_times⟩ ⟨F__law_plus.kp, G__law_plus.mono (by decide : 4 ≤ 4), b__law_plus, g__law_plus⟩ ⟨F__law_less.kp, G__law_less.mono (by decide : 4 ≤ 4), b__law_less, g__law_less⟩ ⟨F__law_over.kp, G__law_over.mono (by decide : 4 ≤ 4), b__law_over, g__law_over⟩
  have G__law_right := ok_right F__law_right ⟨m_range⟩ ⟨F__law_pane.kp, G__law_pane.mono (by decide : 3 ≤ 6), b__law_pane, g__law_pane⟩ ⟨F__law_size.kp, G__law_size.mono (by decide : 3 ≤ 6), b__law_size, g__law_size⟩ ⟨F_met.kp, G_met.mono (by decide : 5 ≤ 6), b_met, g_met⟩ ⟨F__law_met.kp, G__law_met.mono (by decide : 5 ≤ 6), b__law_met, g__law_met⟩ ⟨F__law_weighed.kp, G__law_weighed.mono (by decide : 5 ≤ 6), b__law_weighed, g__law_weighed⟩ ⟨F__law_plus.kp, G__law_plus.mono (by decide : 4 ≤ 6), b__law_plus, g__law_plus⟩ ⟨F__law_same.kp, G__law_same.mono (by decide : 6 ≤ 6), b__law_same, g__law_same⟩
  exact ok_law F_law ⟨m_range, m_len, m_min, m_max, m_all⟩ ⟨F__law_right.kp, G__law_right.mono (by decide : 7 ≤ 7), b__law_right, g__law_right⟩ ⟨F__law_box.kp, G__law_box.mono (by decide : 3 ≤ 7), b__law_box, g__law_box⟩
end Ep
open PySem PySem.W PyProof.Rows
set_option maxHeartbeats 0 in
theorem PySem.Challenge.cw_echopanes_k08_a_pane_met_holds : PySem.Challenge.rw_echopanes_k08_a_pane_met.Holds := by
  w_on; o_law; k_head; (case hw => w_witness2)
  k_fill
  refine L2.walk_of (l := PySem.Challenge.rw_echopanes_k08_a_pane_met) (n := 63) (k := 8) (x := "_law_script") (CX := fun _ => L2.CX0) (sp := fun w => Ep.spLaw _) rfl (by decide) rfl ⟨rfl, by decide, by decide⟩ (fun w h Y => PySem.W.kIn_of Y) ?F (fun _ _ a ns hl _ hS => ⟨a, ns, rfl, hS, hl, fun _ => rfl⟩) (fun _ _ _ _ _ h => h)
  case F =>
    intro w mg fa h KX G hmg
    refine' Ep.all_mk KX G hmg ?a0 ?l0 ?c0 ?k0 ?a1 ?l1 ?c1 ?k1 ?a2 ?l2 ?c2 ?k2 ?a3 ?l3 ?c3 ?k3 ?a4 ?l4 ?c4 ?k4 ?a5 ?l5 ?c5 ?k5 ?a6 ?l6 ?c6 ?k6 ?a7 ?l7 ?c7 ?k7 ?a8 ?l8 ?c8 ?k8 ?a9 ?l9 ?c9 ?k9 ?a10 ?l10 ?c10 ?k10 ?a11 ?l11 ?c11 ?k11 ?a12 ?l12 ?c12 ?k12 ?a13 ?l13 ?c13 ?k13 ?a14 ?l14 ?c14 ?k14 ?a15 ?l15 ?c15 ?k15 ?a16 ?l16 ?c16 ?k16 ?a17 ?l17 ?c17 ?k17 ?a18 ?l18 ?c18 ?k18 ?a19 ?l19 ?c19 ?k19 ?a20 ?l20 ?c20 ?k20 ?a21 ?l21 ?c21 ?k21 ?z0 ?z1 ?z2 ?z3 ?z4 ?z5 ?z6 ?z7 ?z8 ?z9 ?z10 ?z11 ?z12 ?z13
    (case a0 => k_is); (case l0 => k_is); (case c0 => k_is); (case k0 => k_is); (case a1 => k_is); (case l1 => k_is); (case c1 => k_is); (case k1 => k_is); (case a2 => k_is); (case l2 => k_is); (case c2 => k_is); (case k2 => k_is); (case a3 => k_is); (case l3 => k_is); (case c3 => k_is); (case k3 => k_is); (case a4 => k_is); (case l4 => k_is); (case c4 => k_is); (case k4 => k_is); (case a5 => k_is); (case l5 => k_is); (case c5 => k_is); (case k5 => k_is); (case a6 => k_is); (case l6 => k_is); (case c6 => k_is); (case k6 => k_is); (case a7 => k_is); (case l7 => k_is); (case c7 => k_is); (case k7 => k_is); (case a8 => k_is); (case l8 => k_is); (case c8 => k_is); (case k8 => k_is); (case a9 => k_is); (case l9 => k_is); (case c9 => k_is); (case k9 => k_is); (case a10 => k_is); (case l10 => k_is); (case c10 => k_is); (case k10 => k_is); (case a11 => k_is); (case l11 => k_is); (case c11 => k_is); (case k11 => k_is); (case a12 => k_is); (case l12 => k_is); (case c12 => k_is); (case k12 => k_is); (case a13 => k_is); (case l13 => k_is); (case c13 => k_is); (case k13 => k_is); (case a14 => k_is); (case l14 => k_is); (case c14 => k_is); (case k14 => k_is); (case a15 => k_is); (case l15 => k_is); (case c15 => k_is); (case k15 => k_is); (case a16 => k_is); (case l16 => k_is); (case c16 => k_is); (case k16 => k_is); (case a17 => k_is); (case l17 => k_is); (case c17 => k_is); (case k17 => k_is); (case a18 => k_is); (case l18 => k_is); (case c18 => k_is); (case k18 => k_is); (case a19 => k_is); (case l19 => k_is); (case c19 => k_is); (case k19 => k_is); (case a20 => k_is); (case l20 => k_is); (case c20 => k_is); (case k20 => k_is); (case a21 => k_is); (case l21 => k_is); (case c21 => k_is); (case k21 => k_is); (case z0 => k_is); (case z1 => k_is); (case z2 => k_is); (case z3 => k_is); (case z4 => k_is); (case z5 => k_is); (case z6 => k_is); (case z7 => k_is); (case z8 => k_is); (case z9 => k_is); (case z10 => k_is); (case z11 => k_is); (case z12 => k_is); (case z13 => k_is)
