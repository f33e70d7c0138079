import PyProof.Rows.All
import Wide.All
import OpenK.AllK
import Wide.FinOn
import HandS.Words
import HandS.List
import HandS.Comp
import HandS.WordsList
import HandS.Wide
import HandS.IsInst
import HandS.Zip
import HandS.Walk
import HandS.TupAny
import HandS.TupMul
import HandS.Defaults
import HandS.Rev
import HandS.Style
import HandS.Flow
import HandS.ForExc
import HandS.ExcIs
import KE.KTryMore
import PySem.Challenge.RW_echopanes_k02_rows_trimmed_and_turned_ab
set_option Elab.async false
set_option linter.all false
set_option maxRecDepth 100000
set_option maxHeartbeats 4000000
namespace Ep
/-! the mathematics of FRACTIONs -/
theorem gcd_pos {t u : Int} (h : 0 < u) : 0 < Int.gcd t u := Int.gcd_pos_of_ne_zero_right t (by omega)
theorem fr_num {t u : Int} (h : 0 < u) : (Rat.divInt t u).num = t / (Int.gcd t u : Int) := by
  rw [Rat.num_divInt, Int.sign_eq_one_of_pos h, Int.one_mul, Int.gcd_comm]
theorem fr_den {t u : Int} (h : 0 < u) : ((Rat.divInt t u).den : Int) = u / (Int.gcd t u : Int) := by
  rw [Rat.den_divInt, if_neg (by omega), Int.gcd_comm]
  have e : (u.natAbs : Int) = u := by omega
  rw [Int.natCast_ediv, e]
theorem gcd_fmod (a b : Int) (h : b ≠ 0) : Int.gcd b (a.fmod b) = Int.gcd a b := by
  have e : a.fmod b = a - b * (a.fdiv b) := by
    have := Int.mul_fdiv_add_fmod a b
    omega
  rw [e, Int.gcd_comm a b, Int.gcd_sub_mul_left_right]
theorem gcd_emod (a b : Int) (h : b ≠ 0) : Int.gcd b (a % b) = Int.gcd a b := by
  rw [Int.emod_def, Int.gcd_comm a b, Int.gcd_sub_mul_left_right]
/-- numbers of at most b bits -/
def Sz (b : Nat) (q : Rat) : Prop := q.num.natAbs < 2 ^ b ∧ q.den < 2 ^ b
theorem Sz.mono {a b : Nat} {q : Rat} (h : Sz a q) (l : a ≤ b) : Sz b q :=
  ⟨Nat.lt_of_lt_of_le h.1 (Nat.pow_le_pow_right (by decide) l), Nat.lt_of_lt_of_le h.2 (Nat.pow_le_pow_right (by decide) l)⟩
theorem sz_fr {t u : Int} {b : Nat} (h : 0 < u) (ht : t.natAbs < 2 ^ b) (hu : u.natAbs < 2 ^ b) : Sz b (Rat.divInt t u) := by
  have g := gcd_pos (t := t) h
  constructor
  · rw [fr_num h]
    have : (t / (Int.gcd t u : Int)).natAbs ≤ t.natAbs := by
      rw [Int.natAbs_ediv_of_dvd (Int.gcd_dvd_left ..)]
      exact Nat.div_le_self _ _
    omega
  · have e := fr_den (t := t) h
    have : (u / (Int.gcd t u : Int)).natAbs ≤ u.natAbs := by
      rw [Int.natAbs_ediv_of_dvd (Int.gcd_dvd_right ..)]
      exact Nat.div_le_self _ _
    omega
theorem den_pos (q : Rat) : (0 : Int) < (q.den : Int) := by
  have := q.den_nz
  omega
theorem q_add (q r : Rat) : Rat.divInt (q.num * r.den + r.num * q.den) (q.den * r.den) = q + r := by
  rw [Rat.add_def', ← Rat.divInt_ofNat]; rfl
theorem q_sub (q r : Rat) : Rat.divInt (q.num * r.den - r.num * q.den) (q.den * r.den) = q - r := by
  rw [Rat.sub_def', ← Rat.divInt_ofNat]; rfl
theorem q_mul (q r : Rat) : Rat.divInt (q.num * r.num) (q.den * r.den) = q * r := by
  rw [Rat.mul_def', ← Rat.divInt_ofNat]; rfl
theorem q_div (q r : Rat) : Rat.divInt (q.num * r.den) (q.den * r.num) = q / r := by
  rw [Rat.div_def, Rat.inv_def]
  conv => rhs; rw [← Rat.num_divInt_den q]
  rw [Rat.divInt_mul_divInt]
theorem dd_pos (q r : Rat) : (0 : Int) < (q.den : Int) * (r.den : Int) := Int.mul_pos (den_pos q) (den_pos r)
theorem dn_pos (q r : Rat) (h : 0 < r) : (0 : Int) < (q.den : Int) * r.num := Int.mul_pos (den_pos q) (by
  have := Rat.num_nonneg (q := r)
  have h1 : 0 ≤ r.num := this.mpr (Rat.le_of_lt h)
  have h2 : r.num ≠ 0 := fun e => by
    rw [Rat.num_eq_zero] at e
    rw [e] at h
    exact Rat.lt_irrefl h
  omega)
theorem m_lt {i j : Int} {a b : Nat} (ha : i.natAbs < 2 ^ a) (hb : j.natAbs < 2 ^ b) : (i * j).natAbs < 2 ^ (a + b) := by
  rw [Int.natAbs_mul, Nat.pow_add]
  exact Nat.mul_lt_mul'' ha hb
theorem Sz.den {b : Nat} {q : Rat} (h : Sz b q) : (q.den : Int).natAbs < 2 ^ b := by
  have := h.2
  omega
theorem a_lt {i j : Int} {c : Nat} (ha : i.natAbs < 2 ^ c) (hb : j.natAbs < 2 ^ c) : (i + j).natAbs < 2 ^ (c + 1) := by
  have : (i + j).natAbs ≤ i.natAbs + j.natAbs := Int.natAbs_add_le i j
  rw [Nat.pow_succ]
  omega
theorem s_lt {i j : Int} {c : Nat} (ha : i.natAbs < 2 ^ c) (hb : j.natAbs < 2 ^ c) : (i - j).natAbs < 2 ^ (c + 1) := by
  have : (i - j).natAbs ≤ i.natAbs + j.natAbs := Int.natAbs_sub_le i j
  rw [Nat.pow_succ]
  omega
theorem up_lt {n : Nat} {a b : Nat} (h : n < 2 ^ a) (l : a ≤ b) : n < 2 ^ b := Nat.lt_of_lt_of_le h (Nat.pow_le_pow_right (by decide) l)
section
variable {q r : Rat} {a b : Nat} (hq : Sz a q) (hr : Sz b r)
include hq hr
theorem sz_add_t : (q.num * r.den + r.num * q.den).natAbs < 2 ^ (a + b + 1) := a_lt (m_lt hq.1 hr.den) (by rw [Nat.add_comm a b]; exact m_lt hr.1 hq.den)
theorem sz_sub_t : (q.num * r.den - r.num * q.den).natAbs < 2 ^ (a + b + 1) := s_lt (m_lt hq.1 hr.den) (by rw [Nat.add_comm a b]; exact m_lt hr.1 hq.den)
theorem sz_dd : ((q.den : Int) * (r.den : Int)).natAbs < 2 ^ (a + b) := m_lt hq.den hr.den
theorem sz_add : Sz (a + b + 1) (q + r) := by
  rw [← q_add]
  exact sz_fr (dd_pos q r) (sz_add_t hq hr) (up_lt (sz_dd hq hr) (by omega))
theorem sz_sub : Sz (a + b + 1) (q - r) := by
  rw [← q_sub]
  exact sz_fr (dd_pos q r) (sz_sub_t hq hr) (up_lt (sz_dd hq hr) (by omega))
theorem sz_mul : Sz (a + b) (q * r) := by
  rw [← q_mul]
  exact sz_fr (dd_pos q r) (m_lt hq.1 hr.1) (sz_dd hq hr)
theorem sz_div (p : 0 < r) : Sz (a + b) (q / r) := by
  rw [← q_div]
  exact sz_fr (dn_pos q r p) (m_lt hq.1 hr.den) (m_lt hq.den hr.1)
end
theorem gcd_self (q : Rat) : Int.gcd q.num (q.den : Int) = 1 := by
  have := q.reduced
  unfold Nat.Coprime at this
  unfold Int.gcd
  simpa using this
/-! the laws' own identities -/
example (r : Rat) (h : 1 + r ≠ 0) : (1 - r) / (1 + r) = 1 / (1+r) - r / (1 + r) := by grind
theorem share_of {w r : Rat} (h : 1 + r ≠ 0) : w * ((1 - r) / (1 + r)) = w * (1 - r) / (1 + r) := by grind
theorem back_pane {a b : Rat} (ha : 0 < a) (hb : 0 < b) : a * ((1 - (a - b) / (a + b)) / (1 + (a - b) / (a + b))) = b := by
  have h : a + b ≠ 0 := by grind
  have h2 : 1 + (a - b) / (a + b) = 2 * a / (a + b) := by grind
  have h3 : 1 - (a - b) / (a + b) = 2 * b / (a + b) := by grind
  rw [h2, h3]
  grind
theorem back_room {w r : Rat} (hw : 0 < w) (h1 : r < 1) (h2 : -1 < r) : (w - w * ((1 - r) / (1 + r))) / (w + w * ((1 - r) / (1 + r))) = r := by
  have h : 1 + r ≠ 0 := by grind
  have e1 : w - w * ((1 - r) / (1 + r)) = 2 * w * r / (1 + r) := by grind
  have e2 : w + w * ((1 - r) / (1 + r)) = 2 * w / (1 + r) := by grind
  rw [e1, e2]
  grind
/-! rooms and panes -/
def shareQ (r : Rat) : Rat := (1 - r) / (1 + r)
def lastQ : Rat → List Rat → Rat
  | w, [] => w
  | w, r :: rs => lastQ (w * shareQ r) rs
def roomsQ : Rat → List Rat → List Rat
  | w, [] => [w]
  | w, r :: rs => w :: roomsQ (w * shareQ r) rs
def panesQ : List Rat → List Rat
  | a :: b :: r => ((a - b) / (a + b)) :: panesQ (b :: r)
  | _ => []
theorem lastQ_snoc (r : Rat) : ∀ (qs : List Rat) (w : Rat), lastQ w (qs ++ [r]) = lastQ w qs * shareQ r
  | [], w => rfl
  | q :: qs, w => lastQ_snoc r qs (w * shareQ q)
theorem roomsQ_snoc (r : Rat) : ∀ (qs : List Rat) (w : Rat), roomsQ w (qs ++ [r]) = roomsQ w qs ++ [lastQ w qs * shareQ r]
  | [], w => rfl
  | q :: qs, w => by
    show w :: roomsQ (w * shareQ q) (qs ++ [r]) = w :: (roomsQ (w * shareQ q) qs ++ [lastQ (w * shareQ q) qs * shareQ r])
    rw [roomsQ_snoc r qs]
theorem roomsQ_len : ∀ (qs : List Rat) (w : Rat), (roomsQ w qs).length = qs.length + 1
  | [], w => rfl
  | q :: qs, w => congrArg Nat.succ (roomsQ_len qs _)
theorem panesQ_len : ∀ ws : List Rat, (panesQ ws).length = ws.length - 1
  | [] => rfl
  | [_] => rfl
  | a :: b :: r => by
    show (panesQ (b :: r)).length + 1 = (b :: r).length + 1 - 1
    rw [panesQ_len (b :: r)]
    simp
theorem panesQ_get : ∀ (ws : List Rat) (i : Nat) (x y : Rat), ws[i]? = some x → ws[i + 1]? = some y → (panesQ ws)[i]? = some ((x - y) / (x + y))
  | [], _, _, _, h, _ => by simp at h
  | [_], 0, _, _, _, h => by simp at h
  | [_], i + 1, _, _, h, _ => by simp at h
  | a :: b :: r, 0, x, y, h, h2 => by
    have e1 : a = x := Option.some.inj h
    have e2 : b = y := Option.some.inj h2
    rw [← e1, ← e2]
    rfl
  | a :: b :: r, i + 1, x, y, h, h2 => panesQ_get (b :: r) i x y h h2
/-- a pane of at most c bits -/
structure PaneZ (c : Nat) (q : Rat) : Prop where
  lo : -1 < q
  hi : q < 1
  sz : Sz c q
theorem PaneZ.p1 {c : Nat} {q : Rat} (h : PaneZ c q) : 0 < 1 + q := by
  have := h.lo
  grind
theorem PaneZ.m1 {c : Nat} {q : Rat} (h : PaneZ c q) : 0 < 1 - q := by
  have := h.hi
  grind
theorem sz_one : Sz 1 1 := ⟨by decide, by decide⟩
theorem PaneZ.sp {c : Nat} {q : Rat} (h : PaneZ c q) : Sz (c + 2) (1 + q) := (sz_add sz_one h.sz).mono (by omega)
theorem PaneZ.sm {c : Nat} {q : Rat} (h : PaneZ c q) : Sz (c + 2) (1 - q) := (sz_sub sz_one h.sz).mono (by omega)
theorem div_pos {a b : Rat} (ha : 0 < a) (hb : 0 < b) : 0 < a / b := by
  rw [Rat.div_def]
  exact Rat.mul_pos ha (Rat.inv_pos.mpr hb)
theorem PaneZ.share {c : Nat} {q : Rat} (h : PaneZ c q) : 0 < shareQ q ∧ Sz (2 * c + 4) (shareQ q) :=
  ⟨div_pos h.m1 h.p1, (sz_div h.sm h.sp h.p1).mono (by omega)⟩
theorem lastQ_ok {c : Nat} : ∀ (qs : List Rat) (w : Rat) (b : Nat), 0 < w → Sz b w → (∀ q ∈ qs, PaneZ c q) → 0 < lastQ w qs ∧ Sz (b + (2 * c + 4) * qs.length) (lastQ w qs)
  | [], w, b, h, z, _ => ⟨h, z⟩
  | q :: qs, w, b, h, z, hp => by
    have p := (hp q (List.mem_cons_self ..)).share
    have r := lastQ_ok qs (w * shareQ q) (b + (2 * c + 4)) (Rat.mul_pos h p.1) (sz_mul z p.2) (fun x hx => hp x (List.mem_cons_of_mem _ hx))
    refine ⟨r.1, r.2.mono ?_⟩
    rw [List.length_cons, Nat.mul_add]
    omega
theorem roomsQ_ok {c : Nat} : ∀ (qs : List Rat) (w : Rat) (b : Nat), 0 < w → Sz b w → (∀ q ∈ qs, PaneZ c q) → ∀ x ∈ roomsQ w qs, 0 < x ∧ Sz (b + (2 * c + 4) * qs.length) x
  | [], w, b, h, z, _, x, hx => by
    rw [List.mem_singleton.mp hx]
    exact ⟨h, z⟩
  | q :: qs, w, b, h, z, hp, x, hx => by
    rcases List.mem_cons.mp hx with rfl | hx
    · exact ⟨h, z.mono (by omega)⟩
    · have p := (hp q (List.mem_cons_self ..)).share
      have r := roomsQ_ok qs (w * shareQ q) (b + (2 * c + 4)) (Rat.mul_pos h p.1) (sz_mul z p.2) (fun x hx => hp x (List.mem_cons_of_mem _ hx)) x hx
      refine ⟨r.1, r.2.mono ?_⟩
      rw [List.length_cons, Nat.mul_add]
      omega
theorem panes_rooms {c : Nat} : ∀ (qs : List Rat) (w : Rat), 0 < w → (∀ q ∈ qs, PaneZ c q) → panesQ (roomsQ w qs) = qs
  | [], w, _, _ => rfl
  | [q], w, h, hp => by
    have p := hp q (List.mem_cons_self ..)
    show [(w - w * shareQ q) / (w + w * shareQ q)] = [q]
    unfold shareQ
    rw [back_room h p.hi p.lo]
  | q :: q2 :: qs, w, h, hp => by
    have p := hp q (List.mem_cons_self ..)
    have ih := panes_rooms (q2 :: qs) (w * shareQ q) (Rat.mul_pos h p.share.1) (fun x hx => hp x (List.mem_cons_of_mem _ hx))
    show ((w - w * shareQ q) / (w + w * shareQ q)) :: panesQ (roomsQ (w * shareQ q) (q2 :: qs)) = q :: q2 :: qs
    rw [ih]
    congr 1
    unfold shareQ
    exact back_room h p.hi p.lo
theorem rooms_panes : ∀ (w : Rat) (ws : List Rat), (∀ x ∈ w :: ws, 0 < x) → roomsQ w (panesQ (w :: ws)) = w :: ws
  | w, [], _ => rfl
  | w, v :: ws, hp => by
    have h1 := hp w (List.mem_cons_self ..)
    have h2 := hp v (List.mem_cons_of_mem _ (List.mem_cons_self ..))
    have ih := rooms_panes v ws (fun x hx => hp x (List.mem_cons_of_mem _ hx))
    show w :: roomsQ (w * shareQ ((w - v) / (w + v))) (panesQ (v :: ws)) = w :: v :: ws
    unfold shareQ
    rw [back_pane h1 h2, ih]
theorem panesQ_scale (k : Rat) (hk : 0 < k) : ∀ ws : List Rat, (∀ x ∈ ws, 0 < x) → panesQ (ws.map (k * ·)) = panesQ ws
  | [], _ => rfl
  | [_], _ => rfl
  | a :: b :: r, hp => by
    have h1 := hp a (List.mem_cons_self ..)
    have h2 := hp b (List.mem_cons_of_mem _ (List.mem_cons_self ..))
    have ih := panesQ_scale k hk (b :: r) (fun x hx => hp x (List.mem_cons_of_mem _ hx))
    show ((k * a - k * b) / (k * a + k * b)) :: panesQ ((b :: r).map (k * ·)) = ((a - b) / (a + b)) :: panesQ (b :: r)
    rw [ih]
    congr 1
    have : a + b ≠ 0 := by grind
    have e1 : k * a - k * b = k * (a - b) := by grind
    have e2 : k * a + k * b = k * (a + b) := by grind
    rw [e1, e2]
    grind
theorem pane_two {a b : Rat} {c : Nat} (ha : 0 < a) (hb : 0 < b) (za : Sz c a) (zb : Sz c b) : PaneZ (4 * c + 2) ((a - b) / (a + b)) := by
  have hs : 0 < a + b := by grind
  refine ⟨?_, ?_, (sz_div (sz_sub za zb) (sz_add za zb) hs).mono (by omega)⟩
  · rw [Rat.lt_div_iff hs]
    grind
  · rw [Rat.div_lt_iff hs]
    grind
theorem panesQ_ok {c : Nat} : ∀ ws : List Rat, (∀ x ∈ ws, 0 < x ∧ Sz c x) → ∀ q ∈ panesQ ws, PaneZ (4 * c + 2) q
  | [], _, q, h => by cases h
  | [_], _, q, h => by cases h
  | a :: b :: r, hp, q, h => by
    have h1 := hp a (List.mem_cons_self ..)
    have h2 := hp b (List.mem_cons_of_mem _ (List.mem_cons_self ..))
    rcases List.mem_cons.mp h with rfl | h
    · exact pane_two h1.1 h2.1 h1.2 h2.2
    · exact panesQ_ok (b :: r) (fun x hx => hp x (List.mem_cons_of_mem _ hx)) q h
/-! rows trimmed, turned about -/
def trimL : List Rat → List Rat
  | [] => []
  | q :: qs => if q = 0 ∧ trimL qs = [] then [] else q :: trimL qs
theorem trimL_zeros : ∀ qs : List Rat, (∀ q ∈ qs, q = 0) → trimL qs = []
  | [], _ => rfl
  | q :: qs, h => by
    unfold trimL
    rw [if_pos ⟨h q (List.mem_cons_self ..), trimL_zeros qs (fun x hx => h x (List.mem_cons_of_mem _ hx))⟩]
theorem trimL_app : ∀ (xs ys : List Rat), (∀ q ∈ ys, q = 0) → trimL (xs ++ ys) = trimL xs
  | [], ys, h => trimL_zeros ys h
  | x :: xs, ys, h => by
    show (if x = 0 ∧ trimL (xs ++ ys) = [] then [] else x :: trimL (xs ++ ys)) = if x = 0 ∧ trimL xs = [] then [] else x :: trimL xs
    rw [trimL_app xs ys h]
theorem trimL_last : ∀ (xs : List Rat) (q : Rat), q ≠ 0 → trimL (xs ++ [q]) = xs ++ [q]
  | [], q, h => by
    show (if q = 0 ∧ trimL [] = [] then [] else q :: trimL []) = [q]
    rw [if_neg (fun z => h z.1)]
    rfl
  | x :: xs, q, h => by
    show (if x = 0 ∧ trimL (xs ++ [q]) = [] then [] else x :: trimL (xs ++ [q])) = x :: (xs ++ [q])
    rw [trimL_last xs q h, if_neg (fun z => by simp at z)]
/-- where all behind the m-th are 0, and the m-th isn't -/
theorem trimL_take {qs : List Rat} {m : Nat} (hm : m ≤ qs.length) (h0 : ∀ q ∈ qs.drop m, q = 0) (h1 : m = 0 ∨ ∃ q, qs[m - 1]? = some q ∧ q ≠ 0) : trimL qs = qs.take m := by
  have e : qs = qs.take m ++ qs.drop m := (List.take_append_drop m qs).symm
  conv => lhs; rw [e]
  rw [trimL_app _ _ h0]
  rcases h1 with rfl | ⟨q, hq, hn⟩
  · rfl
  · cases m with
    | zero => rfl
    | succ m =>
      have hq' : qs[m]? = some q := hq
      rw [List.take_add_one, hq']
      exact trimL_last _ q hn
def trimR (qs : List Rat) (x : Int) : List Rat := if x = 0 then trimL qs else qs
def mirQ (qs : List Rat) : List Rat := (qs.map (fun q => -q)).reverse
theorem mir_len (qs : List Rat) : (mirQ qs).length = qs.length := by simp [mirQ]
theorem mir_pane {c : Nat} {qs : List Rat} (h : ∀ q ∈ qs, PaneZ c q) : ∀ q ∈ mirQ qs, PaneZ c q := fun q hq => by
  unfold mirQ at hq
  rw [List.mem_reverse] at hq
  obtain ⟨r, hr, rfl⟩ := List.mem_map.mp hq
  have p := h r hr
  have p1 := p.lo
  have p2 := p.hi
  refine ⟨by grind, by grind, ?_, ?_⟩
  · rw [Rat.neg_num, Int.natAbs_neg]
    exact p.sz.1
  · exact p.sz.2
theorem mir_app (a b : List Rat) : mirQ (a ++ b) = mirQ b ++ mirQ a := by simp [mirQ]
theorem mir_mir (qs : List Rat) : mirQ (mirQ qs) = qs := by
  unfold mirQ
  rw [List.map_reverse, List.reverse_reverse, List.map_map]
  have : ((fun q : Rat => -q) ∘ fun q : Rat => -q) = id := by
    funext q
    show - -q = q
    grind
  rw [this, List.map_id]
/-! rooms of joined rows, turned about, strewn; a room put in -/
theorem roomsQ_last : ∀ (qs : List Rat) (w : Rat), ∃ ls, roomsQ w qs = ls ++ [lastQ w qs] ∧ ls.length = qs.length
  | [], w => ⟨[], rfl, rfl⟩
  | q :: qs, w => by
    obtain ⟨ls, h, l⟩ := roomsQ_last qs (w * shareQ q)
    exact ⟨w :: ls, congrArg (w :: ·) h, congrArg Nat.succ l⟩
theorem rooms_join : ∀ (a : List Rat) (w : Rat) (b ls : List Rat), roomsQ w a = ls ++ [lastQ w a] → roomsQ w (a ++ b) = ls ++ roomsQ (lastQ w a) b
  | [], w, b, ls, h => by
    have e : ls = [] := by
      have := congrArg List.length h
      simp [roomsQ] at this
      exact this
    subst e
    rfl
  | q :: a, w, b, ls, h => by
    cases ls with
    | nil =>
      have := congrArg List.length h
      simp [roomsQ_len] at this
    | cons l ls =>
      have h' : w :: roomsQ (w * shareQ q) a = l :: (ls ++ [lastQ (w * shareQ q) a]) := h
      injection h' with e1 e2
      subst e1
      have ih := rooms_join a (w * shareQ q) b ls e2
      show w :: roomsQ (w * shareQ q) (a ++ b) = w :: (ls ++ roomsQ (lastQ (w * shareQ q) a) b)
      rw [ih]
theorem lastQ_app : ∀ (a b : List Rat) (w : Rat), lastQ w (a ++ b) = lastQ (lastQ w a) b
  | [], b, w => rfl
  | q :: a, b, w => lastQ_app a b (w * shareQ q)
theorem share_neg {c : Nat} {q : Rat} (h : PaneZ c q) : shareQ q * shareQ (-q) = 1 := by
  have h1 := h.p1
  have h2 := h.m1
  unfold shareQ
  have a1 : 1 + q ≠ 0 := by grind
  have a2 : 1 - q ≠ 0 := by grind
  have e1 : 1 - -q = 1 + q := by grind
  have e2 : 1 + -q = 1 - q := by grind
  rw [e1, e2]
  grind
theorem rooms_mir {c : Nat} : ∀ (qs : List Rat) (w : Rat), (∀ q ∈ qs, PaneZ c q) → roomsQ (lastQ w qs) (mirQ qs) = (roomsQ w qs).reverse ∧ lastQ (lastQ w qs) (mirQ qs) = w
  | [], w, _ => ⟨rfl, rfl⟩
  | q :: qs, w, h => by
    have ih := rooms_mir qs (w * shareQ q) (fun x hx => h x (List.mem_cons_of_mem _ hx))
    have p := share_neg (h q (List.mem_cons_self ..))
    have e : mirQ (q :: qs) = mirQ qs ++ [-q] := by simp [mirQ]
    have e2 : w * shareQ q * shareQ (-q) = w := by
      rw [Rat.mul_assoc, p, Rat.mul_one]
    have el : lastQ w (q :: qs) = lastQ (w * shareQ q) qs := rfl
    rw [e, el]
    constructor
    · rw [roomsQ_snoc, ih.1, ih.2, e2]
      show (roomsQ (w * shareQ q) qs).reverse ++ [w] = (w :: roomsQ (w * shareQ q) qs).reverse
      rw [List.reverse_cons]
    · rw [lastQ_snoc, ih.2, e2]
def prodQ : List Rat → Rat
  | [] => 1
  | q :: qs => shareQ q * prodQ qs
theorem lastQ_prod : ∀ (qs : List Rat) (w : Rat), lastQ w qs = w * prodQ qs
  | [], w => (Rat.mul_one w).symm
  | q :: qs, w => by
    show lastQ (w * shareQ q) qs = w * (shareQ q * prodQ qs)
    rw [lastQ_prod qs, Rat.mul_assoc]
theorem prodQ_perm {a b : List Rat} (h : a.Perm b) : prodQ a = prodQ b := by
  induction h with
  | nil => rfl
  | cons x _ ih =>
    show shareQ x * prodQ _ = shareQ x * prodQ _
    rw [ih]
  | swap x y l =>
    show shareQ y * (shareQ x * prodQ l) = shareQ x * (shareQ y * prodQ l)
    grind
  | trans _ _ i1 i2 => exact i1.trans i2
theorem lastQ_perm {a b : List Rat} (h : a.Perm b) (w : Rat) : lastQ w a = lastQ w b := by
  rw [lastQ_prod, lastQ_prod, prodQ_perm h]
theorem lastQ_over (qs : List Rat) {w : Rat} (h : 0 < w) : lastQ w qs / w = lastQ 1 qs := by
  rw [lastQ_prod, lastQ_prod]
  have : w ≠ 0 := by grind
  grind
theorem rooms_take : ∀ (qs : List Rat) (w : Rat) (m : Nat), m ≤ qs.length → roomsQ w (qs.take m) = (roomsQ w qs).take (m + 1)
  | [], w, m, h => by
    have : m = 0 := by simpa using h
    subst this
    rfl
  | q :: qs, w, 0, h => rfl
  | q :: qs, w, m + 1, h => by
    show w :: roomsQ (w * shareQ q) (qs.take m) = w :: (roomsQ (w * shareQ q) qs).take (m + 1)
    rw [rooms_take qs (w * shareQ q) m (by simpa using h)]
theorem trimL_is : ∀ qs : List Rat, ∃ m, m ≤ qs.length ∧ trimL qs = qs.take m
  | [] => ⟨0, Nat.le_refl _, rfl⟩
  | q :: qs => by
    obtain ⟨m, h1, h2⟩ := trimL_is qs
    unfold trimL
    by_cases h : q = 0 ∧ trimL qs = []
    · rw [if_pos h]
      exact ⟨0, Nat.zero_le _, rfl⟩
    · rw [if_neg h, h2]
      exact ⟨m + 1, by simpa using h1, rfl⟩
theorem panesQ_amid : ∀ (A : List Rat) (a b : Rat) (B : List Rat), panesQ (A ++ a :: b :: B) = panesQ (A ++ [a]) ++ ((a - b) / (a + b)) :: panesQ (b :: B)
  | [], a, b, B => rfl
  | [x], a, b, B => rfl
  | x :: y :: A, a, b, B => by
    have ih := panesQ_amid (y :: A) a b B
    show ((x - y) / (x + y)) :: panesQ ((y :: A) ++ a :: b :: B) = ((x - y) / (x + y)) :: (panesQ ((y :: A) ++ [a]) ++ ((a - b) / (a + b)) :: panesQ (b :: B))
    rw [ih]
theorem share_pane {a b : Rat} (ha : 0 < a) (hb : 0 < b) : shareQ ((a - b) / (a + b)) = b / a := by
  have h := back_pane ha hb
  unfold shareQ
  have : a ≠ 0 := by grind
  have e : a * ((1 - (a - b) / (a + b)) / (1 + (a - b) / (a + b))) / a = b / a := by rw [h]
  rw [← e]
  grind
theorem share_two {a b v : Rat} (ha : 0 < a) (hb : 0 < b) (hv : 0 < v) : lastQ 1 [(a - v) / (a + v), (v - b) / (v + b)] = lastQ 1 [(a - b) / (a + b)] := by
  show 1 * shareQ ((a - v) / (a + v)) * shareQ ((v - b) / (v + b)) = 1 * shareQ ((a - b) / (a + b))
  rw [share_pane ha hv, share_pane hv hb, share_pane ha hb]
  have : a ≠ 0 := by grind
  have : v ≠ 0 := by grind
  grind
theorem erase_perm {α : Type} : ∀ (l : List α) (k : Nat) (h : k < l.length), (l[k] :: l.eraseIdx k).Perm l
  | x :: xs, 0, _ => List.Perm.refl _
  | x :: xs, k + 1, h => by
    have ih := erase_perm xs k (by simpa using h)
    show (xs[k]'(by simpa using h) :: x :: xs.eraseIdx k).Perm (x :: xs)
    exact (List.Perm.swap _ _ _).trans (List.Perm.cons x ih)
theorem trimL_idem : ∀ qs : List Rat, trimL (trimL qs) = trimL qs
  | [] => rfl
  | q :: qs => by
    have ih := trimL_idem qs
    by_cases h : q = 0 ∧ trimL qs = []
    · have e : trimL (q :: qs) = [] := if_pos h
      rw [e]
      rfl
    · have e : trimL (q :: qs) = q :: trimL qs := if_neg h
      rw [e]
      show (if q = 0 ∧ trimL (trimL qs) = [] then [] else q :: trimL (trimL qs)) = q :: trimL qs
      rw [ih, if_neg h]
theorem trimR_idem (qs : List Rat) (x : Int) : trimR (trimR qs x) x = trimR qs x := by
  unfold trimR
  by_cases h : x = 0
  · rw [if_pos h, if_pos h, trimL_idem]
  · rw [if_neg h, if_neg h]
end Ep
namespace Ep
open PySem PySem.Spec PyProof.Rows L2
/-! ### heaps: what a draw changes -/
/-- all but what stands at p is as it was -/
def Chg (p : Addr) (H H' : Hp) : Prop := ∀ b o, b ≠ p → H b = some o → H' b = some o
theorem Chg.refl {p : Addr} {H : Hp} : Chg p H H := fun _ _ _ h => h
theorem Chg.trans {p : Addr} {H H1 H2 : Hp} (a : Chg p H H1) (b : Chg p H1 H2) : Chg p H H2 := fun c o n h => b c o n (a c o n h)
theorem Chg.of_same {p : Addr} {H H' : Hp} (h : Same H H') : Chg p H H' := fun b o _ e => h b o e
theorem same_upd {H : Hp} {p : Addr} {o : HO} (h : H p = none) : Same H (upd H p o) := fun b x e => by
  rw [upd_ne (ne_of_none e h)]
  exact e
theorem chg_upd {H : Hp} {p : Addr} {o : HO} : Chg p H (upd H p o) := fun b x n e => by
  rw [upd_ne n]
  exact e
theorem Chg.free {p : Addr} {H H' : Hp} (c : Chg p H H') {l : Addr} (n : l ≠ p) (h : H' l = none) : H l = none := by
  cases q : H l with
  | none => rfl
  | some o =>
    rw [c l o n q] at h
    cases h
/-- a new thing is laid, then that is changed: nothing old is -/
theorem Same.chg_new {p : Addr} {H H1 H2 : Hp} (a : Same H H1) (n : H p = none) (c : Chg p H1 H2) : Same H H2 := fun b o e => c b o (ne_of_none e n) (a b o e)
theorem Same.tup {K : PySem.W.Frag} {H H' : Hp} {a : Addr} {xs : List V} (e : Same H H') (h : SqT K H a xs) : SqT K H' a xs := by
  rcases h with (h | ⟨o, h⟩) | h
  · exact .inl (.inl (e _ _ h))
  · exact .inl (.inr ⟨o, e _ _ h⟩)
  · exact .inr h
theorem Chg.tup {K : PySem.W.Frag} {p : Addr} {H H' : Hp} {a : Addr} {xs l : List V} (c : Chg p H H') (hp : H p = some (.lst l)) (h : SqT K H a xs) : SqT K H' a xs := by
  rcases h with (h | ⟨o, h⟩) | h
  · exact .inl (.inl (c _ _ (fun e => by subst e; rw [hp] at h; cases h) h))
  · exact .inl (.inr ⟨o, c _ _ (fun e => by subst e; rw [hp] at h; cases h) h⟩)
  · exact .inr h
/-! ### data in the heap -/
mutual
def noL : PyData → Bool
  | .list _ => false
  | .dict _ => false
  | .tuple ds => noLs ds
  | _ => true
def noLs : List PyData → Bool
  | [] => true
  | d :: ds => noL d && noLs ds
end
section
variable {K : PySem.W.Frag} {H H' : Hp}
mutual
theorem dp_same (e : Same H H') : ∀ (d : PyData) (v : V), Dp K H v d → Dp K H' v d
  | .none, _, h => by cases h; exact .non
  | .bool b, _, h => by cases h; exact .bl b
  | .int i, _, h => by cases h; exact .int i
  | .str x, _, h => by cases h; exact .str x
  | .list ds, _, h => by
    cases h with
    | lst hs ha => exact .lst (e.seq hs) (dps_same e ds _ ha)
  | .tuple ds, _, h => by
    cases h with
    | tup hs ha => exact .tup (Same.tup e hs) (dps_same e ds _ ha)
  | .dict _, _, h => by cases h
theorem dps_same (e : Same H H') : ∀ (ds : List PyData) (vs : List V), DpAll K H vs ds → DpAll K H' vs ds
  | [], _, h => by cases h; exact .nil
  | d :: ds, _, h => by
    cases h with
    | cons a b => exact .cons (dp_same e d _ a) (dps_same e ds _ b)
end
mutual
theorem dp_chg {p : Addr} {l : List V} (c : Chg p H H') (hp : H p = some (.lst l)) : ∀ (d : PyData) (v : V), noL d = true → Dp K H v d → Dp K H' v d
  | .none, _, _, h => by cases h; exact .non
  | .bool b, _, _, h => by cases h; exact .bl b
  | .int i, _, _, h => by cases h; exact .int i
  | .str x, _, _, h => by cases h; exact .str x
  | .list ds, _, n, h => by cases n
  | .tuple ds, _, n, h => by
    cases h with
    | tup hs ha => exact .tup (c.tup hp hs) (dps_chg c hp ds _ n ha)
  | .dict _, _, _, h => by cases h
theorem dps_chg {p : Addr} {l : List V} (c : Chg p H H') (hp : H p = some (.lst l)) : ∀ (ds : List PyData) (vs : List V), noLs ds = true → DpAll K H vs ds → DpAll K H' vs ds
  | [], _, _, h => by cases h; exact .nil
  | d :: ds, _, n, h => by
    have n2 : noL d = true ∧ noLs ds = true := by simpa [noLs] using n
    cases h with
    | cons a b => exact .cons (dp_chg c hp d _ n2.1 a) (dps_chg c hp ds _ n2.2 b)
end
theorem dps_len : ∀ {vs : List V} {ds : List PyData}, DpAll K H vs ds → vs.length = ds.length
  | _, _, .nil => rfl
  | _, _, .cons _ t => congrArg Nat.succ (dps_len t)
theorem dps_get : ∀ {vs : List V} {ds : List PyData} {i : Nat} {v : V}, DpAll K H vs ds → vs[i]? = some v → ∃ d, ds[i]? = some d ∧ Dp K H v d
  | _, _, _, _, .nil, e => by simp at e
  | _, _, 0, _, .cons r _, e => by simp at e; subst e; exact ⟨_, rfl, r⟩
  | _, _, i + 1, x, .cons _ t, e => by
    obtain ⟨u, h1, h2⟩ := dps_get (i := i) (v := x) t (by simpa using e)
    exact ⟨u, by simpa using h1, h2⟩
theorem dps_app : ∀ {xs ys : List V} {us ws : List PyData}, DpAll K H xs us → DpAll K H ys ws → DpAll K H (xs ++ ys) (us ++ ws)
  | _, _, _, _, .nil, s => s
  | _, _, _, _, .cons r t, s => .cons r (dps_app t s)
theorem dps_take : ∀ {xs : List V} {us : List PyData} (n : Nat), DpAll K H xs us → DpAll K H (xs.take n) (us.take n)
  | _, _, 0, _ => .nil
  | _, _, _ + 1, .nil => .nil
  | _, _, n + 1, .cons r t => .cons r (dps_take n t)
theorem dps_drop : ∀ {xs : List V} {us : List PyData} (n : Nat), DpAll K H xs us → DpAll K H (xs.drop n) (us.drop n)
  | _, _, 0, r => r
  | _, _, _ + 1, .nil => .nil
  | _, _, n + 1, .cons _ t => dps_drop n t
theorem dps_rev : ∀ {xs : List V} {us : List PyData}, DpAll K H xs us → DpAll K H xs.reverse us.reverse
  | _, _, .nil => .nil
  | _, _, .cons r t => by
    rw [List.reverse_cons, List.reverse_cons]
    exact dps_app (dps_rev t) (.cons r .nil)
end
/-! FRACTIONs and ROWs as data -/
def frD (q : Rat) : PyData := .tuple [.int q.num, .int (q.den : Int)]
def frs (qs : List Rat) : List PyData := qs.map frD
def rowD (qs : List Rat) (w : Int) : PyData := .tuple [.tuple (frs qs), .int w]
theorem noL_fr (q : Rat) : noL (frD q) = true := rfl
theorem noL_frs : ∀ qs : List Rat, noLs (frs qs) = true
  | [] => rfl
  | q :: qs => by
    show (noL (frD q) && noLs (frs qs)) = true
    rw [noL_fr, noL_frs qs]
    rfl
theorem noL_row (qs : List Rat) (w : Int) : noL (rowD qs w) = true := by
  show (noLs (frs qs) && (true && true)) = true
  rw [noL_frs]
  rfl
theorem dp_fr {K : PySem.W.Frag} {H : Hp} {v : V} {q : Rat} (h : Dp K H v (frD q)) : ∃ a, v = .ref a ∧ SqT K H a [.int q.num, .int (q.den : Int)] := by
  cases h with
  | tup hs ha =>
    cases ha with
    | cons a b =>
      cases b with
      | cons c d =>
        cases d
        cases a
        cases c
        exact ⟨_, rfl, hs⟩
theorem dp_fr_mk {K : PySem.W.Frag} {H : Hp} {a : Addr} {q : Rat} (h : SqT K H a [.int q.num, .int (q.den : Int)]) : Dp K H (.ref a) (frD q) := .tup h (.cons (.int _) (.cons (.int _) .nil))
theorem dp_tup {K : PySem.W.Frag} {H : Hp} {v : V} {ds : List PyData} (h : Dp K H v (.tuple ds)) : ∃ a xs, v = .ref a ∧ SqT K H a xs ∧ DpAll K H xs ds := by
  cases h with
  | tup hs ha => exact ⟨_, _, rfl, hs, ha⟩
theorem dp_lst {K : PySem.W.Frag} {H : Hp} {v : V} {ds : List PyData} (h : Dp K H v (.list ds)) : ∃ a xs, v = .ref a ∧ SqL K H a xs ∧ DpAll K H xs ds := by
  cases h with
  | lst hs ha => exact ⟨_, _, rfl, hs, ha⟩
theorem dp_int {K : PySem.W.Frag} {H : Hp} {v : V} {i : Int} (h : Dp K H v (.int i)) : v = .int i := by
  cases h
  rfl
theorem dp_row {K : PySem.W.Frag} {H : Hp} {v : V} {qs : List Rat} {w : Int} (h : Dp K H v (rowD qs w)) : ∃ a b xs, v = .ref a ∧ SqT K H a [.ref b, .int w] ∧ SqT K H b xs ∧ DpAll K H xs (frs qs) := by
  obtain ⟨a, xs, rfl, h1, h2⟩ := dp_tup h
  cases h2 with
  | cons x y =>
    cases y with
    | cons z u =>
      cases u
      obtain ⟨b, ys, rfl, h3, h4⟩ := dp_tup x
      cases z
      exact ⟨a, b, ys, rfl, h1, h3, h4⟩
theorem dp_row_mk {K : PySem.W.Frag} {H : Hp} {a b : Addr} {xs : List V} {qs : List Rat} {w : Int} (h1 : SqT K H a [.ref b, .int w]) (h2 : SqT K H b xs) (h3 : DpAll K H xs (frs qs)) : Dp K H (.ref a) (rowD qs w) :=
  .tup h1 (.cons (.tup h2 h3) (.cons (.int w) .nil))
/-! ### the box of draws -/
structure Bx (H : Hp) (p : Addr) (n : Nat) : Prop where
  ex : ∃ x y z : Int, H p = some (.lst [.int x, .int y, .int z]) ∧ 0 ≤ x ∧ 0 ≤ y ∧ y < 4000000000000000000 ∧ 0 ≤ z ∧ z ≤ n
theorem Bx.at {H : Hp} {p : Addr} {n : Nat} (b : Bx H p n) : ∃ l, H p = some (.lst l) := by
  obtain ⟨x, y, z, h, _⟩ := b.ex
  exact ⟨_, h⟩
theorem Bx.mono {H : Hp} {p : Addr} {n m : Nat} (b : Bx H p n) (h : n ≤ m) : Bx H p m := by
  obtain ⟨x, y, z, a, b, c, d, e, f⟩ := b.ex
  exact ⟨x, y, z, a, b, c, d, e, by omega⟩
theorem Bx.same {H H' : Hp} {p : Addr} {n : Nat} (b : Bx H p n) (e : Same H H') : Bx H' p n := by
  obtain ⟨x, y, z, h, r⟩ := b.ex
  exact ⟨x, y, z, e _ _ h, r⟩
theorem Bx.dp {K : PySem.W.Frag} {H H' : Hp} {p : Addr} {n : Nat} {v : V} {d : PyData} (b : Bx H p n) (c : Chg p H H') (h : Dp K H v d) (nl : noL d = true) : Dp K H' v d := by
  obtain ⟨l, e⟩ := b.at
  exact dp_chg c e d v nl h
theorem Bx.dps {K : PySem.W.Frag} {H H' : Hp} {p : Addr} {n : Nat} {vs : List V} {ds : List PyData} (b : Bx H p n) (c : Chg p H H') (h : DpAll K H vs ds) (nl : noLs ds = true) : DpAll K H' vs ds := by
  obtain ⟨l, e⟩ := b.at
  exact dps_chg c e ds vs nl h

/-! ### panes -/
structure PaneQ (q : Rat) : Prop where
  lo : -1 < q
  hi : q < 1
  sz : Sz 6 q
theorem pane_fr {t u : Int} (h1 : -u < t) (h2 : t < u) (h3 : u ≤ 60) : PaneQ (Rat.divInt t u) := by
  have hu : 0 < u := by omega
  have hq : (0 : Rat) < (u : Rat) := Rat.intCast_pos.mpr hu
  refine ⟨?_, ?_, sz_fr hu (by omega) (by omega)⟩
  · rw [Rat.divInt_eq_div, Rat.lt_div_iff hq]
    have e : (-1 : Rat) * (u : Rat) = ((-u : Int) : Rat) := by
      rw [Rat.intCast_neg]
      grind
    rw [e]
    exact Rat.intCast_lt_intCast.mpr h1
  · rw [Rat.divInt_eq_div, Rat.div_lt_iff hq, Rat.one_mul]
    exact Rat.intCast_lt_intCast.mpr h2
theorem fr_own {t u : Int} (h : 0 < u) (g : Int.gcd t u = 1) : (Rat.divInt t u).num = t ∧ ((Rat.divInt t u).den : Int) = u := by
  rw [fr_num h, fr_den h, g]
  simp
theorem gcd_one_less (u : Int) : Int.gcd (1 - u) u = 1 := by
  have e : (1 : Int) - u = 1 - u * 1 := by omega
  rw [e, Int.gcd_sub_mul_left_left, Int.gcd_one_left]
theorem pick3 {r : Int} (h0 : 0 ≤ r) (h1 : r < 3) : ∃ z : Int, atI [V.int 3, .int 8, .int 59] r = some (.int z) ∧ 0 < z ∧ z ≤ 59 := by
  have h : r = 0 ∨ r = 1 ∨ r = 2 := by omega
  rcases h with rfl | rfl | rfl
  · exact ⟨3, rfl, by decide, by decide⟩
  · exact ⟨8, rfl, by decide, by decide⟩
  · exact ⟨59, rfl, by decide, by decide⟩
theorem dp_fr_lit {K : PySem.W.Frag} {H : Hp} {a : Addr} {t u : Int} (hu : 0 < u) (g : Int.gcd t u = 1) (h : SqT K H a [.int t, .int u]) : Dp K H (.ref a) (frD (Rat.divInt t u)) := by
  obtain ⟨e1, e2⟩ := fr_own hu g
  refine dp_fr_mk ?_
  rw [e1, e2]
  exact h
/-- what a value tells: a pane -/
def IsPane (K : PySem.W.Frag) (H : Hp) (v : V) : Prop := ∃ q, PaneQ q ∧ Dp K H v (frD q)
theorem IsPane.same {K : PySem.W.Frag} {H H' : Hp} {v : V} (h : IsPane K H v) (e : Same H H') : IsPane K H' v := by
  obtain ⟨q, a, b⟩ := h
  exact ⟨q, a, dp_same e _ _ b⟩
theorem pane_lit {K : PySem.W.Frag} {H : Hp} {a : Addr} {t u : Int} (g : Int.gcd t u = 1) (h1 : -u < t) (h2 : t < u) (h3 : u ≤ 60) (h : SqT K H a [.int t, .int u]) : IsPane K H (.ref a) :=
  ⟨_, pane_fr h1 h2 h3, dp_fr_lit (by omega) g h⟩
theorem upd_new_ne {H : Hp} {p l : Addr} {o u : HO} (h : H p = some o) (n : H l = none) : (upd H l u) p = some o := by
  rw [upd_ne (ne_of_none h n)]
  exact h
/-- what is said of a list that is laid anew amid a comprehension's turns stays where a new item is put to it -/
theorem dps_put {K : PySem.W.Frag} {H : Hp} {D : Addr} {acc acc2 : List V} {vs : List V} {ds : List PyData} (h : H D = some (.lst acc)) (n : noLs ds = true) (d : DpAll K H vs ds) : DpAll K (upd H D (.lst acc2)) vs ds := dps_chg chg_upd h ds vs n d
theorem dp_put {K : PySem.W.Frag} {H : Hp} {D : Addr} {acc acc2 : List V} {v : V} {d : PyData} (h : H D = some (.lst acc)) (n : noL d = true) (x : Dp K H v d) : Dp K (upd H D (.lst acc2)) v d := dp_chg chg_upd h d v n x
theorem Bx.other {H : Hp} {p D : Addr} {n : Nat} {o : HO} (b : Bx H p n) (h : p ≠ D) : Bx (upd H D o) p n := by
  obtain ⟨x, y, z, e, r⟩ := b.ex
  exact ⟨x, y, z, by rw [upd_ne h]; exact e, r⟩
/-- a thing that was new is changed -/
theorem Chg.new_upd {p D : Addr} {H H1 : Hp} {o : HO} (c : Chg p H H1) (n : H D = none) : Chg p H (upd H1 D o) := fun b x nb e => by
  rw [upd_ne (ne_of_none e n)]
  exact c b x nb e
theorem Same.new_upd {D : Addr} {H H1 : Hp} {o : HO} (c : Same H H1) (n : H D = none) : Same H (upd H1 D o) := fun b x e => by
  rw [upd_ne (ne_of_none e n)]
  exact c b x e
theorem frs_app (a b : List Rat) : frs (a ++ b) = frs a ++ frs b := List.map_append
theorem dps_snoc {K : PySem.W.Frag} {H : Hp} {vs : List V} {qs : List Rat} {v : V} {q : Rat} (a : DpAll K H vs (frs qs)) (b : Dp K H v (frD q)) : DpAll K H (vs ++ [v]) (frs (qs ++ [q])) := by
  rw [frs_app]
  exact dps_app a (.cons b .nil)
theorem ty_tup {K : PySem.W.Frag} {H : Hp} {a : Addr} {xs : List V} (h : SqT K H a xs) : TyX K H (.ref a) (.type "tuple") := by
  rcases h with (h | ⟨o, h⟩) | ⟨o, its, n, h, c, _⟩
  · exact .base (.tup h)
  · exact .fTuple h
  · exact .kTuple h c
theorem ty_lst {K : PySem.W.Frag} {H : Hp} {a : Addr} {xs : List V} (h : SqL K H a xs) : TyX K H (.ref a) (.type "list") := by
  rcases h with (h | ⟨o, h⟩) | ⟨o, its, n, h, c, _⟩
  · exact .base (.lst h)
  · exact .base (.frz h)
  · exact .kList h c
theorem walk_zipT {K : PySem.W.Frag} {a b : Addr} {xs ys : List V} {n : Nat} (hn : n = min xs.length ys.length) : Walk (RZ.ItzT K a b) n (fun H => SqT K H a xs ∧ SqT K H b ys) (YPair (fun i => xs[i]?) (fun i => ys[i]?)) := by
  subst hn
  refine ⟨fun i _ hi q => ?_, fun _ q => ⟨xs, ys, q.1, q.2, by omega⟩, fun i H v H' _ q y => ?_⟩
  · have h1 : i < xs.length := by omega
    have h2 : i < ys.length := by omega
    exact ⟨xs, ys, xs[i], ys[i], q.1, q.2, by simp [h1], by simp [h2]⟩
  · obtain ⟨T, x, z, h1, h2, h3, h4, h5⟩ := y
    exact ⟨T, x, z, h1, h2, h3, h4 xs q.1, h5 ys q.2⟩
theorem PaneQ.z {q : Rat} (h : PaneQ q) : PaneZ 6 q := ⟨h.lo, h.hi, h.sz⟩
/-! ### calls by names alone -/
section
variable {X : Cx} {CX : CXT} {k : Nat} {f : Addr} {fd : FuncData} {ps ks : List Str} {sp : Sp} {E : XK} {x : Str} {p pos : Pos} {kws : List Keyword} {tk : TA} {g : List Value → List Value → List Value} {gV : List V → List V → List V}
theorem pe_callN0 (F : FnOk X.prog X.w X.K X.mg X.base CX k f fd ps sp) (hr : Room k X.A) (hg : Gl X x) (hm : X.mg x = some (.ref f)) (hk : PySem.W.keepIn X.K (.ref f) = true) (hb : KBn X.K fd ps 0 ks g gV) (hx : Passes CX X E)
    (hkw : PK X kws tk) (hall : (backToKw pos (keywordEach kws X.env)).all (·.1.isSome) = true := by rfl) (hks : (backToKw pos (keywordEach kws X.env)).filterMap (·.1) = ks := by rfl)
    (hdb : (x == ("__debug__" : Str)) = false := by decide)
    (hpl : ((backTo pos (starEach [] X.env)).any (·.1) || (backToKw pos (keywordEach kws X.env)).any (·.1.isNone)) = false := by rfl) :
    PE X (.Call (.Name x p) [] kws pos) (tCallN 0 ks.length sp gV E tNil tk) := by
  refine ⟨fun pins s σ H Q I h => ?_⟩
  refine wpAny_Call_Name_kw (ld_glob I hg hm ?_ hdb)
  refine PySem.W.callWith_KW0 (h₀ := X.base) I.ok.mod.kin hk hall (thn (hkw.run pos pins s σ H _ I h) fun ws s2 ⟨zs, H2, I2, rz, l1, l2, q2⟩ => ⟨I2.kIn, ?_⟩) hpl
  rw [hks]
  exact run_fnN F hr hb hx I2 .nil rz l1 l2 q2
end
section
variable {K : PySem.W.Frag} {f : Addr} {fd : FuncData} {ps : List Str}
/-- a def without defaults, some of its parameters handed in by their names -/
theorem Fun.kb {x qual : Str} {st : Stmt} (F : Fun K x qual st f fd) (n : Nat) (ks : List Str) (g : {α : Type} → List α → List α → List α)
    (hrel : ∀ {vs zs : List V} {us ws : List Value}, Vals vs us → Vals zs ws → Vals (g vs zs) (g us ws))
    (h : ∀ (kV doc pm : Value) (an : Option Addr) (cdv ct : Value) (us ws : List Value), us.length = n → ws.length = ks.length → bindArgs (PySem.W.fnOf x qual (defArgs st) (defBody st) (defScope st) .none kV doc pm an cdv ct) ⟨us, ks.zip ws⟩ = pure (ps.zip (g us ws))) :
    KBn K fd ps n ks (fun us ws => g us ws) (fun vs zs => g vs zs) := by
  obtain ⟨oc, od, kV, doc, pm, an, cdv, ct, osl, rfl, lk, hcd⟩ := F.ex
  exact ⟨fun s us ws _ l1 l2 => .of_eq (h kV doc pm an cdv ct us ws l1 l2), fun r1 r2 => hrel r1 r2⟩
/-- a def with keyword-only defaults alone; ms: those that lack -/
theorem FunD.kb {x qual : Str} {params : Arguments} {body : List Stmt} {scope : Scope} {kws : List (Str × V)} (F : FunD K x qual params body scope [] kws f fd) (n : Nat) (ks : List Str) (ms : List (Str × V)) (g : {α : Type} → List α → List α → List α → List α)
    (hk : kws ≠ []) (hms : ∀ q ∈ ms, q ∈ kws)
    (hrel : ∀ {vs mz zs : List V} {us mv ws : List Value}, Vals vs us → Vals mz mv → Vals zs ws → Vals (g vs mz zs) (g us mv ws))
    (h : ∀ (D : Addr) (doc pm : Value) (an : Option Addr) (cdv ct : Value) (us mv ws : List Value), us.length = n → mv.length = ms.length → ws.length = ks.length →
      KwChain D ((ms.map (·.1)).zip mv) (bindArgs (PySem.W.fnOf x qual params body scope .none (.ref D) doc pm an cdv ct) ⟨us, ks.zip ws⟩) (ps.zip (g us mv ws))) :
    ∃ mv : List Value, KBn K fd ps n ks (fun us ws => g us mv ws) (fun vs zs => g vs (ms.map (·.2)) zs) := by
  obtain ⟨oc, od, dV, kV, doc, pm, an, cdv, ct, osl, rfl, lk, hcd, hD, hK⟩ := F.ex
  rcases hD with ⟨_, rfl⟩ | ⟨e, _⟩
  · rcases hK with e | ⟨D, rfl, hq⟩
    · exact absurd e hk
    · obtain ⟨mv, hl, rk, hks⟩ := kwd_vals (ms := ms) fun q hm => hq q (hms q hm)
      refine ⟨mv, ⟨fun s us ws X l1 l2 => BindsTo.of_looks fun M => KwChain.looks X hks (h D doc pm an cdv ct us mv ws l1 hl l2), fun r1 r2 => hrel r1 rk r2⟩⟩
  · exact absurd rfl e
end
/-! ### a callee, in short -/
structure Cal (P : Program) (w : World) (K : PySem.W.Frag) (mg : Str → Option Value) (base : Heap) (k : Nat) (x : Str) (ps : List Str) (sp : Sp) (f : Addr) (fd : FuncData) : Prop where
  kp : PySem.W.keepIn K (.ref f) = true
  ok : FnOk P w K mg base CX0 k f fd ps sp
  bd : Binds K fd ps []
  at_ : mg x = some (.ref f)
theorem pe_c {X : Cx} {k : Nat} {x : Str} {ps : List Str} {sp : Sp} {f : Addr} {fd : FuncData} {p pos : Pos} {e : Expr} {es : List Expr} {t : TA} (c : Cal X.prog X.w X.K X.mg X.base k x ps sp f fd) (hr : Room k X.A) (hg : Gl X x) (ha : PA X (e :: es) t)
    (hdb : (x == ("__debug__" : Str)) = false := by decide) (he : starEach (e :: es) X.env = (false, eval e X.env) :: starEach es X.env := by rfl) (hpl : (backTo pos (starEach es X.env)).any (·.1) = false := by rfl) :
    PE X (.Call (.Name x p) (e :: es) [] pos) (tCall sp [] E0 t) := pe_call c.ok hr hg c.at_ c.kp c.bd .nil pass0 ha hdb he hpl
/-! ### a list of FRACTIONs -/
def Lq (K : PySem.W.Frag) (H : Hp) (L : Addr) (qs : List Rat) : Prop := ∃ us, H L = some (.lst us) ∧ DpAll K H us (frs qs)
section
variable {K : PySem.W.Frag} {H H' : Hp} {L p : Addr} {qs : List Rat}
theorem Lq.same (h : Lq K H L qs) (e : Same H H') : Lq K H' L qs := by
  obtain ⟨us, a, b⟩ := h
  exact ⟨us, e _ _ a, dps_same e _ _ b⟩
theorem Lq.chg {l : List V} (h : Lq K H L qs) (c : Chg p H H') (hp : H p = some (.lst l)) (n : L ≠ p) : Lq K H' L qs := by
  obtain ⟨us, a, b⟩ := h
  exact ⟨us, c _ _ n a, dps_chg c hp _ _ (noL_frs qs) b⟩
theorem Lq.dp (h : Lq K H L qs) : Dp K H (.ref L) (.list (frs qs)) := by
  obtain ⟨us, a, b⟩ := h
  exact .lst (SqL.of a) b
theorem Lq.ne (h : Lq K H L qs) {M : Addr} (n : H M = none) : L ≠ M := by
  obtain ⟨us, a, b⟩ := h
  exact ne_of_none a n
theorem Bx.lq {n : Nat} (b : Bx H p n) (c : Chg p H H') (h : Lq K H L qs) (ne : L ≠ p) : Lq K H' L qs := by
  obtain ⟨l, e⟩ := b.at
  exact h.chg c e ne
theorem Bx.ne {n : Nat} (b : Bx H p n) {M : Addr} (h : H M = none) : M ≠ p := by
  obtain ⟨l, e⟩ := b.at
  exact (ne_of_none e h).symm
end
/-! ### things laid anew -/
section
variable {K : PySem.W.Frag} {H : Hp} {a b : Addr}
theorem new_fr {t u : Int} (n : H a = none) (hu : 0 < u) (g : Int.gcd t u = 1) : Dp K (upd H a (.tup [.int t, .int u])) (.ref a) (frD (Rat.divInt t u)) := dp_fr_lit hu g (SqT.of upd_same)
theorem new_q {t u : Int} (n : H a = none) (q : Rat) (h1 : q.num = t) (h2 : (q.den : Int) = u) : Dp K (upd H a (.tup [.int t, .int u])) (.ref a) (frD q) := by
  subst h1 h2
  exact dp_fr_mk (SqT.of upd_same)
theorem new_row {xs : List V} {qs : List Rat} {w : Int} (n : H a = none) (hb : SqT K H b xs) (d : DpAll K H xs (frs qs)) : Dp K (upd H a (.tup [.ref b, .int w])) (.ref a) (rowD qs w) :=
  dp_row_mk (SqT.of upd_same) (Same.tup (same_upd n) hb) (dps_same (same_upd n) _ _ d)
theorem new_rowD {v : V} {qs : List Rat} {w : Int} (n : H a = none) (d : Dp K H v (.tuple (frs qs))) : Dp K (upd H a (.tup [v, .int w])) (.ref a) (rowD qs w) :=
  .tup (SqT.of upd_same) (.cons (dp_same (same_upd n) _ _ d) (.cons (.int w) .nil))
theorem new_tup {xs : List V} {ds : List PyData} (n : H a = none) (d : DpAll K H xs ds) : Dp K (upd H a (.tup xs)) (.ref a) (.tuple ds) := .tup (SqT.of upd_same) (dps_same (same_upd n) _ _ d)
theorem new_lst {xs : List V} {ds : List PyData} (n : H a = none) (d : DpAll K H xs ds) : Dp K (upd H a (.lst xs)) (.ref a) (.list ds) := .lst (SqL.of upd_same) (dps_same (same_upd n) _ _ d)
theorem same2 {o1 o2 : HO} (n1 : H a = none) (n2 : (upd H a o1) b = none) : Same H (upd (upd H a o1) b o2) := Same.trans (same_upd n1) (same_upd n2)
theorem same3 {c : Addr} {o1 o2 o3 : HO} (n1 : H a = none) (n2 : (upd H a o1) b = none) (n3 : (upd (upd H a o1) b o2) c = none) : Same H (upd (upd (upd H a o1) b o2) c o3) := Same.trans (same2 n1 n2) (same_upd n3)
theorem Same.new {H1 : Hp} {o : HO} (s : Same H H1) (n : H1 a = none) : Same H (upd H1 a o) := s.trans (same_upd n)
end
/-! ### == of FRACTIONs and ROWs -/
theorem eqv_fr (q r : Rat) : PyData.eqv (frD q) (frD r) = decide (q = r) := by
  have e : PyData.eqv (frD q) (frD r) = ((q.num == r.num) && ((q.den : Int) == (r.den : Int) && true)) := by
    unfold frD
    simp [PyData.eqv, PyData.eqvAll]
  rw [e, Bool.eq_iff_iff]
  simp only [Bool.and_true, Bool.and_eq_true, beq_iff_eq, decide_eq_true_eq]
  constructor
  · rintro ⟨h1, h2⟩
    exact Rat.ext h1 (by omega)
  · rintro rfl
    exact ⟨rfl, rfl⟩
theorem sh_fr (q : Rat) : SeqAt.shaped (frD q) = true := by
  unfold frD SeqAt.shaped
  simp [PyData.canLay0, PyData.canLayAll0, PyData.depth, PyData.depthAll]
theorem lay_frs : ∀ qs : List Rat, PyData.canLayAll0 (frs qs) = true
  | [] => by simp [frs, PyData.canLayAll0]
  | q :: qs => by
    have ih := lay_frs qs
    have e : frs (q :: qs) = frD q :: frs qs := rfl
    rw [e]
    simp only [PyData.canLayAll0, ih, Bool.and_true]
    simp [frD, PyData.canLay0, PyData.canLayAll0]
theorem dep_frs : ∀ qs : List Rat, PyData.depthAll (frs qs) ≤ 1
  | [] => by simp [frs, PyData.depthAll]
  | q :: qs => by
    have ih := dep_frs qs
    have e : frs (q :: qs) = frD q :: frs qs := rfl
    rw [e]
    simp only [PyData.depthAll]
    have e2 : (frD q).depth = 1 := by simp [frD, PyData.depth, PyData.depthAll]
    omega
theorem sh_frs (qs : List Rat) : SeqAt.shaped (.tuple (frs qs)) = true := by
  unfold SeqAt.shaped
  rw [Bool.and_eq_true]
  refine ⟨?_, decide_eq_true ?_⟩
  · simp only [PyData.canLay0]
    exact lay_frs qs
  · simp only [PyData.depth]
    have := dep_frs qs
    omega
theorem sh_row (qs : List Rat) (x : Int) : SeqAt.shaped (rowD qs x) = true := by
  unfold SeqAt.shaped rowD
  rw [Bool.and_eq_true]
  refine ⟨?_, decide_eq_true ?_⟩
  · simp only [PyData.canLay0, PyData.canLayAll0, lay_frs, Bool.and_true]
  · simp only [PyData.depth, PyData.depthAll]
    have := dep_frs qs
    omega
theorem eqv_self {d : PyData} (h : SeqAt.shaped d = true) : PyData.eqv d d = true := by
  unfold SeqAt.shaped at h
  rw [Bool.and_eq_true] at h
  exact SeqAt.eqv_refl d h.1
theorem walk_revT {K : PySem.W.Frag} {a : Addr} {xs : List V} : Walk (RT.ItvT K a xs.length) xs.length (fun H => SqT K H a xs) (fun i H x H' => H' = H ∧ xs[xs.length - 1 - i]? = some x) :=
  ⟨fun i H hi q => ⟨hi, xs, xs[xs.length - 1 - i]'(by omega), q, by simp [show xs.length - 1 - i < xs.length by omega]⟩, fun H q => Nat.le_refl _, fun i H x H' hi q y => ⟨y.1, y.2 xs q⟩⟩
/-! ### rules by data: tuples cut and joined, lists cut and joined -/
def cutG {α : Type} (xs : List α) (lo hi : Option Int) : List α := (xs.drop (HT.sIx xs.length 0 lo)).take (HT.sIx xs.length xs.length hi - HT.sIx xs.length 0 lo)
theorem dps_cut {K : PySem.W.Frag} {H : Hp} {xs : List V} {ds : List PyData} (lo hi : Option Int) (h : DpAll K H xs ds) : DpAll K H (cutV xs lo hi) (cutG ds lo hi) := by
  have e := dps_len h
  unfold cutV cutG
  rw [e]
  exact dps_take _ (dps_drop _ h)
theorem cutG_map {α β : Type} (f : α → β) (xs : List α) (lo hi : Option Int) : cutG (xs.map f) lo hi = (cutG xs lo hi).map f := by
  unfold cutG
  rw [List.length_map, List.map_take, List.map_drop]
theorem cut_frs (qs : List Rat) (lo hi : Option Int) : cutG (frs qs) lo hi = frs (cutG qs lo hi) := cutG_map frD qs lo hi
theorem cutG_to {α : Type} (xs : List α) (i : Nat) : cutG xs none (some (i : Int)) = xs.take i := by
  unfold cutG
  rw [HT.sIx_none, HT.sIx_nat, List.drop_zero, Nat.sub_zero]
  by_cases h : i ≤ xs.length
  · rw [Nat.min_eq_left h]
  · rw [Nat.min_eq_right (by omega), List.take_length, List.take_of_length_le (by omega)]
theorem cutG_from {α : Type} (xs : List α) (i : Nat) : cutG xs (some (i : Int)) none = xs.drop i := by
  unfold cutG
  rw [HT.sIx_none, HT.sIx_nat]
  by_cases h : i ≤ xs.length
  · rw [Nat.min_eq_left h]
    exact List.take_of_length_le (by rw [List.length_drop]; omega)
  · rw [Nat.min_eq_right (by omega), List.drop_of_length_le (Nat.le_refl _), List.drop_of_length_le (by omega), List.take_nil]
theorem cutG_amid {α : Type} (xs : List α) (i j : Nat) : cutG xs (some (i : Int)) (some (j : Int)) = (xs.drop i).take (j - i) := by
  unfold cutG
  rw [HT.sIx_nat, HT.sIx_nat]
  by_cases h : i ≤ xs.length
  · rw [Nat.min_eq_left h]
    by_cases h2 : j ≤ xs.length
    · rw [Nat.min_eq_left h2]
    · rw [Nat.min_eq_right (by omega), List.take_of_length_le (by rw [List.length_drop]; omega), List.take_of_length_le (by rw [List.length_drop]; omega)]
  · rw [List.drop_of_length_le (show xs.length ≤ min i xs.length by omega), List.drop_of_length_le (show xs.length ≤ i by omega), List.take_nil, List.take_nil]
theorem cutG_last {α : Type} (xs : List α) (x : α) : cutG (xs ++ [x]) none (some (-1)) = xs := by
  unfold cutG
  have e : HT.sIx (xs ++ [x]).length (xs ++ [x]).length (some (-1)) = xs.length := by
    show (if (-1 : Int) < 0 then ((-1 : Int) + ((xs ++ [x]).length : Int)).toNat else min (-1 : Int).toNat (xs ++ [x]).length) = xs.length
    rw [if_pos (by decide), List.length_append]
    simp
    omega
  rw [e, HT.sIx_none, List.drop_zero, Nat.sub_zero]
  simp
def rSlD (K : PySem.W.Frag) : V → Option Int → Option Int → Hp → VK → Prop := fun x lo hi H Q => ∃ ds, Dp K H x (.tuple ds) ∧ ∀ (v : V) (H' : Hp), Same H H' → Dp K H' v (.tuple (cutG ds lo hi)) → Q v H'
def rCatD (K : PySem.W.Frag) : R2 := fun x y H Q => ∃ d1 d2, Dp K H x (.tuple d1) ∧ Dp K H y (.tuple d2) ∧ d1.length + d2.length ≤ 1000 ∧ ∀ (v : V) (H' : Hp), Same H H' → Dp K H' v (.tuple (d1 ++ d2)) → Q v H'
section
variable {X : Cx}
theorem sl_tupD : SlR X (rSlD X.K) := fun pins s σ H x v vl vu lo hi sl Q I rx hs pl pu h => by
  obtain ⟨ds, d, q⟩ := h
  obtain ⟨a, xs, rfl, ha, hxs⟩ := dp_tup d
  refine sl_tupA pins s σ H _ v vl vu lo hi sl Q I rx hs pl pu ⟨a, xs, rfl, ha, fun hw => ?_, fun _ p np => ?_⟩
  · refine q _ _ (Same.refl H) (.tup ha ?_)
    have e : cutV xs lo hi = xs := by
      unfold cutV
      rw [hw.1, hw.2, List.drop_zero, Nat.sub_zero, List.take_length]
    have d2 := dps_cut lo hi hxs
    rw [e] at d2
    exact d2
  · exact q _ _ (same_upd np) (new_tup np (dps_cut lo hi hxs))
theorem op_catD : OpR X (binaryOp .Add) (rCatD X.K) := fun pins s σ H x y v u Q I rx ry h => by
  obtain ⟨d1, d2, e1, e2, hl, q⟩ := h
  obtain ⟨a, xs, rfl, ha, hxs⟩ := dp_tup e1
  obtain ⟨b, ys, rfl, hb, hys⟩ := dp_tup e2
  have l1 := dps_len hxs
  have l2 := dps_len hys
  refine op_catA pins s σ H _ _ v u Q I rx ry ⟨a, b, xs, ys, rfl, rfl, ha, hb, Nat.le_of_lt (Nat.lt_of_le_of_lt (by omega) (by decide : 1000 < sizeLine)), fun e => ?_, fun _ e => ?_, fun _ _ p np => ?_⟩
  · subst e
    cases hxs
    exact q _ _ (Same.refl H) e2
  · subst e
    cases hys
    rw [List.append_nil] at q
    exact q _ _ (Same.refl H) e1
  · exact q _ _ (same_upd np) (new_tup np (dps_app hxs hys))
end
theorem dps_erase {K : PySem.W.Frag} {H : Hp} : ∀ {xs : List V} {us : List PyData} (n : Nat), DpAll K H xs us → DpAll K H (xs.eraseIdx n) (us.eraseIdx n)
  | _, _, _, .nil => .nil
  | _, _, 0, .cons _ t => t
  | _, _, n + 1, .cons r t => .cons r (dps_erase n t)
theorem seqIx {i : Int} {n : Nat} (h0 : 0 ≤ i) (h1 : i < (n : Int)) : seqIndex? i n = some i.toNat := by
  unfold seqIndex?
  have e : (if i < 0 then i + (n : Int) else i) = i := if_neg (by omega)
  simp only [e]
  rw [if_pos (by simp [h0, h1])]
/-! ### lists of FRACTIONs cut, joined, turned about -/
def rSlLq (K : PySem.W.Frag) : V → Option Int → Option Int → Hp → VK → Prop := fun x lo hi H Q => ∃ L qs, x = .ref L ∧ Lq K H L qs ∧ ∀ (M : Addr) (H' : Hp), Same H H' → H M = none → Lq K H' M (cutG qs lo hi) → Q (.ref M) H'
def rCatLq (K : PySem.W.Frag) : R2 := fun x y H Q => ∃ L M q1 q2, x = .ref L ∧ y = .ref M ∧ Lq K H L q1 ∧ Lq K H M q2 ∧ q1.length + q2.length ≤ 1000 ∧ ∀ (N : Addr) (H' : Hp), Same H H' → H N = none → Lq K H' N (q1 ++ q2) → Q (.ref N) H'
theorem Lq.len {K : PySem.W.Frag} {H : Hp} {L : Addr} {qs : List Rat} (h : Lq K H L qs) : ∃ us, H L = some (.lst us) ∧ us.length = qs.length ∧ DpAll K H us (frs qs) := by
  obtain ⟨us, a, b⟩ := h
  exact ⟨us, a, by rw [dps_len b]; exact List.length_map .., b⟩
theorem Lq.new {K : PySem.W.Frag} {H : Hp} {M : Addr} {xs : List V} {qs : List Rat} (n : H M = none) (d : DpAll K H xs (frs qs)) : Lq K (upd H M (.lst xs)) M qs := ⟨xs, upd_same, dps_same (same_upd n) _ _ d⟩
theorem Lq.last {K : PySem.W.Frag} {H : Hp} {L : Addr} {ls : List Rat} {l : Rat} (h : Lq K H L (ls ++ [l])) : ∃ us u, H L = some (.lst (us ++ [u])) ∧ Dp K H u (frD l) := by
  obtain ⟨us, a, b⟩ := h
  rw [frs_app] at b
  have hl := dps_len b
  have e : us = us.take ls.length ++ us.drop ls.length := (List.take_append_drop _ _).symm
  have d2 := dps_drop ls.length b
  have e2 : (frs ls ++ frs [l]).drop ls.length = frs [l] := by
    have e3 : (frs ls).length = ls.length := List.length_map ..
    rw [← e3]
    exact List.drop_left
  rw [e2] at d2
  generalize us.drop ls.length = ds at *
  cases d2 with
  | cons x t =>
    cases t
    rw [e] at a
    exact ⟨_, _, a, x⟩
section
variable {X : Cx}
theorem sl_lq : SlR X (rSlLq X.K) := fun pins s σ H x v vl vu lo hi sl Q I rx hs pl pu h => by
  obtain ⟨L, qs, rfl, ⟨us, a, b⟩, q⟩ := h
  refine sl_list pins s σ H _ v vl vu lo hi sl Q I rx hs pl pu ⟨L, us, rfl, SqL.of a, fun p np => q p _ (same_upd np) np (Lq.new np ?_)⟩
  rw [← cut_frs]
  exact dps_cut lo hi b
theorem op_catLq : OpR X (binaryOp .Add) (rCatLq X.K) := fun pins s σ H x y v u Q I rx ry h => by
  obtain ⟨L, M, q1, q2, rfl, rfl, l1, l2, hl, q⟩ := h
  obtain ⟨us, a, ua, b⟩ := l1.len
  obtain ⟨us2, a2, ua2, b2⟩ := l2.len
  refine op_cat pins s σ H _ _ v u Q I rx ry ⟨L, M, us, us2, rfl, rfl, a, a2, Nat.le_of_lt (Nat.lt_of_le_of_lt (by omega) (by decide : 1000 < sizeLine)), fun p np => q p _ (same_upd np) np (Lq.new np ?_)⟩
  rw [frs_app]
  exact dps_app b b2
end
theorem cut_to_i {α : Type} {xs : List α} {i : Int} {n : Nat} (h : i = (n : Int)) : cutG xs none (some i) = xs.take n := by
  rw [h]
  exact cutG_to xs n
theorem cut_from_i {α : Type} {xs : List α} {i : Int} {n : Nat} (h : i = (n : Int)) : cutG xs (some i) none = xs.drop n := by
  rw [h]
  exact cutG_from xs n
theorem cut_amid_i {α : Type} {xs : List α} {i j : Int} {n m : Nat} (h : i = (n : Int)) (h2 : j = (m : Int)) : cutG xs (some i) (some j) = (xs.drop n).take (m - n) := by
  rw [h, h2]
  exact cutG_amid xs n m
end Ep
namespace Ep
open PySem PySem.Spec PyProof.Rows L2
/-! ### an exception that is caught, kept under a name, and asked about behind its try -/
/-- what stands at a: an exception of the class cls -/
def excHO (a : Addr) (cls : Value) (d : Option Addr) : HO := .ext fun h => ∃ (o : Obj) (vs : Array Value), h.get? a = some o ∧ o.cls = cls ∧ o.dict = d ∧ o.data = .fields vs
theorem fly_keep {B h h' : Heap} {l : List Env} {a : Addr} {Z : Obj → Prop} (x : HandSPX.FlyingZ B l a Z h) (k : ∀ b o, h.get? b = some o → h'.get? b = some o) : HandSPX.FlyingZ B l a Z h' := by
  obtain ⟨f1, f2, f3, oe, vs, T, oT, ts, e1, e2, e3, e4, e5, e6, e7, e8, e9⟩ := x
  exact ⟨fun b o e => k b o (f1 b o e), f2, Heap.FunFrames.of_keeps (fun b o e _ => ⟨o, k b o e, rfl⟩) f3, oe, vs, T, oT, ts, k _ _ e1, e2, e3, e4, e5, e6, k _ _ e7, e8, e9⟩
theorem upts_keep {h h' : Heap} (k : ∀ b o, h.get? b = some o → h'.get? b = some o) : h.UpToSlots h' := fun b o e _ => ⟨o.slots, k b o e⟩
/-- from now on what stands at a is told -/
theorem inv_track {X : Cx} {pins : List (Addr × Obj)} {σ : L2.St} {H : Hp} {s : Shared} {a : Addr} {oe : Obj} {vs : Array Value} (I : Inv X ((a, oe) :: pins) σ H s) (hd : oe.data = .fields vs) (hn : X.s_0.heap.get? a = none) (np : ∀ p ∈ X.pn ++ pins, p.1 ≠ a) :
    Inv X pins σ (upd H a (excHO a oe.cls oe.dict)) s := by
  obtain ⟨ga, na, nl, nf, _⟩ := I.pin (a, oe) (List.mem_append_right _ (List.mem_cons_self ..))
  have old : ∀ {b : Addr} {o : HO}, H b = some o → (upd H a (excHO a oe.cls oe.dict)) b = some o := fun {b o} e => by
    rw [upd_ne (ne_of_none e na)]
    exact e
  have non : ∀ {b : Addr}, H b = none → b ≠ a → (upd H a (excHO a oe.cls oe.dict)) b = none := fun {b} e n => by
    rw [upd_ne n]
    exact e
  refine ⟨I.ok, I.os, I.bare, ?_, I.loc, I.cell, non I.free (Ne.symm nl), fun x c e => non (I.freeC x c e) ?_, fun p hp => ?_, fun b ob e => ?_, I.len⟩
  · refine ⟨I.base.keep, I.base.slot, fun b o e1 e2 e3 => non (I.base.free b o e1 e2 e3) (fun z => by rw [z, hn] at e1; cases e1), I.base.there, fun b xs e => old (I.base.tups b xs e), fun b o u e => old (I.base.frzs b o u e), fun b ps e => ?_⟩
    obtain ⟨more, q⟩ := I.base.tbls b ps e
    exact ⟨more, old q⟩
  · intro z
    obtain ⟨v, o, e1, e2⟩ := I.cell x c e
    rw [z] at e1
    have e3 := ga.symm.trans e1
    cases e3
    rw [hd] at e2
    cases e2
  · have hp2 : p ∈ X.pn ++ (a, oe) :: pins := by
      rcases List.mem_append.mp hp with h | h
      · exact List.mem_append_left _ h
      · exact List.mem_append_right _ (List.mem_cons_of_mem _ h)
    obtain ⟨h1, h2, h3⟩ := I.pin p hp2
    exact ⟨h1, non h2 (np p hp), h3⟩
  · by_cases hb : b = a
    · subst hb
      rw [upd_same] at e
      cases e
      exact ⟨⟨oe, vs, ga, rfl, rfl, hd⟩, ⟨oe, ga⟩, fun _ _ ⟨o, v, q, r⟩ k => ⟨o, v, k o q, r⟩⟩
    · rw [upd_ne hb] at e
      exact (I.hok b ob e).stay (fun _ _ _ q => q) (fun c q => old q) (fun c xs q => old q)
/-- what a clause of several classes wishes of an exception that it takes -/
def wKeep (K : PySem.W.Frag) (cs : List Value) (i : Nat) (ts : Addr → Value → Option Addr → TS) (D : Ends) : WX := fun cls d σ H =>
  PySem.W.exmAny K cls cs = some true ∧ ∀ a, H a = none → ts a cls d { nx := fun σ' H' => D.nx (σ'.set i none) (upd H' a (excHO a cls d)), rt := fun _ _ => False, bk := fun _ _ => False, ct := fun _ _ => False } (σ.set i (some (.ref a))) H
section
variable {X : Cx} {x1 x2 x3 x4 n : Str} {c1 c2 c3 c4 : Value} {i : Nat} {body suite : List Stmt} {b0 : Stmt} {p1 p2 p3 p4 tp pos pos2 : Pos} {kk : Nat} {tb : WX → TS} {ts : Addr → Value → Option Addr → TS}
theorem ps_try_keep4 (hs : X.stack = X.env :: X.outer) (hf : X.env.frame = some X.env.locals) (hN : X.N.Nodup) (hi : X.N[i]? = some n) (hln : X.env.kindOf n = some .local) (hex : X.ex = [])
    (g1 : Gl X x1) (m1 : X.mg x1 = some c1) (g2 : Gl X x2) (m2 : X.mg x2 = some c2) (g3 : Gl X x3) (m3 : X.mg x3 = some c3) (g4 : Gl X x4) (m4 : X.mg x4 = some c4)
    (hb : ∀ (W : WX) (pn : List (Addr × Obj)) (xe : Value → Shared → Prop), Takes (X.tr pn xe) W → PassesOwn (model X.prog X.w) X.A X.env xe → PSs (X.tr pn xe) body (tb W))
    (hsu : ∀ (a : Addr) (oe : Obj) (cls : Value) (d : Option Addr) (pn : List (Addr × Obj)), Zc cls d oe → (∃ vs, oe.data = .fields vs) → PSs (X.suite a ((a, oe) :: pn)) (b0 :: suite) (ts a cls d))
    (hd1 : (x1 == ("__debug__" : Str)) = false := by decide) (hd2 : (x2 == ("__debug__" : Str)) = false := by decide) (hd3 : (x3 == ("__debug__" : Str)) = false := by decide) (hd4 : (x4 == ("__debug__" : Str)) = false := by decide) :
    PS X (.Try body [.ExceptHandler (some (.Tuple [.Name x1 p1, .Name x2 p2, .Name x3 p3, .Name x4 p4] kk tp)) (some n) (b0 :: suite) pos2] [] [] pos) (fun D σ H => tb (wKeep X.K [c1, c2, c3, c4] i ts D) D σ H) := by
  refine ⟨fun pins s σ H D I h => ?_⟩
  have ok := I.ok
  have hfr : X.A.frames = some (X.env :: X.outer) := ok.frames.trans (congrArg some hs)
  refine wpAny_Try_except (wpAny_mono ((hb (wKeep X.K [c1, c2, c3, c4] i ts D) (X.pn ++ pins) (fun e sA => wpAny (model X.prog X.w) X.A (noteFrame e X.env) (fun _ sB => wpAny (model X.prog X.w) X.A (setFlight e none) (fun _ sC =>
    wpAny (model X.prog X.w) X.A (handleBy e X.env [.ExceptHandler (some (.Tuple [.Name x1 p1, .Name x2 p2, .Name x3 p3, .Name x4 p4] kk tp)) (some n) (b0 :: suite) pos2]) (SP X pins D) X.xe sC) X.xe sB) X.xe sA) (fun u sT xx => ?_) PassesOwn.looking).run [] s σ H D (I.toTry _) h) (fun fl sE hsp => ?_) (fun _ _ he => he))
  · obtain ⟨a, B, sI, pq, σI, HI, cls, d, rfl, JT, nb, up, sky, na, os, ag, hyes, go⟩ := xx
    have J : Inv X pins σI HI sI := JT.ofTry ok
    have skyX : Sky B (X.env :: X.outer) a (Zc cls d) X.env.locals sT.heap := hs ▸ sky
    show wpAny (model X.prog X.w) X.A (noteFrame (.ref a) X.env) _ _ _
    refine Sky.land Zc.steady hfr hf skyX fun hA flA upA => ?_
    have JA : Inv X pins σI HI { sT with heap := hA } := J.landed nb flA.1 (up.trans upA) os ag
    obtain ⟨oA, vA, getA, zA, dA⟩ := flA.there
    have nfr : a ∉ L2.frs (X.env :: X.outer) := fun hm => by
      obtain ⟨_, ob, eb, hnf⟩ := flA.2.2.1.mem hm
      have z := getA.symm.trans eb
      cases z
      exact hnf _ dA
    have nL : a ≠ X.env.locals := fun z => nfr (List.mem_filterMap.mpr ⟨X.env, List.mem_cons_self, hf.trans (congrArg some z.symm)⟩)
    have nF : a ∉ X.fs := fun hm => by
      obtain ⟨e, he, q⟩ := List.mem_filterMap.mp hm
      exact nfr (List.mem_filterMap.mpr ⟨e, List.mem_cons_of_mem _ he, q⟩)
    have noI : sI.heap.get? a = none := by
      cases q : sI.heap.get? a with
      | none => rfl
      | some ob =>
        have z := nb a ob q (by rw [hs]; exact nfr)
        rw [flA.2.1] at z
        cases z
    have no0 : X.s_0.heap.get? a = none := by
      cases q : X.s_0.heap.get? a with
      | none => rfl
      | some ob =>
        obtain ⟨ob2, z⟩ := J.base.there a ob q (by rw [hex]; exact List.not_mem_nil)
        rw [noI] at z
        cases z
    have npin : ∀ p ∈ X.pn ++ pins, p.1 ≠ a := fun p hp z => by
      have q := (J.pin p hp).1
      rw [z, noI] at q
      cases q
    have SA := JA.suite getA dA na nL nF
    refine wpAny_handleBy_cons (codeAny_handlers_test ?_) (by intro q; cases q)
    refine wpAny_Tuple_spliced (spliced_more (ld_glob (X := X.suite a ((a, oA) :: (X.pn ++ pins))) SA g1 m1 (spliced_more (ld_glob (X := X.suite a ((a, oA) :: (X.pn ++ pins))) SA g2 m2 (spliced_more (ld_glob (X := X.suite a ((a, oA) :: (X.pn ++ pins))) SA g3 m3 (spliced_more (ld_glob (X := X.suite a ((a, oA) :: (X.pn ++ pins))) SA g4 m4 (spliced_none ⟨(by decide : 4 ≤ sizeLine), ?_⟩) hd4)) hd3)) hd2)) hd1))
    have kP : ∀ b o, hA.get? b = some o → (hA.push { cls := .type "tuple", data := .seq [c1, c2, c3, c4].toArray }).get? b = some o := fun b o e => Heap.get?_push_of_some _ e
    have flB := fly_keep flA kP
    have getB := kP _ _ getA
    have LT : PySem.W.Looks (model X.prog X.w) (hA.push { cls := .type "tuple", data := .seq [c1, c2, c3, c4].toArray }) (typeOf (.ref a)) cls := fun A Q E s k q => wpAny_typeOf_ref (k _ _ getB) (by rw [zA.1]; exact q)
    have LM := PySem.W.exm_tup4 (M := model X.prog X.w) (JA.kIn.keeps kP) LT (Heap.get?_push_size _ rfl) hyes
    refine LM.here ?_
    refine codeAny_handlers_suite_as ?_
    refine HandSPX.lands_againZ flB fun hC flC upC => ?_
    have JC : Inv X pins σI HI { sT with heap := hC } := J.landed nb flC.1 (((up.trans upA).trans (upts_keep kP)).trans upC) os ag
    obtain ⟨oC, vC, getC, zC, dC⟩ := flC.there
    have SC := JC.suite getC dC na nL nF
    refine store_ok (X := X.suite a ((a, oC) :: (X.pn ++ pins))) (v := .ref a) SC hN hi (.inl hln) rfl (fun sD SD => ?_) (.inr hln)
    refine wpAny_mono ((hsu a oC cls d (X.pn ++ pins) zC ⟨_, dC⟩).run [] sD _ HI _ SD (go a na)) (fun fl sE hsp => ?_) (fun _ _ z => False.elim z)
    cases fl with
    | next =>
      obtain ⟨σE, HE, SE, qE⟩ := hsp
      have pE := SE.pin (a, oC) (List.mem_append_left _ (List.mem_cons_self ..))
      have JE := SE.unsuite ok
      have JP : Inv X ((a, oC) :: pins) σE HE sE := JE.pins_of fun p hp => by
        rcases List.mem_cons.mp hp with e | hp
        · rw [e]
          exact pE
        · exact JE.pin p (List.mem_append_right _ hp)
      refine gone_ok JP hN hi hln fun sF JF => ?_
      have JT2 := inv_track JF dC no0 npin
      rw [zC.1, zC.2] at JT2
      exact ⟨_, _, JT2, qE⟩
    | brk =>
      obtain ⟨_, _, _, q⟩ := hsp
      exact q.elim
    | cont =>
      obtain ⟨_, _, _, q⟩ := hsp
      exact q.elim
    | ret u =>
      obtain ⟨_, _, _, _, _, q⟩ := hsp
      exact q.elim
  · cases fl with
    | next =>
      obtain ⟨σ2, H2, J2, q⟩ := hsp
      exact wpAny_execs_nil ⟨σ2, H2, J2.ofTry ok, q⟩
    | brk =>
      obtain ⟨σ2, H2, J2, q⟩ := hsp
      exact ⟨σ2, H2, J2.ofTry ok, q⟩
    | cont =>
      obtain ⟨σ2, H2, J2, q⟩ := hsp
      exact ⟨σ2, H2, J2.ofTry ok, q⟩
    | ret u =>
      obtain ⟨v, σ2, H2, J2, r, q⟩ := hsp
      exact ⟨v, σ2, H2, J2.ofTry ok, r, q⟩
/-- X(), X an own exception class without an __init__ of its own -/
theorem pmk_own0 {C : Addr} {bmB : List Value} {B newId initId : String} {x : Str} {p : Pos} (F : ExcBaseFacts B newId initId bmB) (q : PySem.W.excIn X.K C bmB newId = true) (gC : X.mg x = some (.ref C)) (kC : PySem.W.keepIn X.K (.ref C) = true) (r : Raises X (.ref C)) (hg : Gl X x)
    (hdb : (x == ("__debug__" : Str)) = false := by decide) : PMk X (.Call (.Name x p) [] [] pos) (fun _ H Q => Q (.ref C) none H) := by
  intro pins s σ H Q I h
  refine wpAny_Call_Name_kw (ld_glob I hg gC ?_ hdb)
  refine PySem.W.callWith_K0 I.kIn kC ?_
  show wpAny _ _ (call (.ref C) []) _ _ _
  obtain ⟨bm, N, nm, qn, bs, hdct, sn, sub, ab, col, dd, k0, k1, k2, k3, k5, mN, hC, hNs, hni, T⟩ := exc_obj I.kIn q
  exact wpAny_call_exc_subT F T hC hNs hni (fun hE e hm => mk_of I hm r h (I.hok.gone hm.new)) (by show 0 ≤ sizeLine; exact Nat.zero_le _)
/-- isinstance(e, c), e an exception that is kept -/
def rIsK (K : PySem.W.Frag) (D : Addr) : List V → Hp → VK → Prop := fun xs H Q => ∃ (a : Addr) (c : V) (cv : Value) (b : Bool), xs = [.ref a, c] ∧ H a = some (excHO a (.ref D) none) ∧ ClsV c cv ∧ PySem.W.kitOne K (.ref D) cv = some b ∧ Q (.bl b) H
def rIsKT (K : PySem.W.Frag) (D : Addr) : List V → Hp → VK → Prop := fun xs H Q => ∃ (a tp : Addr) (cs : List V) (us : List Value) (b : Bool), xs = [.ref a, .ref tp] ∧ H a = some (excHO a (.ref D) none) ∧ H tp = some (.tup cs) ∧ Paired ClsV cs us ∧ PySem.W.kitAny K (.ref D) us = some b ∧ Q (.bl b) H
theorem exc_inst {P : Program} {w : World} {H : Hp} {h : Heap} {a D : Addr} (hk : HOk P w H h) (e : H a = some (excHO a (.ref D) none)) : ∃ oe, PySem.W.InstAt h a oe D none := by
  obtain ⟨⟨⟨oc, od, dt, sl⟩, vs, e1, e2, e3, e4⟩, _⟩ := hk a _ e
  dsimp only at e2 e3 e4
  subst e2 e3 e4
  exact ⟨_, e1, rfl, rfl, trivial⟩
theorem call_isK {D : Addr} (C : ExcC X.K D) : CallR X (.builtin "isinstance") (rIsK X.K D) := by
  intro pins s σ H xs us Q I r h
  obtain ⟨a, c, cv, b, rfl, ha, k, e, q⟩ := h
  obtain ⟨u1, u2, rfl, r1, r2⟩ := vals2 r
  have e2 := k.eq r2
  subst e2
  cases (show u1 = Value.ref a from r1)
  obtain ⟨oe, J⟩ := exc_inst I.hok ha
  exact PySem.W.kia_one (PySem.W.handS_kitx_exc C.hg C.hk C.hs C.hd C.ha C.hn C.ht C.hm) I.kIn J e (fun z => nomatch z) fun tk => ⟨.bl b, H, I.tok tk, rfl, q⟩
theorem call_isKT {D : Addr} (C : ExcC X.K D) : CallR X (.builtin "isinstance") (rIsKT X.K D) := by
  intro pins s σ H xs us Q I r h
  obtain ⟨a, tp2, cs, ws, b, rfl, ha, hT, k, e, q⟩ := h
  obtain ⟨u1, u2, rfl, r1, r2⟩ := vals2 r
  cases (show u1 = Value.ref a from r1)
  cases (show u2 = Value.ref tp2 from r2)
  obtain ⟨oe, J⟩ := exc_inst I.hok ha
  obtain ⟨_, its, rv, ⟨oc, od, dt, sl⟩, e1, e2, m, e3⟩ := (show ObjOk X.prog X.w H s.heap tp2 (.tup cs) from I.hok tp2 _ hT)
  have e4 := ClsV.all k rv
  subst e4
  simp only at e2 e3
  subst e2 e3
  exact PySem.W.kia_tup (PySem.W.handS_kitx_exc C.hg C.hk C.hs C.hd C.ha C.hn C.ht C.hm) I.kIn J e1 e (fun z => nomatch z) fun tk => ⟨.bl b, H, I.tok tk, rfl, q⟩
end
end Ep
namespace Ep
open PySem PySem.Spec PyProof.Rows L2
/-! ### tuples turned about, and once or not at all -/
section
variable {prog : Program} {w : World} {A : Around} {E : Value → Shared → Prop} {s : Shared}
theorem applied_back {sl : Addr} {vs : Value} {n : Nat} {Q : Int × Int × Nat → Shared → Prop} (hs : s.heap.IsSliceOf sl .none .none vs) (ps : IsPart vs (some (-1))) (h : Q ((n : Int) - 1, -1, n) s) :
    wpAny (model prog w) A (Builtin.Slice.sliceApplied (.ref sl) (pure (n : Int))) Q E s := by
  obtain ⟨ob, hob, _, hdt⟩ := id hs
  unfold Builtin.Slice.sliceApplied Builtin.Slice.sliceFields
  refine wpAny_bind (wpAny_bind (wpAny_field hob hdt (x := .none) rfl (wpAny_bind (wpAny_field hob hdt (x := .none) rfl (wpAny_bind (wpAny_field hob hdt (x := vs) rfl (wpAny_pure ?_)))))))
  refine wpAny_bind (HT.slicePart_ ps ?_)
  show wpAny _ _ (if ((-1 : Int) == 0) = true then _ else _) _ _ s
  rw [if_neg (by decide)]
  refine wpAny_bind (HT.slicePart_ .none (wpAny_bind (HT.slicePart_ .none (wpAny_bind (wpAny_pure (wpAny_pure ?_))))))
  have e : Builtin.Slice.slicePlaces ((n : Int) - 1) (-1) (-1) = n := by
    unfold Builtin.Slice.slicePlaces
    rw [if_neg (by decide)]
    by_cases h0 : (n : Int) - 1 > -1
    · rw [if_pos h0]
      have : ((n : Int) - 1 - -1 - 1) / (- -1) + 1 = (n : Int) := by
        rw [show (- -1 : Int) = 1 by decide, Int.ediv_one]
        omega
      rw [this]
      exact Int.toNat_natCast n
    · rw [if_neg h0]
      omega
  show Q ((n : Int) - 1, -1, Builtin.Slice.slicePlaces ((n : Int) - 1) (-1) (-1)) s
  rw [e]
  exact h
theorem pick_back (xs : Array Value) : ((List.range xs.size).filterMap fun (m : Nat) => xs[((xs.size : Int) - 1 + (m : Int) * -1).toNat]?) = xs.toList.reverse := by
  have e : (fun (m : Nat) => xs[((xs.size : Int) - 1 + (m : Int) * -1).toNat]?) = (fun (j : Nat) => xs[j]?) ∘ (fun (m : Nat) => xs.size - 1 - m) := by
    funext m
    show xs[((xs.size : Int) - 1 + (m : Int) * -1).toNat]? = xs[xs.size - 1 - m]?
    rw [show ((xs.size : Int) - 1 + (m : Int) * -1).toNat = xs.size - 1 - m by omega]
  rw [e, ← List.filterMap_map, PySem.W.krv_range, List.filterMap_reverse, PySem.W.krv_all]
theorem tuple_back {t sl : Addr} {items : Array Value} {vs : Value} {Q : Value → Shared → Prop} (ht : IsTup s.heap t items) (hs : s.heap.IsSliceOf sl .none .none vs) (ps : IsPart vs (some (-1)))
    (h : Q (.ref s.heap.objs.size) { s with heap := s.heap.push { cls := .type "tuple", data := .seq items.toList.reverse.toArray } }) (hsz : items.size ≤ sizeLine) : wpAny (model prog w) A (getItem (.ref t) (.ref sl)) Q E s := by
  have hfit : sizeOk (.seq items.toList.reverse.toArray) := by
    show items.toList.reverse.toArray.size ≤ sizeLine
    rw [List.size_toArray, List.length_reverse, Array.length_toList]
    exact hsz
  obtain ⟨ob, hob, hcl, hdt⟩ := id hs
  have hTs : s.TypeIs (.ref sl) "slice" := ⟨ob, hob, hcl⟩
  unfold getItem
  try with_reducible refine wpAny_holding ?_
  first | refine wpAny_bind (wpAny_pure ?_) | skip
  refine wpAny_bind (wpAny_sequenceKey ht.typeIs (by decide) (wpAny_bind (wpAny_callSpecial?_slot (name := Str.ofString "__getitem__") ht.typeIs PyProof.Rows.slot_tuple_getitem (wpAny_call_entry PyProof.Rows.slot_tuple_getitem ht.typeIs entry_tuple_getitem ?_ (args_tuple_getitem _ _)))))
  show wpAny _ _ (Builtin.Tuple.tupleItemsOf (.ref t) >>= _) _ _ s
  refine wpAny_bind (tupleItemsOf_ ht (wpAny_bind (wpAny_typeOf hTs ?_)))
  rw [if_pos (by decide)]
  refine wpAny_bind (applied_back hs ps ?_)
  show wpAny _ _ (if (((items.size : Int) - 1) == 0 && (-1 : Int) == 1 && items.size == items.size) = true then _ else _) _ _ s
  rw [if_neg (by simp), pick_back]
  first
    | exact wpAny_bind (m := Builtin.Tuple.tupleExact _) (wpAny_newObj_type (wpAny_pure ⟨_, rfl, wpAny_pure h⟩) hfit)
    | exact wpAny_bind (m := Builtin.Tuple.tupleExact _) (wpAny_newObj_type (wpAny_bind (wpAny_pure (wpAny_pure ⟨_, rfl, wpAny_pure h⟩))) hfit)
    | exact wpAny_bind (wpAny_bind (m := Builtin.Tuple.tupleExact _) (wpAny_newObj_type (wpAny_pure (wpAny_pure ⟨_, rfl, wpAny_pure h⟩)) hfit))
    | exact wpAny_bind (wpAny_bind (m := Builtin.Tuple.tupleExact _) (wpAny_newObj_type (wpAny_pure ⟨_, rfl, wpAny_pure h⟩) hfit))
end
section
variable {X : Cx}
def tRevT (K : PySem.W.Frag) (te : TE) : TE := fun σ H Q => te σ H fun x H1 => ∃ ds, Dp K H1 x (.tuple ds) ∧ ∀ (v : V) (H' : Hp), Same H1 H' → Dp K H' v (.tuple ds.reverse) → Q v H'
theorem pe_revT {e : Expr} {te : TE} {k : Nat} {p1 p2 p3 pos : Pos} (he : PE X e te) : PE X (.Subscript e (.Slice none none (some (.UnaryOp .USub (.Constant (.int 1) k p1) p2)) p3) pos) (tRevT X.K te) := by
  refine ⟨fun pins s σ H Q I h => ?_⟩
  refine Subscript_ (thn (he.run pins s σ H _ I h) fun v sA ⟨x, HA, IA, rA, ds, dd, q⟩ => ?_)
  obtain ⟨a, xs, rfl, hx, hxs⟩ := dp_tup dd
  cases rA
  have hst : PO X (some (.UnaryOp .USub (.Constant (.int 1) k p1) p2)) (tPart (tUn (rU fun i => .int (-i)) (tC (.int 1)))) := po_some (pe_un un_neg pe_int)
  refine wpAny_Slice (thn (po_none.run pins sA σ HA (fun o HB => o = none ∧ HB = HA) IA ⟨rfl, rfl⟩) fun vl sB ⟨lo, HB, IB, pl, el, eB⟩ => ?_)
  subst el eB
  refine thn (po_none.run pins sB σ HB (fun o HC => o = none ∧ HC = HB) IB ⟨rfl, rfl⟩) fun vu sC ⟨hi, HC, IC, pu, eu, eC⟩ => ?_
  subst eu eC
  refine thn (hst.run pins sC σ HC (fun o HD => o = some (-1) ∧ HD = HC) IC ⟨1, rfl, -1, rfl, rfl, rfl⟩) fun vs sD ⟨o, HD, ID, pst, eo, eD⟩ => ?_
  subst eo eD
  have IE : Inv X pins σ HD { sD with heap := sD.heap.push { cls := .type "slice", data := .fields #[vl, vu, vs] } } := ID.kept (t' := sD.toks) fun b ob q => Heap.get?_push_of_some _ q
  obtain ⟨its, r, ht, hz⟩ := IE.tuple hx
  have hlen := r.length
  cases pl
  cases pu
  show wpAny (model X.prog X.w) X.A (subscriptTail e (.Slice none none (some (.UnaryOp .USub (.Constant (.int 1) k p1) p2)) p3) (.ref a) (.ref sD.heap.objs.size)) (EP X pins σ Q) X.xe { sD with heap := sD.heap.push { cls := .type "slice", data := .fields #[.none, .none, vs] } }
  refine tail_any (ops := [.ref a, .ref sD.heap.objs.size]) ht.typeIs PyProof.Rows.slot_tuple_getitem.lookup ?_ (by with_unfolding_all rfl)
  refine tuple_back ht (Heap.IsSliceOf.new _ .none .none vs) pst ?_ (by rw [List.size_toArray]; omega)
  have fresh := IE.hok.fresh (Nat.le_refl _)
  refine ⟨.ref _, _, IE.laid (t' := sD.toks) (o := .tup xs.reverse) (fun b ob q => Heap.get?_push_of_some _ q) (Nat.le_refl _) ?_, rfl, q _ _ (same_upd fresh) (new_tup fresh (dps_rev hxs))⟩
  exact ⟨by rw [List.length_reverse]; exact hz, its.reverse, r.reverse, IsTup.new _ _⟩
/-! ### a tuple once, or not at all -/
theorem tuple_once (l : Addr) (items : Array Value) (n : Nat) (dd : Option Addr) (sl : Array (Option Value)) (u : Tok) :
    Meets (Builtin.«tuple.__mul__» ⟨[.ref l, .int 1 u], []⟩) (fun _ R s => s.heap.get? l = some { cls := .type "tuple", dict := dd, data := .seq items n, slots := sl } ∧ R (.ok (.ret (Value.ref l))) s) :=
  .of_wp fun prog w A R s h => by
    obtain ⟨hp, g, d, tk, os⟩ := s
    obtain ⟨hl, h⟩ := h
    have f1 := AutoSeq1.idx_int
    wp_walk using AutoSeq1.wpAny_loadPart' hl
    exact ⟨_, rfl, h⟩
theorem tuple_none (l : Addr) (items : Array Value) (n : Nat) (dd : Option Addr) (sl : Array (Option Value)) (u : Tok) (hne : items.isEmpty = false) :
    Meets (Builtin.«tuple.__mul__» ⟨[.ref l, .int 0 u], []⟩) (fun _ R s => s.heap.get? l = some { cls := .type "tuple", dict := dd, data := .seq items n, slots := sl } ∧
      R (.ok (.ret (Value.ref s.heap.objs.size))) { s with heap := s.heap.push { cls := Value.type "tuple", data := Data.seq #[] }, toks := s.toks }) :=
  .of_wp fun prog w A R s h => by
    obtain ⟨hp, g, d, tk, os⟩ := s
    obtain ⟨hl, h⟩ := h
    have f1 := AutoSeq1.idx_int
    have c1 : (items.isEmpty || (0 : Int) == 1) = false := by
      rw [hne]
      rfl
    wp_walk using AutoSeq1.wpAny_loadPart' hl
    repeat (first
      | (refine wpAny_ite_false (decide_eq_false (by rw [c1]; exact Bool.false_ne_true)) ?_; wp_walk using AutoSeq1.wpAny_loadPart' hl))
    exact ⟨_, rfl, h⟩
/-- t * 0, t * 1, t not empty -/
def rRep01 (K : PySem.W.Frag) : R2 := fun x y H Q => ∃ (k : Int) (ds : List PyData), y = .int k ∧ Dp K H x (.tuple ds) ∧ ds ≠ [] ∧ (k = 0 ∨ k = 1) ∧ ∀ (v : V) (H' : Hp), Same H H' → Dp K H' v (.tuple (if k = 0 then [] else ds)) → Q v H'
theorem op_rep01 : OpR X (binaryOp .Mult) (rRep01 X.K) := by
  intro pins s σ H x y v u Q I rx ry h
  obtain ⟨k, ds, rfl, dd, hne, hk, q⟩ := h
  obtain ⟨l, xs, rfl, hT, hxs⟩ := dp_tup dd
  cases rx
  obtain ⟨t, rfl⟩ := ry
  obtain ⟨its, r, ⟨⟨cls, di, data, sl⟩, ho, hc, n, hd⟩, hs⟩ := I.tuple hT
  simp only at hc hd
  subst hc hd
  have hi : its.toArray.isEmpty = false := by
    cases its with
    | nil =>
      cases r
      cases hxs
      exact absurd rfl hne
    | cons a b => rfl
  rcases hk with rfl | rfl
  · refine wpAny_binaryOp_repeat_ref (T := "tuple") (U := "int") (by decide) ⟨_, ho, rfl⟩ (fun s2 => typeIs_int s2 0 t) noFill_tuple_mul F.fills_int_mul F.slot_int_rmul repeat_tuple F.slot_int_index.lookup
      (call_meets F.slot_int_rmul (typeIs_int s 0 t) F.entry_int_rmul (F.args_int_rmul_2 _ _) (int_rmul_tuple 0 t l its.toArray n di sl) ⟨ho, rfl, ⟨_, ho, rfl⟩, call_meets F.slot_tuple_mul ⟨_, ho, rfl⟩ F.entry_tuple_mul (F.args_tuple_mul_2 _ _) (tuple_none l its.toArray n di sl t hi) ⟨ho, ?_⟩⟩)
    have fresh := I.hok.fresh (Nat.le_refl _)
    refine ⟨.ref s.heap.objs.size, _, I.laid (t' := s.toks) (o := .tup []) (fun b ob q => Heap.get?_push_of_some _ q) (Nat.le_refl _) ⟨Nat.zero_le _, [], .nil, IsTup.new _ _⟩, rfl, q _ _ (same_upd fresh) ?_⟩
    exact new_tup fresh .nil
  · refine wpAny_binaryOp_repeat_ref (T := "tuple") (U := "int") (by decide) ⟨_, ho, rfl⟩ (fun s2 => typeIs_int s2 1 t) noFill_tuple_mul F.fills_int_mul F.slot_int_rmul repeat_tuple F.slot_int_index.lookup
      (call_meets F.slot_int_rmul (typeIs_int s 1 t) F.entry_int_rmul (F.args_int_rmul_2 _ _) (int_rmul_tuple 1 t l its.toArray n di sl) ⟨ho, rfl, ⟨_, ho, rfl⟩, call_meets F.slot_tuple_mul ⟨_, ho, rfl⟩ F.entry_tuple_mul (F.args_tuple_mul_2 _ _) (tuple_once l its.toArray n di sl t) ⟨ho, ?_⟩⟩)
    exact ⟨.ref l, H, I, rfl, q _ _ (Same.refl H) dd⟩
end
end Ep
namespace Ep
open PySem PySem.Spec PyProof.Rows L2
/-! ### cells of the script, the box, a draw -/
def topS (i : Nat) : Stmt := PySem.Challenge.pw_echopanes_k02_rows_trimmed_and_turned_ab.main.body.getD i (.Pass ⟨0, 0, 0, 0⟩)
abbrev sCell : Stmt := topS 15
abbrev sBox : Stmt := topS 16
abbrev sTake : Stmt := topS 17
abbrev sOf : Stmt := topS 18
theorem scCell : FnScope ["_law_script", "_law_k"] ["_law_script", "_law_k"] (defScope sCell) := ⟨rfl, rfl, rfl, by decide +kernel, rfl, by decide +kernel, by decide +kernel⟩
theorem scBox : FnScope ["_law_script", "_law_k", "_law_core"] ["_law_script", "_law_k"] (defScope sBox) := ⟨rfl, rfl, rfl, by decide +kernel, rfl, by decide +kernel, by decide +kernel⟩
theorem scTake : FnScope ["_law_box_here", "_law_size", "_law_found", "_law_once", "_law_twice"] ["_law_box_here", "_law_size"] (defScope sTake) := ⟨rfl, rfl, rfl, by decide +kernel, rfl, by decide +kernel, by decide +kernel⟩
theorem scOf : FnScope ["_law_box_here", "_law_some"] ["_law_box_here", "_law_some"] (defScope sOf) := ⟨rfl, rfl, rfl, by decide +kernel, rfl, by decide +kernel, by decide +kernel⟩
def spCell (K : PySem.W.Frag) : Sp := fun vs H Q _ => ∃ (a : Addr) (k : Int) (ns : List Int), vs = [.ref a, .int k] ∧ SqL K H a (ns.map V.int) ∧ 0 ≤ k ∧ ∀ c : Int, Q (.int c) H
def spBox (K : PySem.W.Frag) : Sp := fun vs H Q _ => ∃ (a : Addr) (k : Int) (ns : List Int), vs = [.ref a, .int k] ∧ SqL K H a (ns.map V.int) ∧ 0 ≤ k ∧ k ≤ 63 ∧ ∀ (p : Addr) (H' : Hp), H p = none → Same H H' → Bx H' p 0 → Q (.ref p) H'
def spTake : Sp := fun vs H Q _ => ∃ (p : Addr) (z : Int) (n : Nat), vs = [.ref p, .int z] ∧ Bx H p n ∧ n < 1000000 ∧ 0 < z ∧ z < 1000000 ∧
  ∀ (r : Int) (H' : Hp), 0 ≤ r → r < z → Chg p H H' → Bx H' p (n + 1) → Q (.int r) H'
def spOf (K : PySem.W.Frag) : Sp := fun vs H Q _ => ∃ (p l : Addr) (xs : List V) (n : Nat), vs = [.ref p, .ref l] ∧ Bx H p n ∧ n < 1000000 ∧ H l = some (.lst xs) ∧ l ≠ p ∧ xs ≠ [] ∧ xs.length < 1000 ∧
  ∀ (v : V) (H' : Hp), v ∈ xs → Chg p H H' → Bx H' p (n + 1) → Q v H'
section
variable {P : Program} {w : World} {K : PySem.W.Frag} {mg : Str → Option Value} {base : Heap}
theorem ok_cell {f : Addr} {fd : FuncData} {k : Nat} (F : Fun K "_law_cell_at" "_law_cell_at" sCell f fd) (ml : mg "len" = none) : FnOk P w K mg base CX0 (k + 1) f fd ["_law_script", "_law_k"] (spCell K) := by
  refine F.ok scCell (fun vs H Q E h => ?_) (fun cdv A outer s H vs Q E hr h => ?_)
  · obtain ⟨a, k, ns, rfl, _⟩ := h
    rfl
  · obtain ⟨a, k, ns, rfl, hS, hk, q⟩ := h
    refine ⟨_, pss_cons (ps_if (pt_cmpR op_lt (pv 1) (pe_callB call_len_seq (by rfl) ml PySem.boot_len (pa_cons (pv 0) pa_nil)) (nomark _)) (pss_one (ps_ret (pe_ix ix_list (pv 0) (pv 1) (fun _ _ => rfl)))) pss_nil) (pss_one (ps_ret pe_int)), ?_⟩
    refine ⟨.int k, rfl, .ref a, rfl, a, _, rfl, .inl hS, _, _, rfl, rfl, _, rfl, ite2 (fun e => ?_) (fun e => ?_)⟩
    · have e1 : k < ((ns.map V.int).length : Int) := of_decide_eq_true e
      rw [List.length_map] at e1
      have hlt : k.toNat < ns.length := by omega
      refine ⟨.ref a, rfl, .int k, rfl, a, _, _, .int ns[k.toNat], rfl, rfl, hS, ?_, q _⟩
      refine at_of (j := k.toNat) (by omega) ?_
      rw [List.getElem?_map, List.getElem?_eq_getElem hlt]
      rfl
    · exact q 0
theorem ok_box {f fC : Addr} {fd fdC : FuncData} {k : Nat} (F : Fun K "_law_box" "_law_box" sBox f fd) (FC : Fun K "_law_cell_at" "_law_cell_at" sCell fC fdC) (bC : Binds K fdC ["_law_script", "_law_k"] []) (gC : mg "_law_cell_at" = some (.ref fC))
    (ml : mg "len" = none) (ma : mg "abs" = none) (mi : mg "int" = none) : FnOk P w K mg base CX0 (k + 2) f fd ["_law_script", "_law_k"] (spBox K) := by
  have GC : FnOk P w K mg base CX0 (k + 1) fC fdC ["_law_script", "_law_k"] (spCell K) := ok_cell FC ml
  refine F.ok scBox (fun vs H Q E h => ?_) (fun cdv A outer s H vs Q E hr h => ?_)
  · obtain ⟨a, k, ns, rfl, _⟩ := h
    rfl
  · obtain ⟨a, k, ns, rfl, hS, hk, hk2, q⟩ := h
    refine ⟨_, pss_cons (ps_set (i := 2) scBox.nd rfl (.inl rfl) (pe_call GC hr (by rfl) gC FC.kp bC .nil pass0 (pa_cons (pv 0) (pa_cons (pv 1) pa_nil))))
      (pss_one (ps_ret (pe_lst (pa_cons (pe_op op_mul (pe_callB call_abs (by rfl) ma (by decide +kernel) (pa_cons (pv 2) pa_nil)) (pe_callTy call_int1 (by rfl) mi PyProof.Rows.boot_int (pa_cons (pe_cmpR op_ge (pe_callB call_abs (by rfl) ma (by decide +kernel) (pa_cons (pv 2) pa_nil)) (pe_op op_pow pe_int pe_int) (nomark _)) pa_nil)))
        (pa_cons (pe_op op_add (pe_op op_add (pe_op op_mod (pv 2) pe_int) (pe_op op_mul pe_int (pv 1))) pe_int) (pa_cons pe_int pa_nil)))))), ?_⟩
    refine ⟨.ref a, rfl, .int k, rfl, a, k, ns, rfl, hS, hk, fun c => ?_⟩
    refine ⟨.int c, rfl, c, rfl, .int c, rfl, c, rfl, 10, 18, rfl, rfl, ⟨by decide, by decide, by decide⟩, _, _, rfl, rfl, .inr ⟨_, rfl, _, _, rfl, rfl, .inr ?_, ?_⟩⟩
    · split <;> split <;> decide
    · refine ⟨.int c, rfl, _, _, rfl, rfl, (by decide : (0 : Int) < 2305843009213693951), .int k, rfl, _, _, rfl, rfl, .inl ⟨by decide, by decide⟩, _, _, rfl, rfl, _, _, rfl, rfl, (by decide : 3 ≤ sizeLine), fun p hp => ?_⟩
      refine q p _ hp (same_upd hp) ⟨_, _, _, upd_same, ?_, ?_, ?_, Int.le_refl _, Int.le_refl _⟩
      · split <;> split <;> omega
      · omega
      · omega
theorem ok_take {f : Addr} {fd : FuncData} {k : Nat} (F : Fun K "_law_take" "_law_take" sTake f fd) : FnOk P w K mg base CX0 (k + 1) f fd ["_law_box_here", "_law_size"] spTake := by
  refine F.ok scTake (fun vs H Q E h => ?_) (fun cdv A outer s H vs Q E hr h => ?_)
  · obtain ⟨p, z, n, rfl, _⟩ := h
    rfl
  · obtain ⟨p, z, n, rfl, hb, hn, hz, hz2, q⟩ := h
    obtain ⟨x, y, c, hp, hx, hy, hy2, hc, hcn⟩ := hb.ex
    refine ⟨_, pss_cons (ps_if (pt_cmpR op_gt (pe_ix ix_list (pv 0) pe_int (fun _ _ => rfl)) pe_int (nomark _))
        (pss_cons (ps_set (i := 2) scTake.nd rfl (.inl rfl) (pe_op op_mod (pe_ix ix_list (pv 0) pe_int (fun _ _ => rfl)) (pv 1)))
        (pss_cons (ps_asg (pe_op op_fdiv (pe_ix ix_list (pv 0) pe_int (fun _ _ => rfl)) (pv 1)) (pg_sub (pv 0) pe_int set_list))
        (pss_one (ps_ret (pv 2))))) pss_nil)
      (pss_cons (ps_asg (pe_op op_add (pe_ix ix_list (pv 0) pe_int (fun _ _ => rfl)) pe_int) (pg_sub (pv 0) pe_int set_list))
      (pss_cons (ps_set (i := 3) scTake.nd rfl (.inl rfl) (pe_op op_mod (pe_op op_mul (pe_op op_add (pe_ix ix_list (pv 0) pe_int (fun _ _ => rfl)) (pe_op op_mul pe_int (pe_ix ix_list (pv 0) pe_int (fun _ _ => rfl)))) (pe_op op_add pe_int (pe_ix ix_list (pv 0) pe_int (fun _ _ => rfl)))) pe_int))
      (pss_cons (ps_set (i := 4) scTake.nd rfl (.inl rfl) (pe_op op_mod (pe_op op_mul (pe_op op_add (pe_op op_add (pv 3) (pe_ix ix_list (pv 0) pe_int (fun _ _ => rfl))) (pe_op op_fdiv (pe_ix ix_list (pv 0) pe_int (fun _ _ => rfl)) pe_int)) (pe_op op_add (pe_op op_mod (pv 3) pe_int) pe_int)) pe_int))
      (pss_one (ps_ret (pe_op op_mod (pe_op op_fdiv (pe_op op_mod (pe_op op_add (pe_op op_mul (pv 4) pe_int) (pv 3)) pe_int) pe_int) (pv 1))))))), ?_⟩
    refine ⟨.ref p, rfl, p, _, 0, _, rfl, rfl, SqL.of hp, atI_nat (j := 0) rfl, _, _, rfl, rfl, _, rfl, ite2 (fun e => ?_) (fun e => ?_)⟩
    · -- the great number
      refine ⟨.ref p, rfl, p, _, 0, _, rfl, rfl, SqL.of hp, atI_nat (j := 0) rfl, .int z, rfl, _, _, rfl, rfl, hz, ?_⟩
      refine ⟨.ref p, rfl, p, _, 0, _, rfl, rfl, SqL.of hp, atI_nat (j := 0) rfl, .int z, rfl, _, _, rfl, rfl, ⟨hz, by omega⟩, ?_⟩
      refine ⟨.ref p, rfl, p, _, 0, 0, rfl, rfl, hp, rfl, ?_⟩
      refine ⟨_, rfl, q _ _ (Int.emod_nonneg _ (by omega)) (Int.emod_lt_of_pos _ hz) chg_upd ⟨_, _, _, upd_same, Int.ediv_nonneg hx (by omega), hy, hy2, hc, by omega⟩⟩
    · refine ⟨.ref p, rfl, p, _, 2, _, rfl, rfl, SqL.of hp, atI_nat (j := 2) rfl, _, _, rfl, rfl, .ref p, rfl, p, _, 2, 2, rfl, rfl, hp, rfl, ?_⟩
      have hp2 : (upd H p (.lst [.int x, .int y, .int (c + 1)])) p = some (.lst [.int x, .int y, .int (c + 1)]) := upd_same
      refine ⟨.ref p, rfl, p, _, 1, _, rfl, rfl, SqL.of hp2, atI_nat (j := 1) rfl, .ref p, rfl, p, _, 2, _, rfl, rfl, SqL.of hp2, atI_nat (j := 2) rfl, _, _, rfl, rfl, .inl ⟨by decide, by decide⟩, _, _, rfl, rfl,
        .ref p, rfl, p, _, 2, _, rfl, rfl, SqL.of hp2, atI_nat (j := 2) rfl, _, _, rfl, rfl, _, _, rfl, rfl, .inl ⟨by omega, by omega⟩, _, _, rfl, rfl, (by decide : (0 : Int) < 2147483647), ?_⟩
      generalize e1 : (y + 48271 * (c + 1)) * (39373 + (c + 1)) % 2147483647 = o
      have ho : 0 ≤ o ∧ o < 2147483647 := by omega
      refine ⟨_, rfl, .ref p, rfl, p, _, 2, _, rfl, rfl, SqL.of hp2, atI_nat (j := 2) rfl, _, _, rfl, rfl, .ref p, rfl, p, _, 1, _, rfl, rfl, SqL.of hp2, atI_nat (j := 1) rfl, _, _, rfl, rfl, ⟨by decide, by decide⟩, _, _, rfl, rfl,
        _, rfl, _, _, rfl, rfl, (by decide : (0 : Int) < 40009), _, _, rfl, rfl, _, _, rfl, rfl, .inl ⟨by omega, by omega⟩, _, _, rfl, rfl, (by decide : (0 : Int) < 2147483629), ?_⟩
      generalize e2 : (o + (c + 1) + y / 1000003) * (o % 40009 + 7) % 2147483629 = o2
      have ho2 : 0 ≤ o2 ∧ o2 < 2147483629 := by omega
      refine ⟨_, rfl, _, _, rfl, rfl, .inl ⟨by omega, by omega⟩, _, rfl, _, _, rfl, rfl, _, _, rfl, rfl, (by decide : (0 : Int) < 2147483587), _, _, rfl, rfl, ⟨by decide, by decide⟩, .int z, rfl, _, _, rfl, rfl, hz, ?_⟩
      exact q _ _ (Int.emod_nonneg _ (by omega)) (Int.emod_lt_of_pos _ hz) chg_upd ⟨_, _, _, hp2, hx, hy, hy2, by omega, by omega⟩
theorem ok_of {f fT : Addr} {fd fdT : FuncData} {k : Nat} (F : Fun K "_law_of" "_law_of" sOf f fd) (FT : Fun K "_law_take" "_law_take" sTake fT fdT) (bT : Binds K fdT ["_law_box_here", "_law_size"] []) (gT : mg "_law_take" = some (.ref fT))
    (ml : mg "len" = none) : FnOk P w K mg base CX0 (k + 2) f fd ["_law_box_here", "_law_some"] (spOf K) := by
  have GT : FnOk P w K mg base CX0 (k + 1) fT fdT ["_law_box_here", "_law_size"] spTake := ok_take FT
  refine F.ok scOf (fun vs H Q E h => ?_) (fun cdv A outer s H vs Q E hr h => ?_)
  · obtain ⟨p, l, xs, n, rfl, _⟩ := h
    rfl
  · obtain ⟨p, l, xs, n, rfl, hb, hn, hl, hlp, hne, hlen, q⟩ := h
    have hpos : 0 < xs.length := List.length_pos_iff.mpr hne
    refine ⟨_, pss_one (ps_ret (pe_ix ix_list (pv 1) (pe_call GT hr (by rfl) gT FT.kp bT .nil pass0 (pa_cons (pv 0) (pa_cons (pe_callB call_len_seq (by rfl) ml PySem.boot_len (pa_cons (pv 1) pa_nil)) pa_nil))) (fun _ _ => rfl))), ?_⟩
    refine ⟨.ref l, rfl, .ref p, rfl, .ref l, rfl, l, _, rfl, .inl (SqL.of hl), p, _, n, rfl, hb, hn, by omega, by omega, fun r H' h0 h1 c b => ?_⟩
    have hlt : r.toNat < xs.length := by omega
    refine ⟨l, _, _, xs[r.toNat], rfl, rfl, SqL.of (c _ _ hlp hl), at_of (j := r.toNat) (by omega) (List.getElem?_eq_getElem hlt), q _ _ (List.getElem_mem hlt) c b⟩
end
/-! ### FRACTIONs by the program and by the law's own sums -/
abbrev sFrac : Stmt := topS 20
theorem scFrac : FnScope ["_law_top", "_law_under", "_law_big", "_law_small", "_law_sign"] ["_law_top", "_law_under"] (defScope sFrac) := ⟨rfl, rfl, rfl, by decide +kernel, rfl, by decide +kernel, by decide +kernel⟩
/-- a FRACTION of two whole numbers is told, as a new pair -/
def spFrac (K : PySem.W.Frag) : Sp := fun vs H Q _ => ∃ (t u : Int) (b : Nat), vs = [.int t, .int u] ∧ 0 < u ∧ t.natAbs < 2 ^ b ∧ u.natAbs < 2 ^ b ∧ 0 < b ∧ b ≤ 9000 ∧
  ∀ (v : V) (H' : Hp), Same H H' → Dp K H' v (frD (Rat.divInt t u)) → Q v H'
section
variable {P : Program} {w : World} {K : PySem.W.Frag} {mg : Str → Option Value} {base : Heap}
theorem abs_gcd (a b : Int) : Int.gcd (if a < 0 then -a else a) (if b < 0 then -b else b) = Int.gcd a b := by
  unfold Int.gcd
  congr 1 <;> split <;> omega
theorem g_le {t u : Int} {b : Nat} (hu : 0 < u) (h : u.natAbs < 2 ^ b) : (Int.gcd t u : Int).natAbs < 2 ^ b := by
  have : Int.gcd t u ≤ u.natAbs := Int.gcd_le_natAbs_right t (by omega)
  omega
theorem ok_frac {f : Addr} {fd : FuncData} {k : Nat} (F : Fun K "_law_frac" "_law_frac" sFrac f fd) (ma : mg "abs" = none) : FnOk P w K mg base CX0 (k + 1) f fd ["_law_top", "_law_under"] (spFrac K) := by
  refine F.ok scFrac (fun vs H Q E h => ?_) (fun cdv A outer s H vs Q E hr h => ?_)
  · obtain ⟨t, u, b, rfl, _⟩ := h
    rfl
  · obtain ⟨t, u, b, rfl, hu, ht, hub, hb0, hb9, q⟩ := h
    refine ⟨_, pss_cons (ps_par (by rfl) scFrac.nd (i := 2) (j := 3) rfl rfl (by decide) rfl rfl (pa_cons (pe_callB call_abs (by rfl) ma (by decide +kernel) (pa_cons (pv 0) pa_nil)) (pa_cons (pe_callB call_abs (by rfl) ma (by decide +kernel) (pa_cons (pv 1) pa_nil)) pa_nil)) (by rfl))
      (pss_cons (ps_while PassesOwn.never (pt_cmpR op_gt (pv 3) pe_int (nomark _)) (pss_one (ps_par (by rfl) scFrac.nd (i := 2) (j := 3) rfl rfl (by decide) rfl rfl (pa_cons (pv 3) (pa_cons (pe_op op_mod (pv 2) (pv 3)) pa_nil)) (by rfl))))
      (pss_cons (ps_set (i := 4) scFrac.nd rfl (.inl rfl) (pe_ifExp (pt_cmpR op_gt (pv 1) pe_int (nomark _)) pe_int (pe_un un_neg pe_int)))
      (pss_one (ps_ret (pe_tup (pa_cons (pe_op op_fdivW (pe_op op_mul (pv 4) (pv 0)) (pv 2)) (pa_cons (pe_op op_fdivW (pe_callB call_abs (by rfl) ma (by decide +kernel) (pa_cons (pv 1) pa_nil)) (pv 2)) pa_nil))))))), ?_⟩
    refine ⟨.int t, rfl, t, rfl, .int u, rfl, u, rfl, _, _, rfl, ?_⟩
    refine ⟨fun m σ H1 => ∃ x y : Int, σ = [some (.int t), some (.int u), some (.int x), some (.int y), none] ∧ 0 ≤ x ∧ 0 ≤ y ∧ Int.gcd x y = Int.gcd t u ∧ H1 = H ∧ m = y.toNat,
      ⟨_, _, _, rfl, ?_, ?_, abs_gcd t u, rfl, rfl⟩, ?_⟩
    · split <;> omega
    · split <;> omega
    · rintro m σ H1 ⟨x, y, rfl, hx, hy, hg, rfl, rfl⟩
      refine ⟨.int y, rfl, _, _, rfl, rfl, _, rfl, ite2 (fun e => ?_) (fun e => ?_)⟩
      · have e1 : 0 < y := of_decide_eq_true e
        have m1 := Int.emod_nonneg x (show y ≠ 0 by omega)
        have m2 := Int.emod_lt_of_pos x e1
        refine ⟨fun σ' H' => ∃ x' y' : Int, σ' = [some (.int t), some (.int u), some (.int x'), some (.int y'), none] ∧ 0 ≤ x' ∧ 0 ≤ y' ∧ Int.gcd x' y' = Int.gcd t u ∧ H' = H1 ∧ y' < y, fun σ' H' hN => ?_, ?_⟩
        · obtain ⟨x', y', e2, h1, h2, h3, h4, h5⟩ := hN
          exact ⟨y'.toNat, by omega, x', y', e2, h1, h2, h3, h4, rfl⟩
        · refine ⟨.int y, rfl, .int x, rfl, .int y, rfl, _, _, rfl, rfl, e1, _, _, rfl, y, x % y, rfl, hy, m1, ?_, rfl, m2⟩
          rw [gcd_emod x y (by omega)]
          exact hg
      · have e1 : ¬ 0 < y := fun z => e (decide_eq_true z)
        have y0 : y = 0 := by omega
        subst y0
        have ex : x = (Int.gcd t u : Int) := by
          rw [← hg, Int.gcd_zero_right]
          omega
        subst ex
        have hgp := gcd_pos (t := t) hu
        have hg1 := g_le (t := t) hu hub
        refine ⟨.int u, rfl, _, _, rfl, rfl, _, rfl, ite2 (fun _ => ?_) (fun z => absurd (decide_eq_true hu) z)⟩
        refine ⟨_, rfl, .int t, rfl, _, _, rfl, rfl, .inl ⟨by decide, by decide⟩, _, rfl, _, _, rfl, rfl, wide_div (by omega) hg1 hb0 hb9, .int u, rfl, u, rfl, _, rfl, _, _, rfl, rfl, wide_div (by omega) hg1 hb0 hb9, (by decide : 2 ≤ sizeLine), fun p hp => ?_⟩
        refine q _ _ (same_upd hp) (dp_fr_mk (SqT.of ?_))
        rw [upd_same, if_neg (by omega), fr_num hu, fr_den hu, Int.one_mul]
end
abbrev sCommon : Stmt := topS 7
abbrev sFraction : Stmt := topS 8
theorem scCommon : FnScope ["one", "other"] ["one", "other"] (defScope sCommon) := ⟨rfl, rfl, rfl, by decide +kernel, rfl, by decide +kernel, by decide +kernel⟩
theorem scFraction : FnScope ["top", "bottom", "part"] ["top", "bottom"] (defScope sFraction) := ⟨rfl, rfl, rfl, by decide +kernel, rfl, by decide +kernel, by decide +kernel⟩
def spCommon : Sp := fun vs H Q _ => ∃ (t u : Int), vs = [.int t, .int u] ∧ Q (.int (Int.gcd t u : Int)) H
/-- of two FRACTIONs a third one, as a new pair: r says which, C what is asked, z how many bits it has -/
def spTwo (K : PySem.W.Frag) (r : Rat → Rat → Rat) (C : Rat → Prop) : Sp := fun vs H Q _ => ∃ (x y : V) (q1 q2 : Rat) (a b : Nat), vs = [x, y] ∧ Dp K H x (frD q1) ∧ Dp K H y (frD q2) ∧ Sz a q1 ∧ Sz b q2 ∧ a + b < 9000 ∧ C q2 ∧
  ∀ (v : V) (H' : Hp), Same H H' → Dp K H' v (frD (r q1 q2)) → Q v H'
section
variable {P : Program} {w : World} {K : PySem.W.Frag} {mg : Str → Option Value} {base : Heap}
theorem fmod_small (x : Int) {y : Int} (h : y ≠ 0) : (x.fmod y).natAbs < y.natAbs := by
  rw [Int.fmod_eq_emod]
  have a1 := Int.emod_nonneg x h
  have a2 := Int.emod_lt x h
  split
  · omega
  · rename_i z
    have z2 : ¬ y ∣ x := fun w => z (Or.inr w)
    have z3 : x % y ≠ 0 := fun w => z2 (Int.dvd_of_emod_eq_zero w)
    omega
theorem ok_common {f : Addr} {fd : FuncData} {k : Nat} (F : Fun K "common_part" "common_part" sCommon f fd) (ma : mg "abs" = none) : FnOk P w K mg base CX0 (k + 1) f fd ["one", "other"] spCommon := by
  refine F.ok scCommon (fun vs H Q E h => ?_) (fun cdv A outer s H vs Q E hr h => ?_)
  · obtain ⟨t, u, rfl, _⟩ := h
    rfl
  · obtain ⟨t, u, rfl, q⟩ := h
    refine ⟨_, pss_cons (ps_while PassesOwn.never (pt_truth (pv 1) (by intro _; rfl)) (pss_one (ps_par (by rfl) scCommon.nd (i := 0) (j := 1) rfl rfl (by decide) rfl rfl (pa_cons (pv 1) (pa_cons (pe_op op_modN (pv 0) (pv 1)) pa_nil)) (by rfl))))
      (pss_one (ps_ret (pe_callB call_abs (by rfl) ma (by decide +kernel) (pa_cons (pv 0) pa_nil)))), ?_⟩
    refine ⟨fun m σ H1 => ∃ x y : Int, σ = [some (.int x), some (.int y)] ∧ Int.gcd x y = Int.gcd t u ∧ H1 = H ∧ m = y.natAbs, ⟨_, t, u, rfl, rfl, rfl, rfl⟩, ?_⟩
    rintro m σ H1 ⟨x, y, rfl, hg, rfl, rfl⟩
    refine ⟨.int y, rfl, _, rfl, ite2 (fun e => ?_) (fun e => ?_)⟩
    · have y0 : y ≠ 0 := by simpa using e
      refine ⟨fun σ' H' => ∃ x' y' : Int, σ' = [some (.int x'), some (.int y')] ∧ Int.gcd x' y' = Int.gcd t u ∧ H' = H1 ∧ y'.natAbs < y.natAbs, fun σ' H' hN => ?_, ?_⟩
      · obtain ⟨x', y', e2, h1, h2, h3⟩ := hN
        exact ⟨_, h3, x', y', e2, h1, h2, rfl⟩
      · refine ⟨.int y, rfl, .int x, rfl, .int y, rfl, _, _, rfl, rfl, y0, _, _, rfl, y, x.fmod y, rfl, ?_, rfl, ?_⟩
        · rw [gcd_fmod x y y0]
          exact hg
        · exact fmod_small x y0
    · have y0 : y = 0 := by simpa using e
      subst y0
      refine ⟨.int x, rfl, x, rfl, ?_⟩
      have ex : (if x < 0 then -x else x) = (Int.gcd t u : Int) := by
        rw [← hg, Int.gcd_zero_right]
        split <;> omega
      rw [ex]
      exact q
theorem ok_fraction {f fC : Addr} {fd fdC : FuncData} {k : Nat} (F : Fun K "fraction" "fraction" sFraction f fd) (FC : Fun K "common_part" "common_part" sCommon fC fdC) (bC : Binds K fdC ["one", "other"] []) (gC : mg "common_part" = some (.ref fC))
    (ma : mg "abs" = none) : FnOk P w K mg base CX0 (k + 2) f fd ["top", "bottom"] (spFrac K) := by
  have GC : FnOk P w K mg base CX0 (k + 1) fC fdC ["one", "other"] spCommon := ok_common FC ma
  refine F.ok scFraction (fun vs H Q E h => ?_) (fun cdv A outer s H vs Q E hr h => ?_)
  · obtain ⟨t, u, b, rfl, _⟩ := h
    rfl
  · obtain ⟨t, u, b, rfl, hu, ht, hub, hb0, hb9, q⟩ := h
    refine ⟨_, pss_cons (ps_set (i := 2) scFraction.nd rfl (.inl rfl) (pe_call GC hr (by rfl) gC FC.kp bC .nil pass0 (pa_cons (pv 0) (pa_cons (pv 1) pa_nil))))
      (pss_cons (ps_if (pt_cmpR op_lt (pv 1) pe_int (nomark _)) (pss_one (ps_set (i := 2) scFraction.nd rfl (.inl rfl) (pe_un un_neg (pv 2)))) pss_nil)
      (pss_one (ps_ret (pe_tup (pa_cons (pe_op op_fdivW (pv 0) (pv 2)) (pa_cons (pe_op op_fdivW (pv 1) (pv 2)) pa_nil)))))), ?_⟩
    have hgp := gcd_pos (t := t) hu
    have hg1 := g_le (t := t) hu hub
    refine ⟨.int t, rfl, .int u, rfl, t, u, rfl, .int u, rfl, _, _, rfl, rfl, _, rfl, ite2 (fun e => ?_) (fun e => ?_)⟩
    · have e1 : u < 0 := of_decide_eq_true e
      omega
    · refine ⟨.int t, rfl, _, rfl, _, _, rfl, rfl, wide_div (by omega) hg1 hb0 hb9, .int u, rfl, _, rfl, _, _, rfl, rfl, wide_div (by omega) hg1 hb0 hb9, (by decide : 2 ≤ sizeLine), fun p hp => ?_⟩
      refine q _ _ (same_upd hp) (dp_fr_mk (SqT.of ?_))
      rw [upd_same, fr_num hu, fr_den hu]
end
section
variable {P : Program} {w : World} {K : PySem.W.Frag} {mg : Str → Option Value} {base : Heap}
abbrev s_minus : Stmt := topS 9
theorem sc_minus : FnScope ["one", "other"] ["one", "other"] (defScope s_minus) := ⟨rfl, rfl, rfl, by decide +kernel, rfl, by decide +kernel, by decide +kernel⟩
theorem ok_minus {f fC : Addr} {fd fdC : FuncData} {k : Nat} (F : Fun K "minus" "minus" s_minus f fd) (kp : PySem.W.keepIn K (.ref fC) = true) (G : FnOk P w K mg base CX0 k fC fdC ["top", "bottom"] (spFrac K)) (bC : Binds K fdC ["top", "bottom"] []) (gC : mg "fraction" = some (.ref fC)) :
    FnOk P w K mg base CX0 (k + 1) f fd ["one", "other"] (spTwo K (fun q1 q2 => q1 - q2) (fun r => True)) := by
  refine F.ok sc_minus (fun vs H Q E h => ?_) (fun cdv A outer s H vs Q E hr h => ?_)
  · obtain ⟨x, y, q1, q2, a, b, rfl, _⟩ := h
    rfl
  · obtain ⟨x, y, q1, q2, a, b, rfl, hx, hy, z1, z2, hz, hc, q⟩ := h
    obtain ⟨p1, rfl, h1⟩ := dp_fr hx
    obtain ⟨p2, rfl, h2⟩ := dp_fr hy
    refine ⟨_, pss_one (ps_ret (pe_call G hr (by rfl) gC kp bC .nil pass0 (pa_cons (pe_op op_sub (pe_op op_mulW (pe_ix ix_tup (pv 0) pe_int (fun _ _ => rfl)) (pe_ix ix_tup (pv 1) pe_int (fun _ _ => rfl))) (pe_op op_mulW (pe_ix ix_tup (pv 1) pe_int (fun _ _ => rfl)) (pe_ix ix_tup (pv 0) pe_int (fun _ _ => rfl)))) (pa_cons (pe_op op_mulW (pe_ix ix_tup (pv 0) pe_int (fun _ _ => rfl)) (pe_ix ix_tup (pv 1) pe_int (fun _ _ => rfl))) pa_nil)))), ?_⟩
    refine ⟨.ref p1, rfl, p1, _, 0, _, rfl, rfl, h1, atI_nat (j := 0) rfl, .ref p2, rfl, p2, _, 1, _, rfl, rfl, h2, atI_nat (j := 1) rfl, _, _, rfl, rfl, wide_mul (up_lt z1.1 (Nat.le_add_right a 1)) (up_lt z2.den (Nat.le_add_right b 1)) (by omega) (by omega) (by omega), .ref p2, rfl, p2, _, 0, _, rfl, rfl, h2, atI_nat (j := 0) rfl, .ref p1, rfl, p1, _, 1, _, rfl, rfl, h1, atI_nat (j := 1) rfl, _, _, rfl, rfl, wide_mul (up_lt z2.1 (Nat.le_add_right b 1)) (up_lt z1.den (Nat.le_add_right a 1)) (by omega) (by omega) (by omega), _, _, rfl, rfl, .ref p1, rfl, p1, _, 1, _, rfl, rfl, h1, atI_nat (j := 1) rfl, .ref p2, rfl, p2, _, 1, _, rfl, rfl, h2, atI_nat (j := 1) rfl, _, _, rfl, rfl, wide_mul (up_lt z1.den (Nat.le_add_right a 1)) (up_lt z2.den (Nat.le_add_right b 1)) (by omega) (by omega) (by omega), _, _, a + b + 1, rfl, dd_pos q1 q2, up_lt (sz_sub_t z1 z2) (Nat.le_refl _), up_lt (sz_dd z1 z2) (by omega), by omega, by omega, fun v H' sm d => q v H' sm ?_⟩
    rw [q_sub] at d
    exact d
end
/-! ### a drawn pane, a drawn row, a drawn weight -/
abbrev sPane : Stmt := topS 21
abbrev sRow : Stmt := topS 22
theorem scPane : FnScope ["_law_box_here", "_law_under", "_law_any_one"] ["_law_box_here"] (defScope sPane) := ⟨rfl, rfl, rfl, by decide +kernel, rfl, by decide +kernel, by decide +kernel⟩
theorem scRow : FnScope ["_law_box_here", "_law_most", "_law_panes", "_law_turn"] ["_law_box_here", "_law_most"] (defScope sRow) := ⟨rfl, rfl, rfl, by decide +kernel, rfl, by decide +kernel, by decide +kernel⟩
def spPane (K : PySem.W.Frag) : Sp := fun vs H Q _ => ∃ (p : Addr) (n : Nat), vs = [.ref p] ∧ Bx H p n ∧ n < 900000 ∧
  ∀ (v : V) (H' : Hp) (q : Rat), PaneQ q → Chg p H H' → Bx H' p (n + 4) → Dp K H' v (frD q) → Q v H'
def WallI (x : Int) : Prop := x = 0 ∨ x = 1 ∨ x = -1
def spRow (K : PySem.W.Frag) : Sp := fun vs H Q _ => ∃ (p : Addr) (m n : Nat), vs = [.ref p, .int m] ∧ Bx H p n ∧ n < 500000 ∧ m ≤ 100 ∧
  ∀ (v : V) (H' : Hp) (qs : List Rat) (x : Int), (∀ q ∈ qs, PaneQ q) → qs.length ≤ m → WallI x → Chg p H H' → Bx H' p (n + 4 * m + 2) → Dp K H' v (rowD qs x) → Q v H'
section
variable {P : Program} {w : World} {K : PySem.W.Frag} {mg : Str → Option Value} {base : Heap}
theorem mem8 {K : PySem.W.Frag} {H : Hp} {a b c d e f g h v : V} (i1 : IsPane K H a) (i2 : IsPane K H b) (i3 : IsPane K H c) (i4 : IsPane K H d) (i5 : IsPane K H e) (i6 : IsPane K H f) (i7 : IsPane K H g) (i8 : IsPane K H h) (hm : v ∈ [a, b, c, d, e, f, g, h]) : IsPane K H v := by
  simp only [List.mem_cons, List.not_mem_nil, or_false] at hm
  rcases hm with rfl | rfl | rfl | rfl | rfl | rfl | rfl | rfl <;> assumption
theorem ok_pane {f fT fO fC : Addr} {fd fdT fdO fdC : FuncData} {k : Nat} (F : Fun K "_law_pane" "_law_pane" sPane f fd)
    (FT : Fun K "_law_take" "_law_take" sTake fT fdT) (bT : Binds K fdT ["_law_box_here", "_law_size"] []) (gT : mg "_law_take" = some (.ref fT))
    (FO : Fun K "_law_of" "_law_of" sOf fO fdO) (bO : Binds K fdO ["_law_box_here", "_law_some"] []) (gO : mg "_law_of" = some (.ref fO))
    (FC : Fun K "_law_frac" "_law_frac" sFrac fC fdC) (bC : Binds K fdC ["_law_top", "_law_under"] []) (gC : mg "_law_frac" = some (.ref fC))
    (ml : mg "len" = none) (ma : mg "abs" = none) : FnOk P w K mg base CX0 (k + 3) f fd ["_law_box_here"] (spPane K) := by
  have GT : FnOk P w K mg base CX0 (k + 2) fT fdT ["_law_box_here", "_law_size"] spTake := ok_take FT
  have GO : FnOk P w K mg base CX0 (k + 2) fO fdO ["_law_box_here", "_law_some"] (spOf K) := ok_of FO FT bT gT ml
  have GC : FnOk P w K mg base CX0 (k + 2) fC fdC ["_law_top", "_law_under"] (spFrac K) := ok_frac FC ma
  refine F.ok scPane (fun vs H Q E h => ?_) (fun cdv A outer s H vs Q E hr h => ?_)
  · obtain ⟨p, n, rfl, _⟩ := h
    rfl
  · obtain ⟨p, n, rfl, hb, hn, q⟩ := h
    refine ⟨_, pss_cons (ps_set (i := 1) scPane.nd rfl (.inl rfl) (pe_op op_add pe_int (pe_call GT hr (by rfl) gT FT.kp bT .nil pass0 (pa_cons (pv 0) (pa_cons (pe_ix ix_list (pe_lst (pa_cons pe_int (pa_cons pe_int (pa_cons pe_int pa_nil)))) (pe_call GT hr (by rfl) gT FT.kp bT .nil pass0 (pa_cons (pv 0) (pa_cons pe_int pa_nil))) (fun _ _ => rfl)) pa_nil)))))
      (pss_cons (ps_set (i := 2) scPane.nd rfl (.inl rfl) (pe_call GC hr (by rfl) gC FC.kp bC .nil pass0 (pa_cons (pe_op op_add (pe_op op_sub (pe_call GT hr (by rfl) gT FT.kp bT .nil pass0 (pa_cons (pv 0) (pa_cons (pe_op op_sub (pe_op op_mul pe_int (pv 1)) pe_int) pa_nil))) (pv 1)) pe_int) (pa_cons (pv 1) pa_nil))))
      (pss_one (ps_ret (pe_call GO hr (by rfl) gO FO.kp bO .nil pass0 (pa_cons (pv 0) (pa_cons (pe_lst (pa_cons (pv 2) (pa_cons (pv 2) (pa_cons (pv 2) (pa_cons (pe_tup (pa_cons pe_int (pa_cons pe_int pa_nil))) (pa_cons (pe_tup (pa_cons (pe_un un_neg pe_int) (pa_cons pe_int pa_nil))) (pa_cons (pe_tup (pa_cons pe_int (pa_cons pe_int pa_nil))) (pa_cons (pe_tup (pa_cons pe_int (pa_cons pe_int pa_nil))) (pa_cons (pe_tup (pa_cons (pe_op op_sub pe_int (pv 1)) (pa_cons (pv 1) pa_nil))) pa_nil))))))))) pa_nil)))))), ?_⟩
    -- under
    refine ⟨.ref p, rfl, (by decide : 3 ≤ sizeLine), fun l hl => ?_⟩
    have b0 := hb.same (same_upd (o := .lst [.int 3, .int 8, .int 59]) hl)
    have nlp : l ≠ p := by
      obtain ⟨x, e⟩ := hb.at
      exact (ne_of_none e hl).symm
    refine ⟨.ref p, rfl, p, 3, n, rfl, b0, by omega, by decide, by decide, fun r H1 h0 h3 c1 b1 => ?_⟩
    obtain ⟨z, hz, hz1, hz2⟩ := pick3 h0 h3
    refine ⟨l, _, _, _, rfl, rfl, SqL.of (c1 _ _ nlp upd_same), hz, p, z, n + 1, rfl, b1, by omega, hz1, by omega, fun r2 H2 h20 h2z c2 b2 => ?_⟩
    have C2 : Chg p H H2 := (Chg.of_same (same_upd hl)).trans (c1.trans c2)
    refine ⟨_, _, rfl, rfl, ?_⟩
    -- any one
    refine ⟨.ref p, rfl, _, rfl, _, _, rfl, rfl, .inl ⟨by decide, by decide⟩, _, _, rfl, rfl, p, _, n + 2, rfl, b2, by omega, by omega, by omega, fun r3 H3 h30 h3z c3 b3 => ?_⟩
    refine ⟨_, rfl, _, _, rfl, rfl, _, _, rfl, rfl, _, rfl, _, _, 6, rfl, by omega, by omega, by omega, by decide, by decide, fun v H4 s4 d4 => ?_⟩
    have P0 : PaneQ (Rat.divInt (r3 - (2 + r2) + 1) (2 + r2)) := pane_fr (by omega) (by omega) (by omega)
    have i0 : IsPane K H4 v := ⟨_, P0, d4⟩
    have b4 : Bx H4 p (n + 3) := b3.same s4
    have C4 : Chg p H H4 := C2.trans (c3.trans (Chg.of_same s4))
    -- the menu
    refine ⟨.ref p, rfl, v, rfl, v, rfl, v, rfl, (by decide : 2 ≤ sizeLine), fun a1 n1 => ⟨1, rfl, (by decide : 2 ≤ sizeLine), fun a2 n2 => ⟨(by decide : 2 ≤ sizeLine), fun a3 n3 => ⟨(by decide : 2 ≤ sizeLine), fun a4 n4 => ⟨_, rfl, _, _, rfl, rfl, _, rfl, (by decide : 2 ≤ sizeLine), fun a5 n5 => ⟨(by decide : 8 ≤ sizeLine), fun l2 nl2 => ?_⟩⟩⟩⟩⟩⟩
    have S1 := same_upd (o := .tup [.int 1, .int 2]) n1
    have S2 := same_upd (o := .tup [.int (-1), .int 2]) n2
    have S3 := same_upd (o := .tup [.int 1, .int 3]) n3
    have S4 := same_upd (o := .tup [.int 0, .int 1]) n4
    have S5 := same_upd (o := .tup [.int (1 - (2 + r2)), .int (2 + r2)]) n5
    have S6 := same_upd (o := .lst [v, v, v, .ref a1, .ref a2, .ref a3, .ref a4, .ref a5]) nl2
    have i1 := (((((pane_lit (K := K) (by decide) (by decide) (by decide) (by decide) (SqT.of (upd_same (H := H4) (a := a1) (o := .tup [.int 1, .int 2])))).same S2).same S3).same S4).same S5).same S6
    have i2 := ((((pane_lit (K := K) (by decide) (by decide) (by decide) (by decide) (SqT.of (upd_same (a := a2) (o := .tup [.int (-1), .int 2])))).same S3).same S4).same S5).same S6
    have i3 := (((pane_lit (K := K) (by decide) (by decide) (by decide) (by decide) (SqT.of (upd_same (a := a3) (o := .tup [.int 1, .int 3])))).same S4).same S5).same S6
    have i4 := ((pane_lit (K := K) (by decide) (by decide) (by decide) (by decide) (SqT.of (upd_same (a := a4) (o := .tup [.int 0, .int 1])))).same S5).same S6
    have i5 := (pane_lit (K := K) (gcd_one_less (2 + r2)) (by omega) (by omega) (by omega) (SqT.of (upd_same (a := a5) (o := .tup [.int (1 - (2 + r2)), .int (2 + r2)])))).same S6
    have SS := ((((S1.trans S2).trans S3).trans S4).trans S5).trans S6
    have i0' := i0.same SS
    have b5 := b4.same SS
    have nl2p : l2 ≠ p := by
      obtain ⟨x, e⟩ := (b4.same ((((S1.trans S2).trans S3).trans S4).trans S5)).at
      exact (ne_of_none e nl2).symm
    refine ⟨p, l2, _, n + 3, rfl, b5, by omega, upd_same, nl2p, by simp, (by decide : 8 < 1000), fun v2 H5 hm c5 b6 => ?_⟩
    obtain ⟨q2, pq, dq⟩ := mem8 i0' i0' i0' i1 i2 i3 i4 i5 hm
    exact q v2 H5 q2 pq (C4.trans ((Chg.of_same SS).trans c5)) b6 (b5.dp c5 dq (noL_fr q2))
theorem ok_row {f fT fO fP : Addr} {fd fdT fdO fdP : FuncData} {k : Nat} (F : Fun K "_law_row" "_law_row" sRow f fd)
    (kT : PySem.W.keepIn K (.ref fT) = true) (GT : FnOk P w K mg base CX0 (k + 3) fT fdT ["_law_box_here", "_law_size"] spTake) (bT : Binds K fdT ["_law_box_here", "_law_size"] []) (gT : mg "_law_take" = some (.ref fT))
    (kO : PySem.W.keepIn K (.ref fO) = true) (GO : FnOk P w K mg base CX0 (k + 3) fO fdO ["_law_box_here", "_law_some"] (spOf K)) (bO : Binds K fdO ["_law_box_here", "_law_some"] []) (gO : mg "_law_of" = some (.ref fO))
    (kP : PySem.W.keepIn K (.ref fP) = true) (GP : FnOk P w K mg base CX0 (k + 3) fP fdP ["_law_box_here"] (spPane K)) (bP : Binds K fdP ["_law_box_here"] []) (gP : mg "_law_pane" = some (.ref fP))
    (mr : mg "range" = none) (mt : mg "tuple" = none) : FnOk P w K mg base CX0 (k + 4) f fd ["_law_box_here", "_law_most"] (spRow K) := by
  refine F.ok scRow (fun vs H Q E h => ?_) (fun cdv A outer s H vs Q E hr h => ?_)
  · obtain ⟨p, m, n, rfl, _⟩ := h
    rfl
  · obtain ⟨p, m, n, rfl, hb, hn, hm, q⟩ := h
    refine ⟨_, pss_cons (ps_set (i := 2) scRow.nd rfl (.inl rfl) (pe_callTy call_tuple_of (by rfl) mt PyProof.Rows.boot_tuple (pa_cons
        (pe_lc (own := [("_law_turn", 3)]) (g := gName 3) (tt := tYes) rfl scRow.nd (pi_range1 (by rfl) mr (pa_cons (pe_call GT hr (by rfl) gT kT bT .nil pass0 (pa_cons (pv 0) (pa_cons (pe_op op_add (pv 1) pe_int) pa_nil))) pa_nil))
          (blkOk_by (N := ["_law_box_here", "_law_most", "_law_panes", "_law_turn"]) (sc := defScope sRow) (by decide +kernel)) (fun _ _ _ _ _ => pg_name (i := 3) scRow.nd rfl (Or.inl rfl)) (fun _ _ _ _ _ => pts_nil)
          (fun _ _ _ _ _ => pe_call GP hr (by rfl) gP kP bP .nil pass0 (pa_cons (pv 0) pa_nil))) pa_nil)))
      (pss_one (ps_ret (pe_tup (pa_cons (pv 2) (pa_cons (pe_call GO hr (by rfl) gO kO bO .nil pass0 (pa_cons (pv 0) (pa_cons (pe_lst (pa_cons pe_int (pa_cons pe_int (pa_cons pe_int (pa_cons pe_int (pa_cons pe_int (pa_cons (pe_un un_neg pe_int) pa_nil))))))) pa_nil))) pa_nil))))), ?_⟩
    refine ⟨.ref p, rfl, _, rfl, _, _, rfl, rfl, p, _, n, rfl, hb, by omega, by omega, by omega, fun r H1 h0 h1 c1 b1 => ?_⟩
    refine ⟨r, rfl, by omega, by omega, fun D nD => lc_it walk_range (fun i H2 => ∃ (vs : List V) (qs : List Rat), Chg p H H2 ∧ Bx H2 p (n + 1 + 4 * i) ∧ H2 D = some (.lst vs) ∧ DpAll K H2 vs (frs qs) ∧ (∀ q ∈ qs, PaneQ q) ∧ qs.length = i) ?_ (fun _ _ _ _ => trivial) ?_ ?_⟩
    · refine ⟨[], [], c1.trans (Chg.of_same (same_upd nD)), b1.same (same_upd nD), upd_same, .nil, by simp, rfl⟩
    · rintro i x H2 H2' hi ⟨vs, qs, C2, B2, hD, dD, pq, hl⟩ ⟨rfl, rfl⟩
      refine ⟨rfl, .ref p, rfl, p, _, rfl, B2, by omega, fun v H3 q2 pq2 c3 b3 d3 => ?_⟩
      have nDp : D ≠ p := by
        obtain ⟨x, e⟩ := b1.at
        exact (ne_of_none e nD).symm
      have nDH : H D = none := c1.free nDp nD
      have hD3 : H3 D = some (.lst vs) := c3 _ _ nDp hD
      refine ⟨vs, hD3, ?_, vs ++ [v], qs ++ [q2], (C2.trans c3).new_upd nDH, (b3.other nDp.symm).mono (by omega), upd_same, ?_, ?_, ?_⟩
      · rw [dps_len dD]
        unfold frs
        rw [List.length_map]
        exact small1000 (by omega)
      · refine dps_put hD3 (noL_frs _) (dps_snoc (B2.dps c3 dD (noL_frs _)) d3)
      · intro q5 h5
        rcases List.mem_append.mp h5 with h5 | h5
        · exact pq _ h5
        · rw [List.mem_singleton.mp h5]
          exact pq2
      · rw [List.length_append, hl]
        rfl
    · rintro H2 ⟨vs, qs, C2, B2, hD, dD, pq, hl⟩
      refine ⟨D, vs, rfl, .inl ⟨SqL.of hD, fun t nt => ?_⟩⟩
      have St := same_upd (o := .tup vs) nt
      -- (panes, a drawn wall)
      refine ⟨_, rfl, .ref p, rfl, 1, rfl, (by decide : 6 ≤ sizeLine), fun l nl => ?_⟩
      have Sl := same_upd (o := .lst [.int 0, .int 0, .int 0, .int 0, .int 1, .int (-1)]) nl
      have b5 := B2.same (St.trans Sl)
      have nlp : l ≠ p := by
        obtain ⟨x, e⟩ := (B2.same St).at
        exact (ne_of_none e nl).symm
      refine ⟨p, l, _, _, rfl, b5, by omega, upd_same, nlp, by simp, by decide, fun v H5 hv c5 b6 => ?_⟩
      have hw : ∃ x : Int, v = .int x ∧ WallI x := by
        simp only [List.mem_cons, List.not_mem_nil, or_false] at hv
        rcases hv with rfl | rfl | rfl | rfl | rfl | rfl
        · exact ⟨_, rfl, .inl rfl⟩
        · exact ⟨_, rfl, .inl rfl⟩
        · exact ⟨_, rfl, .inl rfl⟩
        · exact ⟨_, rfl, .inl rfl⟩
        · exact ⟨_, rfl, .inr (.inl rfl)⟩
        · exact ⟨_, rfl, .inr (.inr rfl)⟩
      obtain ⟨x, rfl, hx⟩ := hw
      have dT : Dp K _ (.ref t) (.tuple (frs qs)) := .tup (SqT.of (upd_same (H := H2) (a := t) (o := .tup vs))) (dps_same St _ _ dD)
      have dT5 := b5.dp c5 (dp_same Sl _ _ dT) (show noL (.tuple (frs qs)) = true from noL_frs qs)
      refine ⟨(by decide : 2 ≤ sizeLine), fun t2 nt2 => ?_⟩
      have S6 := same_upd (o := .tup [.ref t, .int x]) nt2
      refine q _ _ qs x pq (by omega) hx (C2.trans ((Chg.of_same (St.trans Sl)).trans (c5.trans (Chg.of_same S6)))) ((b6.same S6).mono (by omega)) ?_
      exact .tup (SqT.of upd_same) (.cons (dp_same S6 _ _ dT5) (.cons (.int x) .nil))
end
/-! ### what is alike is told so -/
abbrev sSame : Stmt := topS 19
theorem scSame : FnScope ["_law_found", "_law_due", "_law_mine", "_law_two"] ["_law_found", "_law_due"] (defScope sSame) := ⟨rfl, rfl, rfl, by decide +kernel, rfl, by decide +kernel, by decide +kernel⟩
/-- data less than d deep, no list or tuple of more than 1000 -/
def okD : Nat → PyData → Bool
  | 0, _ => false
  | d + 1, .list ds => decide (ds.length ≤ 1000) && ds.all (okD d)
  | d + 1, .tuple ds => decide (ds.length ≤ 1000) && ds.all (okD d)
  | _ + 1, .dict _ => false
  | _ + 1, _ => true
/-- two things that are the same data: True -/
def spSame (K : PySem.W.Frag) (d : Nat) : Sp := fun vs H Q _ => ∃ (x y : V) (D : PyData), vs = [x, y] ∧ Dp K H x D ∧ Dp K H y D ∧ okD d D = true ∧ ∀ H' : Hp, Same H H' → Q (.bl true) H'
theorem ok_list {d : Nat} {ds : List PyData} (h : okD (d + 1) (.list ds) = true) : ds.length ≤ 1000 ∧ ∀ x ∈ ds, okD d x = true := by
  unfold okD at h
  simpa using h
theorem ok_tuple {d : Nat} {ds : List PyData} (h : okD (d + 1) (.tuple ds) = true) : ds.length ≤ 1000 ∧ ∀ x ∈ ds, okD d x = true := by
  unfold okD at h
  simpa using h
theorem all_true (n : Nat) : (List.replicate n true).all id = true := by
  induction n with
  | zero => rfl
  | succ n ih =>
    rw [List.replicate_succ, List.all_cons, ih]
    rfl
theorem rep_snoc (n : Nat) : (List.replicate n true).map V.bl ++ [V.bl true] = (List.replicate (n + 1) true).map V.bl := by
  rw [List.replicate_succ', List.map_append]
  rfl
section
variable {P : Program} {w : World} {K : PySem.W.Frag} {mg : Str → Option Value} {base : Heap}
theorem ok_same {f : Addr} {fd : FuncData} (F : Fun K "_law_same" "_law_same" sSame f fd) (b : Binds K fd ["_law_found", "_law_due"] []) (g : mg "_law_same" = some (.ref f))
    (mI : mg "isinstance" = none) (mdict : mg "dict" = none) (mlist : mg "list" = none) (mtuple : mg "tuple" = none) (ml : mg "len" = none) (mall : mg "all" = none) (mz : mg "zip" = none) (mbool : mg "bool" = none) (mstr : mg "str" = none) (mint : mg "int" = none) :
    ∀ d : Nat, FnOk P w K mg base CX0 d f fd ["_law_found", "_law_due"] (spSame K d)
  | 0 => ⟨fun vs H Q E h => by obtain ⟨x, y, D, rfl, _⟩ := h; rfl, fun A outer s H args us vs Q E _ _ _ _ h => by
      obtain ⟨x, y, D, _, _, _, h0, _⟩ := h
      cases h0⟩
  | d + 1 => by
    have G := ok_same F b g mI mdict mlist mtuple ml mall mz mbool mstr mint d
    refine F.ok scSame (fun vs H Q E h => ?_) (fun cdv A outer s H vs Q E hr h => ?_)
    · obtain ⟨x, y, D, rfl, _⟩ := h
      rfl
    · obtain ⟨x, y, D, rfl, hx, hy, hd, q⟩ := h
      refine ⟨_, pss_cons (ps_if (pt_val (pe_callB call_isi (by rfl) mI PyProof.Rows.boot_isinstance (pa_cons (pv 1) (pa_cons (pe_bltn (v := .ty "dict") (by rfl) mdict PyProof.Rows.boot_dict rfl) pa_nil)))) pss_never pss_nil)
        (pss_cons (ps_if (pt_val (pe_callB call_isiT (by rfl) mI PyProof.Rows.boot_isinstance (pa_cons (pv 1) (pa_cons (pe_tup (pa_cons (pe_bltn (v := .ty "list") (by rfl) mlist PyProof.Rows.boot_list rfl) (pa_cons (pe_bltn (v := .ty "tuple") (by rfl) mtuple PyProof.Rows.boot_tuple rfl) pa_nil))) pa_nil))))
          (pss_cons (ps_if (PW.pt (pw_or (pt_cmpR op_ne (pe_callB call_isi (by rfl) mI PyProof.Rows.boot_isinstance (pa_cons (pv 0) (pa_cons (pe_bltn (v := .ty "list") (by rfl) mlist PyProof.Rows.boot_list rfl) pa_nil))) (pe_callB call_isi (by rfl) mI PyProof.Rows.boot_isinstance (pa_cons (pv 1) (pa_cons (pe_bltn (v := .ty "list") (by rfl) mlist PyProof.Rows.boot_list rfl) pa_nil))) (nomark _))
              (pw_or1 (pt_cmpR op_ne (pe_callB call_isi (by rfl) mI PyProof.Rows.boot_isinstance (pa_cons (pv 0) (pa_cons (pe_bltn (v := .ty "tuple") (by rfl) mtuple PyProof.Rows.boot_tuple rfl) pa_nil))) (pe_callB call_isi (by rfl) mI PyProof.Rows.boot_isinstance (pa_cons (pv 1) (pa_cons (pe_bltn (v := .ty "tuple") (by rfl) mtuple PyProof.Rows.boot_tuple rfl) pa_nil))) (nomark _))))) pss_never pss_nil)
          (pss_one (ps_ret (pe_and (pe_cmpR op_eq (pe_callB call_len_seq (by rfl) ml PySem.boot_len (pa_cons (pv 0) pa_nil)) (pe_callB call_len_seq (by rfl) ml PySem.boot_len (pa_cons (pv 1) pa_nil)) (nomark _))
            (pe_one (pe_callB (cr_all rfl) (by rfl) mall (by decide +kernel) (pa_cons
              (pe_lc (own := [("_law_mine", 2), ("_law_two", 3)]) (g := gTup K 2 (gCons (gName 2) (gCons (gName 3) gNil))) (tt := tYes) rfl scSame.nd (RZ.pi_zipA (by rfl) mz (pa_cons (pv 0) (pa_cons (pv 1) pa_nil)))
                (blkOk_by (N := ["_law_found", "_law_due", "_law_mine", "_law_two"]) (sc := defScope sSame) (by decide +kernel))
                (fun _ _ _ _ _ => pg_tup rfl (pgs_cons (pg_name (i := 2) scSame.nd rfl (.inl rfl)) (pgs_cons (pg_name (i := 3) scSame.nd rfl (.inl rfl)) pgs_nil))) (fun _ _ _ _ _ => pts_nil)
                (fun _ _ _ _ _ => pe_call G hr (by rfl) g F.kp b .nil pass0 (pa_cons (pv 2) (pa_cons (pv 3) pa_nil)))) pa_nil))))))) pss_nil)
        (pss_cons (ps_if (PW.pt (pw_or (pt_cmpR op_isN (pv 1) pe_non (nomark _)) (pw_or1 (pt_val (pe_callB call_isiT (by rfl) mI PyProof.Rows.boot_isinstance (pa_cons (pv 1) (pa_cons (pe_tup (pa_cons (pe_bltn (v := .ty "bool") (by rfl) mbool PyProof.Rows.boot_bool rfl) (pa_cons (pe_bltn (v := .ty "str") (by rfl) mstr PyProof.Rows.boot_str rfl) pa_nil))) pa_nil)))))))
          (pss_one (ps_ret (pe_and (pe_cmpR op_eq (pv 0) (pv 1) (nomark _)) (pe_and (pe_cmpR op_eq (pe_callB call_isi (by rfl) mI PyProof.Rows.boot_isinstance (pa_cons (pv 0) (pa_cons (pe_bltn (v := .ty "bool") (by rfl) mbool PyProof.Rows.boot_bool rfl) pa_nil))) (pe_callB call_isi (by rfl) mI PyProof.Rows.boot_isinstance (pa_cons (pv 1) (pa_cons (pe_bltn (v := .ty "bool") (by rfl) mbool PyProof.Rows.boot_bool rfl) pa_nil))) (nomark _))
            (pe_one (pe_cmpR op_eq (pe_cmpR op_isN (pv 0) pe_non (nomark _)) (pe_cmpR op_isN (pv 1) pe_non (nomark _)) (nomark _))))))) pss_nil)
        (pss_one (ps_ret (pe_and (pe_callB call_isi (by rfl) mI PyProof.Rows.boot_isinstance (pa_cons (pv 0) (pa_cons (pe_bltn (v := .ty "int") (by rfl) mint PyProof.Rows.boot_int rfl) pa_nil)))
          (pe_and (pe_not (pe_callB call_isi (by rfl) mI PyProof.Rows.boot_isinstance (pa_cons (pv 0) (pa_cons (pe_bltn (v := .ty "bool") (by rfl) mbool PyProof.Rows.boot_bool rfl) pa_nil)))) (pe_one (pe_cmpR op_eq (pv 0) (pv 1) (nomark _))))))))), ?_⟩
      cases D with
      | dict kvs => cases hx
      | none =>
        cases hx
        cases hy
        refine ⟨_, rfl, _, _, _, _, _, rfl, .ty _, .base .non, kit_ty (by decide +kernel), _, rfl, iteF ?_⟩
        refine ⟨_, rfl, (by decide : 2 ≤ sizeLine), fun t nt => ⟨_, t, _, _, _, _, rfl, upd_same, .cons (.ty _) (.cons (.ty _) .nil), .base .non, kitAny_cons (kit_ty (r := false) (by decide +kernel)) (fun _ => kitAny_cons (kit_ty (r := false) (by decide +kernel)) (fun _ => kitAny_nil) (fun z => nomatch z)) (fun z => nomatch z), _, rfl, iteF ?_⟩⟩
        refine ⟨_, rfl, rfl, _, rfl, iteT (iteT ?_)⟩
        refine ⟨_, rfl, _, rfl, rfl, _, rfl, iteT ?_⟩
        refine ⟨_, rfl, _, _, _, _, _, rfl, .ty _, .base .non, kit_ty (r := false) (by decide +kernel), _, rfl, _, _, _, _, _, rfl, .ty _, .base .non, kit_ty (r := false) (by decide +kernel), rfl, _, rfl, iteT ?_⟩
        exact ⟨_, rfl, rfl, _, rfl, rfl, rfl, q _ (same_upd nt)⟩
      | bool v =>
        cases hx
        cases hy
        refine ⟨_, rfl, _, _, _, _, _, rfl, .ty _, .base (.bl v), kit_ty (by decide +kernel), _, rfl, iteF ?_⟩
        refine ⟨_, rfl, (by decide : 2 ≤ sizeLine), fun t nt => ⟨_, t, _, _, _, _, rfl, upd_same, .cons (.ty _) (.cons (.ty _) .nil), .base (.bl v), kitAny_cons (kit_ty (r := false) (by decide +kernel)) (fun _ => kitAny_cons (kit_ty (r := false) (by decide +kernel)) (fun _ => kitAny_nil) (fun z => nomatch z)) (fun z => nomatch z), _, rfl, iteF ?_⟩⟩
        refine ⟨_, rfl, rfl, _, rfl, iteF ?_⟩
        refine ⟨_, rfl, (by decide : 2 ≤ sizeLine), fun t2 nt2 => ⟨_, t2, _, _, _, _, rfl, upd_same, .cons (.ty _) (.cons (.ty _) .nil), .base (.bl v), kitAny_cons (r := true) (kit_ty (r := true) (by decide +kernel)) (fun z => nomatch z) (fun z => rfl), _, rfl, iteT ?_⟩⟩
        refine ⟨_, rfl, _, rfl, rfl, _, congrArg V.bl (decide_eq_true rfl), iteT ?_⟩
        refine ⟨_, rfl, _, _, _, _, _, rfl, .ty _, .base (.bl v), kit_ty (r := true) (by decide +kernel), _, rfl, _, _, _, _, _, rfl, .ty _, .base (.bl v), kit_ty (r := true) (by decide +kernel), rfl, _, rfl, iteT ?_⟩
        exact ⟨_, rfl, rfl, _, rfl, rfl, rfl, q _ ((same_upd nt).trans (same_upd nt2))⟩
      | str v =>
        cases hx
        cases hy
        refine ⟨_, rfl, _, _, _, _, _, rfl, .ty _, .base (.str v), kit_ty (by decide +kernel), _, rfl, iteF ?_⟩
        refine ⟨_, rfl, (by decide : 2 ≤ sizeLine), fun t nt => ⟨_, t, _, _, _, _, rfl, upd_same, .cons (.ty _) (.cons (.ty _) .nil), .base (.str v), kitAny_cons (kit_ty (r := false) (by decide +kernel)) (fun _ => kitAny_cons (kit_ty (r := false) (by decide +kernel)) (fun _ => kitAny_nil) (fun z => nomatch z)) (fun z => nomatch z), _, rfl, iteF ?_⟩⟩
        refine ⟨_, rfl, rfl, _, rfl, iteF ?_⟩
        refine ⟨_, rfl, (by decide : 2 ≤ sizeLine), fun t2 nt2 => ⟨_, t2, _, _, _, _, rfl, upd_same, .cons (.ty _) (.cons (.ty _) .nil), .base (.str v), kitAny_cons (r := true) (kit_ty (r := false) (by decide +kernel)) (fun _ => kitAny_cons (kit_ty (r := true) (by decide +kernel)) (fun z => nomatch z) (fun _ => rfl)) (fun z => nomatch z), _, rfl, iteT ?_⟩⟩
        refine ⟨_, rfl, _, rfl, rfl, _, congrArg V.bl (decide_eq_true rfl), iteT ?_⟩
        refine ⟨_, rfl, _, _, _, _, _, rfl, .ty _, .base (.str v), kit_ty (r := false) (by decide +kernel), _, rfl, _, _, _, _, _, rfl, .ty _, .base (.str v), kit_ty (r := false) (by decide +kernel), rfl, _, rfl, iteT ?_⟩
        exact ⟨_, rfl, rfl, _, rfl, rfl, rfl, q _ ((same_upd nt).trans (same_upd nt2))⟩
      | int v =>
        cases hx
        cases hy
        refine ⟨_, rfl, _, _, _, _, _, rfl, .ty _, .base (.int v), kit_ty (by decide +kernel), _, rfl, iteF ?_⟩
        refine ⟨_, rfl, (by decide : 2 ≤ sizeLine), fun t nt => ⟨_, t, _, _, _, _, rfl, upd_same, .cons (.ty _) (.cons (.ty _) .nil), .base (.int v), kitAny_cons (kit_ty (r := false) (by decide +kernel)) (fun _ => kitAny_cons (kit_ty (r := false) (by decide +kernel)) (fun _ => kitAny_nil) (fun z => nomatch z)) (fun z => nomatch z), _, rfl, iteF ?_⟩⟩
        refine ⟨_, rfl, rfl, _, rfl, iteF ?_⟩
        refine ⟨_, rfl, (by decide : 2 ≤ sizeLine), fun t2 nt2 => ⟨_, t2, _, _, _, _, rfl, upd_same, .cons (.ty _) (.cons (.ty _) .nil), .base (.int v), kitAny_cons (kit_ty (r := false) (by decide +kernel)) (fun _ => kitAny_cons (kit_ty (r := false) (by decide +kernel)) (fun _ => kitAny_nil) (fun z => nomatch z)) (fun z => nomatch z), _, rfl, iteF ?_⟩⟩
        refine ⟨_, rfl, _, _, _, _, _, rfl, .ty _, .base (.int v), kit_ty (by decide +kernel), _, rfl, iteT ?_⟩
        refine ⟨_, rfl, _, _, _, _, _, rfl, .ty _, .base (.int v), kit_ty (r := false) (by decide +kernel), _, rfl, _, rfl, iteT ?_⟩
        refine ⟨_, rfl, _, rfl, rfl, ?_⟩
        rw [decide_eq_true rfl]
        exact q _ ((same_upd nt).trans (same_upd nt2))
      | list ds =>
        obtain ⟨a1, xs, rfl, h1, e1⟩ := dp_lst hx
        obtain ⟨a2, ys, rfl, h2, e2⟩ := dp_lst hy
        obtain ⟨hlen, hmem⟩ := ok_list hd
        refine ⟨_, rfl, _, _, _, _, _, rfl, .ty _, ty_lst h2, kit_ty (by decide +kernel), _, rfl, iteF ?_⟩
        refine ⟨_, rfl, (by decide : 2 ≤ sizeLine), fun t nt => ?_⟩
        have S := same_upd (o := .tup [V.ty "list", V.ty "tuple"]) nt
        have g1 := S.seq h1
        have g2 := S.seq h2
        refine ⟨_, t, _, _, _, _, rfl, upd_same, .cons (.ty _) (.cons (.ty _) .nil), ty_lst g2, kitAny_cons (r := true) (kit_ty (r := true) (by decide +kernel)) (fun z => nomatch z) (fun _ => rfl), _, rfl, iteT ?_⟩
        refine ⟨_, rfl, _, _, _, _, _, rfl, .ty _, ty_lst g1, kit_ty (r := true) (by decide +kernel), _, rfl, _, _, _, _, _, rfl, .ty _, ty_lst g2, kit_ty (r := true) (by decide +kernel), rfl, _, rfl, iteF ?_⟩
        refine ⟨_, rfl, _, _, _, _, _, rfl, .ty _, ty_lst g1, kit_ty (r := false) (by decide +kernel), _, rfl, _, _, _, _, _, rfl, .ty _, ty_lst g2, kit_ty (r := false) (by decide +kernel), rfl, _, rfl, iteF ?_⟩
        have hl : xs.length = ys.length := (dps_len e1).trans (dps_len e2).symm
        have hx9 : xs.length ≤ 1000 := by
          rw [dps_len e1]
          exact hlen
        refine ⟨_, rfl, _, _, rfl, (.inl g1), _, rfl, _, _, rfl, (.inl g2), rfl, _, congrArg V.bl (decide_eq_true (congrArg V.int (congrArg Int.ofNat hl))), iteT ?_⟩
        refine ⟨_, rfl, _, rfl, _, _, xs, ys, rfl, .inl ⟨g1, g2, fun L nL => lc_it (walk_zip (xs := xs) (ys := ys) (n := xs.length) (by omega)) (fun i H2 => Same H H2 ∧ H2 L = some (.lst ((List.replicate i true).map V.bl))) ⟨S.trans (same_upd nL), upd_same⟩ (fun i H2 _ p => ⟨Same.seq p.1 h1, Same.seq p.1 h2⟩) ?_ ?_⟩⟩
        · rintro i v H2 H3 hi ⟨s2, hL⟩ ⟨T, x, y, rfl, nT, rfl, ex, ey⟩
          refine ⟨T, _, rfl, SqT.of upd_same, rfl, x, [y], rfl, y, [], rfl, rfl, rfl, x, rfl, y, rfl, ?_⟩
          obtain ⟨D1, f1, k1⟩ := dps_get e1 ex
          obtain ⟨D2, f2, k2⟩ := dps_get e2 ey
          have eD : D1 = D2 := Option.some.inj (f1.symm.trans f2)
          subst eD
          have S3 := s2.trans (same_upd (o := .tup [x, y]) nT)
          refine ⟨x, y, D1, rfl, dp_same S3 _ _ k1, dp_same S3 _ _ k2, hmem _ (List.mem_of_getElem? f1), fun H4 s4 => ?_⟩
          have hL4 : H4 L = some (.lst ((List.replicate i true).map V.bl)) := s4 _ _ (same_upd nT _ _ hL)
          have nLH : H L = none := S.free nL
          refine ⟨_, hL4, ?_, Same.new_upd (S3.trans s4) nLH, ?_⟩
          · rw [List.length_map, List.length_replicate]
            exact small1000 (by omega)
          · rw [upd_same, rep_snoc]
        · rintro H2 ⟨s2, hL⟩
          refine ⟨L, List.replicate xs.length true, rfl, SqL.of hL, ?_⟩
          rw [all_true]
          exact q _ s2
      | tuple ds =>
        obtain ⟨a1, xs, rfl, h1, e1⟩ := dp_tup hx
        obtain ⟨a2, ys, rfl, h2, e2⟩ := dp_tup hy
        obtain ⟨hlen, hmem⟩ := ok_tuple hd
        refine ⟨_, rfl, _, _, _, _, _, rfl, .ty _, ty_tup h2, kit_ty (by decide +kernel), _, rfl, iteF ?_⟩
        refine ⟨_, rfl, (by decide : 2 ≤ sizeLine), fun t nt => ?_⟩
        have S := same_upd (o := .tup [V.ty "list", V.ty "tuple"]) nt
        have g1 := Same.tup S h1
        have g2 := Same.tup S h2
        refine ⟨_, t, _, _, _, _, rfl, upd_same, .cons (.ty _) (.cons (.ty _) .nil), ty_tup g2, kitAny_cons (r := true) (kit_ty (r := false) (by decide +kernel)) (fun _ => kitAny_cons (kit_ty (r := true) (by decide +kernel)) (fun z => nomatch z) (fun _ => rfl)) (fun z => nomatch z), _, rfl, iteT ?_⟩
        refine ⟨_, rfl, _, _, _, _, _, rfl, .ty _, ty_tup g1, kit_ty (r := false) (by decide +kernel), _, rfl, _, _, _, _, _, rfl, .ty _, ty_tup g2, kit_ty (r := false) (by decide +kernel), rfl, _, rfl, iteF ?_⟩
        refine ⟨_, rfl, _, _, _, _, _, rfl, .ty _, ty_tup g1, kit_ty (r := true) (by decide +kernel), _, rfl, _, _, _, _, _, rfl, .ty _, ty_tup g2, kit_ty (r := true) (by decide +kernel), rfl, _, rfl, iteF ?_⟩
        have hl : xs.length = ys.length := (dps_len e1).trans (dps_len e2).symm
        have hx9 : xs.length ≤ 1000 := by
          rw [dps_len e1]
          exact hlen
        refine ⟨_, rfl, _, _, rfl, (.inr g1), _, rfl, _, _, rfl, (.inr g2), rfl, _, congrArg V.bl (decide_eq_true (congrArg V.int (congrArg Int.ofNat hl))), iteT ?_⟩
        refine ⟨_, rfl, _, rfl, _, _, xs, ys, rfl, .inr ⟨g1, g2, fun L nL => lc_it (walk_zipT (xs := xs) (ys := ys) (n := xs.length) (by omega)) (fun i H2 => Same H H2 ∧ H2 L = some (.lst ((List.replicate i true).map V.bl))) ⟨S.trans (same_upd nL), upd_same⟩ (fun i H2 _ p => ⟨Same.tup p.1 h1, Same.tup p.1 h2⟩) ?_ ?_⟩⟩
        · rintro i v H2 H3 hi ⟨s2, hL⟩ ⟨T, x, y, rfl, nT, rfl, ex, ey⟩
          refine ⟨T, _, rfl, SqT.of upd_same, rfl, x, [y], rfl, y, [], rfl, rfl, rfl, x, rfl, y, rfl, ?_⟩
          obtain ⟨D1, f1, k1⟩ := dps_get e1 ex
          obtain ⟨D2, f2, k2⟩ := dps_get e2 ey
          have eD : D1 = D2 := Option.some.inj (f1.symm.trans f2)
          subst eD
          have S3 := s2.trans (same_upd (o := .tup [x, y]) nT)
          refine ⟨x, y, D1, rfl, dp_same S3 _ _ k1, dp_same S3 _ _ k2, hmem _ (List.mem_of_getElem? f1), fun H4 s4 => ?_⟩
          have hL4 : H4 L = some (.lst ((List.replicate i true).map V.bl)) := s4 _ _ (same_upd nT _ _ hL)
          have nLH : H L = none := S.free nL
          refine ⟨_, hL4, ?_, Same.new_upd (S3.trans s4) nLH, ?_⟩
          · rw [List.length_map, List.length_replicate]
            exact small1000 (by omega)
          · rw [upd_same, rep_snoc]
        · rintro H2 ⟨s2, hL⟩
          refine ⟨L, List.replicate xs.length true, rfl, SqL.of hL, ?_⟩
          rw [all_true]
          exact q _ s2
end
theorem frs_len (qs : List Rat) : (frs qs).length = qs.length := List.length_map ..
theorem frs_get {qs : List Rat} {i : Nat} {d : PyData} (h : (frs qs)[i]? = some d) : ∃ q, qs[i]? = some q ∧ d = frD q := by
  unfold frs at h
  rw [List.getElem?_map] at h
  cases e : qs[i]? with
  | none =>
    rw [e] at h
    cases h
  | some q =>
    rw [e] at h
    exact ⟨q, rfl, (Option.some.inj h).symm⟩
/-! ### rows trimmed, turned about, joined -/
abbrev s_trimmed : Stmt := topS 11
theorem sc_trimmed : FnScope ["row", "panes", "wall", "end"] ["row"] (defScope s_trimmed) := ⟨rfl, rfl, rfl, by decide +kernel, rfl, by decide +kernel, by decide +kernel⟩
abbrev s_mirrored : Stmt := topS 12
theorem sc_mirrored : FnScope ["row", "panes", "wall", "pane"] ["row"] (defScope s_mirrored) := ⟨rfl, rfl, rfl, by decide +kernel, rfl, by decide +kernel, by decide +kernel⟩
abbrev s_joined : Stmt := topS 13
theorem sc_joined : FnScope ["one", "other"] ["one", "other"] (defScope s_joined) := ⟨rfl, rfl, rfl, by decide +kernel, rfl, by decide +kernel, by decide +kernel⟩
structure Frees (mg : Str → Option Value) : Prop where
  mlen : mg "len" = none
  mtuple : mg "tuple" = none
  mreversed : mg "reversed" = none
  mrange : mg "range" = none
  mlist : mg "list" = none
  mmin : mg "min" = none
def spTrim (K : PySem.W.Frag) : Sp := fun vs H Q _ => ∃ (r : V) (qs : List Rat) (x : Int), vs = [r] ∧ Dp K H r (rowD qs x) ∧ ∀ (v : V) (H' : Hp), Same H H' → Dp K H' v (rowD (trimR qs x) x) → Q v H'
def spMir (K : PySem.W.Frag) : Sp := fun vs H Q _ => ∃ (r : V) (qs : List Rat) (c : Nat), vs = [r] ∧ Dp K H r (rowD qs 0) ∧ (∀ q ∈ qs, Sz c q) ∧ c < 4000 ∧ qs.length ≤ 100 ∧ ∀ (v : V) (H' : Hp), Same H H' → Dp K H' v (rowD (mirQ qs) 0) → Q v H'
def spJoin (K : PySem.W.Frag) : Sp := fun vs H Q _ => ∃ (r1 r2 : V) (q1 q2 : List Rat) (x : Int), vs = [r1, r2] ∧ Dp K H r1 (rowD q1 0) ∧ Dp K H r2 (rowD q2 x) ∧ q1.length + q2.length ≤ 1000 ∧ ∀ (v : V) (H' : Hp), Same H H' → Dp K H' v (rowD (q1 ++ q2) x) → Q v H'
theorem cut_to (xs : List V) (m : Nat) (h : m ≤ xs.length) : cutV xs none (some (m : Int)) = xs.take m := by
  unfold cutV
  rw [HT.sIx_none, HT.sIx_nat]
  rw [show min m xs.length = m by omega]
  simp
theorem sz_zero : Sz 1 0 := ⟨by decide, by decide⟩
theorem mir_take {qs : List Rat} {i : Nat} {q : Rat} (h : qs[qs.length - 1 - i]? = some q) (hi : i < qs.length) : (mirQ qs).take (i + 1) = (mirQ qs).take i ++ [-q] := by
  rw [List.take_add_one]
  have e : (mirQ qs)[i]? = some (-q) := by
    unfold mirQ
    rw [List.getElem?_reverse (by rw [List.length_map]; exact hi), List.length_map, List.getElem?_map, h]
    rfl
  rw [e]
  rfl
section
variable {P : Program} {w : World} {K : PySem.W.Frag} {mg : Str → Option Value} {base : Heap}
theorem ok_trimmed {f aN : Addr} {fd : FuncData} {k : Nat} (F : Fun K "trimmed" "trimmed" s_trimmed f fd) (T : Frees mg) (gN : mg "NOUGHT" = some (.ref aN)) (dN : ∀ H : Hp, Dp K H (.ref aN) (frD 0)) : FnOk P w K mg base CX0 (k + 1) f fd ["row"] (spTrim K) := by
  refine F.ok sc_trimmed (fun vs H Q E h => ?_) (fun cdv A outer s H vs Q E hr h => ?_)
  · obtain ⟨r, qs, x, rfl, _⟩ := h
    rfl
  · obtain ⟨r, qs, x, rfl, hR, q⟩ := h
    obtain ⟨a, b, xs, rfl, ha, hb, hxs⟩ := dp_row hR
    have hlx : xs.length = qs.length := by rw [dps_len hxs, frs_len]
    refine ⟨_, (pss_cons (ps_asg (pv 0) (pg_tup rfl (pgs_cons (pg_name (i := 1) sc_trimmed.nd rfl (.inl rfl)) (pgs_cons (pg_name (i := 2) sc_trimmed.nd rfl (.inl rfl)) pgs_nil))))
      (pss_cons (ps_if (pt_cmpR op_ne (pv 2) pe_int (nomark _)) (pss_one (ps_ret (pv 0))) pss_nil)
      (pss_cons (ps_set (i := 3) sc_trimmed.nd rfl (.inl rfl) (pe_callB call_len_seq (by rfl) T.mlen PySem.boot_len (pa_cons (pv 1) pa_nil)))
      (pss_cons (ps_while PassesOwn.never (PW.pt (pw_and (pt_cmpR op_gt (pv 3) pe_int (nomark _)) (pw_and1 (pt_cmpR (op_eqD hr.units) (pe_ix ix_tup (pv 1) (pe_op op_sub (pv 3) pe_int) (fun _ _ => rfl)) (pe_glob (v := .ref aN) (by rfl) gN rfl) (nomark _))))) (pss_one (ps_aug (i := 3) sc_trimmed.nd rfl (.inl rfl) pe_int ip_sub)))
      (pss_one (ps_ret (pe_tup (pa_cons (pe_slice sl_tupA (pv 1) po_none (po_some (pv 3))) (pa_cons (pv 2) pa_nil))))))))), ?_⟩
    refine ⟨.ref a, rfl, a, _, rfl, ha, rfl, .ref b, [.int x], rfl, .int x, [], rfl, rfl, .int x, rfl, rfl, _, rfl, ite2 (fun e => ?_) (fun e => ?_)⟩
    · have hx : x ≠ 0 := fun z => by
        subst z
        simp at e
      refine ⟨_, rfl, q _ _ (Same.refl H) ?_⟩
      unfold trimR
      rw [if_neg hx]
      exact hR
    · have hx : x = 0 := by simpa using e
      subst hx
      refine ⟨.ref b, rfl, b, _, rfl, .inr hb, ?_⟩
      refine ⟨fun m σ H2 => σ = [some (.ref a), some (.ref b), some (.int 0), some (.int (m : Int))] ∧ m ≤ qs.length ∧ (∀ z ∈ qs.drop m, z = 0) ∧ H2 = H, ⟨xs.length, rfl, by omega, ?_, rfl⟩, ?_⟩
      · intro z hz
        rw [List.drop_of_length_le (by omega)] at hz
        cases hz
      · rintro m σ H2 ⟨rfl, hm, hz, rfl⟩
        have fin : (m = 0 ∨ ∃ z, qs[m - 1]? = some z ∧ z ≠ 0) → Q = Q → ∀ (v : V) (H' : Hp), Same H2 H' → Dp K H' v (rowD (qs.take m) 0) → Q v H' := by
          intro h1 _ v H' s' d'
          refine q v H' s' ?_
          unfold trimR
          rw [if_pos rfl, trimL_take hm hz h1]
          exact d'
        have out : (m = 0 ∨ ∃ z, qs[m - 1]? = some z ∧ z ≠ 0) → tRet (tTup (tCons (tSl (rSlA K) (tVar 1) tNoPart (tPart (tVar 3))) (tCons (tVar 2) tNil))) { nx := fun _ H' => Q .non H', rt := Q } [some (.ref a), some (.ref b), some (.int 0), some (.int (m : Int))] H2 := by
          intro h1
          have key : ∀ (t : Addr) (H3 : Hp), Same H2 H3 → SqT K H3 t (xs.take m) → ∀ p, H3 p = none → Q (.ref p) (upd H3 p (.tup [.ref t, .int 0])) := fun t H3 s3 ht p np => by
            refine fin h1 rfl _ _ (s3.trans (same_upd np)) (new_row np ht ?_)
            have d := dps_take m (dps_same s3 _ _ hxs)
            unfold frs at d ⊢
            rw [List.map_take]
            exact d
          refine ⟨.ref b, rfl, _, rfl, m, rfl, b, xs, rfl, hb, fun hw => ?_, fun hw p np => ?_⟩
          · have e2 : xs.take m = xs := by
              have e3 := hw.2
              rw [show HT.sIx xs.length xs.length (some (m : Int)) = min m xs.length from HT.sIx_nat xs.length xs.length m] at e3
              exact List.take_of_length_le (by omega)
            refine ⟨_, rfl, (by decide : 2 ≤ sizeLine), key b H2 (Same.refl _) ?_⟩
            rw [e2]
            exact hb
          · rw [cut_to xs m (by omega)]
            exact ⟨_, rfl, (by decide : 2 ≤ sizeLine), key p _ (same_upd np) (SqT.of upd_same)⟩
        refine ⟨_, rfl, _, _, rfl, rfl, _, rfl, ?_⟩
        by_cases h0 : m = 0
        · subst h0
          exact iteF (iteF (out (.inl rfl)))
        · have h1 : (0 : Int) < (m : Int) := by omega
          obtain ⟨j, rfl⟩ : ∃ j, m = j + 1 := ⟨m - 1, by omega⟩
          have hj : j < qs.length := by omega
          have ex : xs[j]? = some (xs[j]'(by omega)) := List.getElem?_eq_getElem _
          obtain ⟨d, hd, dx⟩ := dps_get hxs ex
          obtain ⟨z, hz1, rfl⟩ := frs_get hd
          rw [decide_eq_true h1]
          refine iteT ⟨.ref b, rfl, _, rfl, _, _, rfl, rfl, b, _, _, _, rfl, rfl, hb, at_of (j := j) (by omega) ex, frD z, frD 0, dx, dN _, sh_fr z, sh_fr 0, _, rfl, ?_⟩
          rw [eqv_fr]
          by_cases hz0 : z = 0
          · rw [decide_eq_true hz0]
            refine iteT ⟨fun σ' H' => σ' = [some (.ref a), some (.ref b), some (.int 0), some (.int (j : Int))] ∧ H' = H2, fun σ' H' hN => ⟨j, by omega, hN.1, by omega, ?_, hN.2⟩, ?_⟩
            · intro y hy
              rw [List.drop_eq_getElem_cons hj] at hy
              rcases List.mem_cons.mp hy with rfl | hy
              · rw [List.getElem?_eq_getElem hj] at hz1
                exact (Option.some.inj hz1).trans hz0
              · exact hz y hy
            · refine ⟨_, rfl, _, _, rfl, rfl, ?_, rfl⟩
              have e4 : ((j + 1 : Nat) : Int) - 1 = (j : Int) := by omega
              show [some (V.ref a), some (V.ref b), some (V.int 0), some (V.int (((j + 1 : Nat) : Int) - 1))] = _
              rw [e4]
          · rw [decide_eq_false hz0]
            exact iteF (out (.inr ⟨z, hz1, hz0⟩))
end
/-! ### rows turned about and joined, or refused -/
/-- the class Walled, at C -/
structure WTxt (K : PySem.W.Frag) (mg : Str → Option Value) (C : Addr) : Prop where
  xW : PySem.W.excIn K C [.type "RuntimeError", .type "Exception", .type "BaseException", .type "object"] "RuntimeError.__new__" = true
  gW : mg "Walled" = some (.ref C)
  kW : PySem.W.keepIn K (.ref C) = true
  bW : PySem.W.subIn K (.ref C) (.type "BaseException") = some true
  tW : PySem.W.typeIn K (.ref C) = some (.type "type")
def spMirX (K : PySem.W.Frag) (C : Addr) : Sp := fun vs H Q E => ∃ (r : V) (qs : List Rat) (x : Int) (c : Nat), vs = [r] ∧ Dp K H r (rowD qs x) ∧ (∀ q ∈ qs, Sz c q) ∧ c < 4000 ∧ qs.length ≤ 100 ∧ (x = 0 → ∀ (v : V) (H' : Hp), Same H H' → Dp K H' v (rowD (mirQ qs) 0) → Q v H') ∧ (x ≠ 0 → E (.ref C) none H)
def spJoinX (K : PySem.W.Frag) (C : Addr) : Sp := fun vs H Q E => ∃ (r1 r2 : V) (q1 q2 : List Rat) (x1 x : Int), vs = [r1, r2] ∧ Dp K H r1 (rowD q1 x1) ∧ Dp K H r2 (rowD q2 x) ∧ q1.length + q2.length ≤ 1000 ∧ (x1 = 0 → ∀ (v : V) (H' : Hp), Same H H' → Dp K H' v (rowD (q1 ++ q2) x) → Q v H') ∧ (x1 ≠ 0 → E (.ref C) none H)
section
variable {P : Program} {w : World} {K : PySem.W.Frag} {mg : Str → Option Value} {base : Heap}
theorem ok_mirX {f aN fM C : Addr} {fd fdM : FuncData} {k : Nat} (F : Fun K "mirrored" "mirrored" s_mirrored f fd) (T : Frees mg) (Wd : WTxt K mg C) (cM : Cal P w K mg base k "minus" ["one", "other"] (spTwo K (fun q1 q2 => q1 - q2) (fun r => True)) fM fdM)
    (gN : mg "NOUGHT" = some (.ref aN)) (dN : ∀ H : Hp, Dp K H (.ref aN) (frD 0)) : FnOk P w K mg base (L2.CX P w) (k + 1) f fd ["row"] (spMirX K C) := by
  refine F.okX sc_mirrored (fun vs H Q E h => ?_) (fun cdv A outer s H vs Q E hr h => ?_)
  · obtain ⟨r, qs, x, c, rfl, _⟩ := h
    rfl
  · obtain ⟨r, qs, x, c, rfl, hR, hz, hc, hlen, q, qx⟩ := h
    obtain ⟨a, b, xs, rfl, ha, hb, hxs⟩ := dp_row hR
    have hlx : xs.length = qs.length := by rw [dps_len hxs, frs_len]
    refine ⟨_, (pss_cons (ps_asg (pv 0) (pg_tup rfl (pgs_cons (pg_name (i := 1) sc_mirrored.nd rfl (.inl rfl)) (pgs_cons (pg_name (i := 2) sc_mirrored.nd rfl (.inl rfl)) pgs_nil))))
      (pss_cons (ps_if (pt_cmpR op_ne (pv 2) pe_int (nomark _)) (pss_one (ps_raise rfl (takes_of rfl rfl rfl rfl) (pmk_own0 PySem.F.excBase_RuntimeError Wd.xW Wd.gW Wd.kW (raises_own Wd.bW Wd.tW) (by rfl)))) pss_nil)
      (pss_one (ps_ret (pe_tup (pa_cons (pe_callTy call_tuple_of (by rfl) T.mtuple PyProof.Rows.boot_tuple (pa_cons (pe_lc (own := [("pane", 3)]) (g := (gName 3)) (tt := tYes) rfl sc_mirrored.nd (RT.pi_revA (by rfl) T.mreversed (pv 1)) (blkOk_by (N := ["row", "panes", "wall", "pane"]) (sc := defScope s_mirrored) (by decide +kernel)) (fun _ _ _ _ _ => pg_name (i := 3) sc_mirrored.nd rfl (.inl rfl)) (fun _ _ _ _ _ => pts_nil) (fun _ _ _ _ _ => (pe_c cM hr (by rfl) (pa_cons (pe_glob (v := .ref aN) (by rfl) gN rfl) (pa_cons (pv 3) pa_nil))))) pa_nil)) (pa_cons (pv 2) pa_nil))))))), ?_⟩
    refine ⟨.ref a, rfl, a, _, rfl, ha, rfl, .ref b, [.int x], rfl, .int x, [], rfl, rfl, .int x, rfl, rfl, _, rfl, ite2 (fun e => ?_) (fun e => ?_)⟩
    · exact qx (fun z => by
        subst z
        simp at e)
    · have hx : x = 0 := by simpa using e
      subst hx
      replace q := q rfl
      refine ⟨.ref b, rfl, b, xs, rfl, .inr ⟨hb, fun D nD => lc_it walk_revT (fun i H2 => ∃ vs : List V, Same H H2 ∧ H2 D = some (.lst vs) ∧ DpAll K H2 vs (frs ((mirQ qs).take i)) ∧ vs.length = i) ⟨[], same_upd nD, upd_same, .nil, rfl⟩ ?_ ?_ ?_⟩⟩
      · rintro i H2 _ ⟨vs, s2, _⟩
        exact Same.tup s2 hb
      · rintro i y H2 H2' hi ⟨vs, s2, hD, dD, hl⟩ ⟨rfl, hy⟩
        obtain ⟨d, hd, dy⟩ := dps_get hxs hy
        obtain ⟨z, hz1, rfl⟩ := frs_get hd
        rw [hlx] at hz1 hi
        refine ⟨rfl, y, rfl, .ref aN, y, 0, z, 1, c, rfl, dN _, dp_same s2 _ _ dy, sz_zero, hz z (List.mem_of_getElem? hz1), by omega, trivial, fun v H3 s3 dv => ?_⟩
        have hD3 := s3 _ _ hD
        refine ⟨vs, hD3, small1000 (by omega), vs ++ [v], Same.new_upd (s2.trans s3) nD, upd_same, ?_, by rw [List.length_append, hl]; rfl⟩
        replace dv : Dp K H3 v (frD (0 - z)) := dv
        rw [show (0 : Rat) - z = -z by grind] at dv
        rw [mir_take hz1 hi]
        exact dps_put hD3 (noL_frs _) (dps_snoc (dps_same s3 _ _ dD) dv)
      · rintro H2 ⟨vs, s2, hD, dD, hl⟩
        rw [show (mirQ qs).take xs.length = mirQ qs from List.take_of_length_le (by rw [mir_len]; omega)] at dD
        refine ⟨D, vs, rfl, .inl ⟨SqL.of hD, fun t nt => ⟨_, rfl, (by decide : 2 ≤ sizeLine), fun t2 nt2 => ?_⟩⟩⟩
        exact q _ _ (s2.trans (same2 nt nt2)) (new_rowD nt2 (new_tup nt dD))
theorem ok_joinX {f C : Addr} {fd : FuncData} {k : Nat} (F : Fun K "joined" "joined" s_joined f fd) (Wd : WTxt K mg C) : FnOk P w K mg base (L2.CX P w) (k + 1) f fd ["one", "other"] (spJoinX K C) := by
  refine F.okX sc_joined (fun vs H Q E h => ?_) (fun cdv A outer s H vs Q E hr h => ?_)
  · obtain ⟨r1, r2, q1, q2, x1, x, rfl, _⟩ := h
    rfl
  · obtain ⟨r1, r2, q1, q2, x1, x, rfl, h1, h2, hlen, q, qx⟩ := h
    obtain ⟨a1, b1, xs1, rfl, ha1, hb1, hxs1⟩ := dp_row h1
    obtain ⟨a2, b2, xs2, rfl, ha2, hb2, hxs2⟩ := dp_row h2
    refine ⟨_, (pss_cons (ps_if (pt_cmpR op_ne (pe_ix ix_tup (pv 0) pe_int (fun _ _ => rfl)) pe_int (nomark _)) (pss_one (ps_raise rfl (takes_of rfl rfl rfl rfl) (pmk_own0 PySem.F.excBase_RuntimeError Wd.xW Wd.gW Wd.kW (raises_own Wd.bW Wd.tW) (by rfl)))) pss_nil)
      (pss_one (ps_ret (pe_tup (pa_cons (pe_op op_catD (pe_ix ix_tup (pv 0) pe_int (fun _ _ => rfl)) (pe_ix ix_tup (pv 1) pe_int (fun _ _ => rfl))) (pa_cons (pe_ix ix_tup (pv 1) pe_int (fun _ _ => rfl)) pa_nil)))))), ?_⟩
    refine ⟨.ref a1, rfl, a1, _, 1, _, rfl, rfl, ha1, atI_nat (j := 1) rfl, rfl, _, rfl, ite2 (fun e => ?_) (fun e => ?_)⟩
    · exact qx (fun z => by
        subst z
        simp at e)
    · have hx : x1 = 0 := by simpa using e
      refine ⟨.ref a1, rfl, a1, _, 0, _, rfl, rfl, ha1, atI_nat (j := 0) rfl, .ref a2, rfl, a2, _, 0, _, rfl, rfl, ha2, atI_nat (j := 0) rfl, _, _, .tup hb1 hxs1, .tup hb2 hxs2, by rw [frs_len, frs_len]; exact hlen, fun v H2 s2 dv => ?_⟩
      rw [← frs_app] at dv
      refine ⟨.ref a2, rfl, a2, _, 1, _, rfl, rfl, Same.tup s2 ha2, atI_nat (j := 1) rfl, (by decide : 2 ≤ sizeLine), fun p np => ?_⟩
      exact q hx _ _ (s2.trans (same_upd np)) (new_rowD np dv)
end
/-! ### a drawn row, a row trimmed by the law, what is told or refused -/
abbrev s__law_drawn : Stmt := topS 23
theorem sc__law_drawn : FnScope ["_law_box_here", "_law_panes", "_law_last"] ["_law_box_here"] (defScope s__law_drawn) := ⟨rfl, rfl, rfl, by decide +kernel, rfl, by decide +kernel, by decide +kernel⟩
abbrev s__law_trimmed : Stmt := topS 24
theorem sc__law_trimmed : FnScope ["_law_line", "_law_panes"] ["_law_line"] (defScope s__law_trimmed) := ⟨rfl, rfl, rfl, by decide +kernel, rfl, by decide +kernel, by decide +kernel⟩
abbrev s__law_told : Stmt := topS 25
theorem sc__law_told : FnScope ["_law_ask", "_law_some", "_law_caught", "_law_found", "error", "_law_fine"] ["_law_ask", "_law_some"] (defScope s__law_told) := ⟨rfl, rfl, rfl, by decide +kernel, rfl, by decide +kernel, by decide +kernel⟩
def spDrawn (K : PySem.W.Frag) : Sp := fun vs H Q _ => ∃ (p : Addr) (n : Nat), vs = [.ref p] ∧ Bx H p n ∧ n < 400000 ∧
  ∀ (v : V) (H' : Hp) (qs : List Rat) (x : Int), (∀ q ∈ qs, PaneQ q) → qs.length ≤ 6 → Chg p H H' → Bx H' p (n + 30) → Dp K H' v (rowD qs x) → Q v H'
theorem sh_frl (qs : List Rat) : SeqAt.shaped (.list (frs qs)) = true := by
  unfold SeqAt.shaped
  rw [Bool.and_eq_true]
  refine ⟨?_, decide_eq_true ?_⟩
  · simp only [PyData.canLay0]
    exact lay_frs qs
  · simp only [PyData.depth]
    have := dep_frs qs
    omega
theorem eqv_nil (qs : List Rat) : PyData.eqv (.list (frs qs)) (.list (frs [])) = decide (qs = []) := by
  cases qs with
  | nil => simp [frs, PyData.eqv, PyData.eqvAll]
  | cons q r => simp [frs, PyData.eqv, PyData.eqvAll]
theorem pane_zero : PaneQ 0 := ⟨by decide, by decide, ⟨by decide, by decide⟩⟩
structure TFr (mg : Str → Option Value) : Prop where
  misi : mg "isinstance" = none
/-- what is told of a row, and of two, or that it's refused -/
def toldD (ask : Str) (q1 : List Rat) (x1 : Int) (q2 : List Rat) (x2 : Int) : PyData :=
  if x1 = 0 then (if ask = "mirrored" then rowD (mirQ q1) 0 else rowD (q1 ++ q2) x2) else .str "walled"
def spTold (K : PySem.W.Frag) : Sp := fun vs H Q _ => ∃ (ask : Str) (r : V) (q1 q2 : List Rat) (x1 x2 : Int), vs = [.str ask, r] ∧ Dp K H r (.tuple [rowD q1 x1, rowD q2 x2]) ∧ (∀ q ∈ q1, Sz 6 q) ∧ q1.length ≤ 6 ∧ q2.length ≤ 6 ∧
  ∀ (v : V) (H' : Hp), Same H H' → Dp K H' v (toldD ask q1 x1 q2 x2) → Q v H'
section
variable {P : Program} {w : World} {K : PySem.W.Frag} {mg : Str → Option Value} {base : Heap}
theorem ok_drawn {f fR fK : Addr} {fd fdR fdK : FuncData} {k : Nat} (F : Fun K "_law_drawn" "_law_drawn" s__law_drawn f fd) (cR : Cal P w K mg base k "_law_row" ["_law_box_here", "_law_most"] (spRow K) fR fdR) (cK : Cal P w K mg base k "_law_take" ["_law_box_here", "_law_size"] spTake fK fdK) :
    FnOk P w K mg base CX0 (k + 1) f fd ["_law_box_here"] (spDrawn K) := by
  refine F.ok sc__law_drawn (fun vs H Q E h => ?_) (fun cdv A outer s H vs Q E hr h => ?_)
  · obtain ⟨p, n, rfl, _⟩ := h
    rfl
  · obtain ⟨p, n, rfl, hb, hn, q⟩ := h
    refine ⟨_, (pss_cons (ps_asg (pe_c cR hr (by rfl) (pa_cons (pv 0) (pa_cons pe_int pa_nil))) (pg_tup rfl (pgs_cons (pg_name (i := 1) sc__law_drawn.nd rfl (.inl rfl)) (pgs_cons (pg_name (i := 2) sc__law_drawn.nd rfl (.inl rfl)) pgs_nil))))
      (pss_one (ps_ret (pe_tup (pa_cons (pe_op op_catD (pv 1) (pe_op op_rep01 (pe_tup (pa_cons (pe_tup (pa_cons pe_int (pa_cons pe_int pa_nil))) pa_nil)) (pe_op op_mul (pe_c cK hr (by rfl) (pa_cons (pv 0) (pa_cons pe_int pa_nil))) (pe_c cK hr (by rfl) (pa_cons (pv 0) (pa_cons pe_int pa_nil)))))) (pa_cons (pv 2) pa_nil)))))), ?_⟩
    refine ⟨.ref p, rfl, p, 5, n, rfl, hb, by omega, by decide, fun v H1 qs x pq hl hx c1 b1 d1 => ?_⟩
    obtain ⟨a, b, xs, rfl, ha, hb1, hxs⟩ := dp_row d1
    refine ⟨a, _, rfl, ha, rfl, .ref b, [.int x], rfl, .int x, [], rfl, rfl, ?_⟩
    refine ⟨.ref b, rfl, (by decide : 2 ≤ sizeLine), fun o1 no1 => ⟨(by decide : 1 ≤ sizeLine), fun o2 no2 => ?_⟩⟩
    have sO := same2 (o1 := .tup [.int 0, .int 1]) (o2 := .tup [.ref o1]) no1 no2
    have dO : Dp K _ (.ref o2) (.tuple (frs [0])) := new_tup (xs := [.ref o1]) no2 (.cons (new_q no1 0 rfl rfl) .nil)
    have b2 := b1.same sO
    refine ⟨.ref p, rfl, p, 2, _, rfl, b2, by omega, by decide, by decide, fun r1 H3 h10 h11 c3 b3 => ?_⟩
    refine ⟨.ref p, rfl, p, 2, _, rfl, b3, by omega, by decide, by decide, fun r2 H4 h20 h21 c4 b4 => ?_⟩
    refine ⟨_, _, rfl, rfl, .inl ⟨by omega, by omega⟩, _, frs [0], rfl, b3.dp c4 (b2.dp c3 dO (by rfl)) (by rfl), by simp [frs], ?_, fun v5 H5 s5 d5 => ?_⟩
    · have e1 : r1 = 0 ∨ r1 = 1 := by omega
      have e2 : r2 = 0 ∨ r2 = 1 := by omega
      rcases e1 with rfl | rfl <;> rcases e2 with rfl | rfl <;> simp
    have dB : Dp K H1 (.ref b) (.tuple (frs qs)) := .tup hb1 hxs
    have dB5 := dp_same s5 _ _ (b3.dp c4 (b2.dp c3 (dp_same sO _ _ dB) (noL_frs qs)) (noL_frs qs))
    have C5 : Chg p H H5 := c1.trans ((Chg.of_same sO).trans (c3.trans (c4.trans (Chg.of_same s5))))
    have b5 := b4.same s5
    refine ⟨_, _, dB5, d5, ?_, fun v6 H6 s6 d6 => ⟨_, rfl, (by decide : 2 ≤ sizeLine), fun o3 no3 => ?_⟩⟩
    · rw [frs_len]
      split <;> simp [frs] <;> omega
    have s7 := same_upd (o := .tup [v6, .int x]) no3
    have C7 := C5.trans (Chg.of_same (s6.trans s7))
    have b7 := (b5.same (s6.trans s7)).mono (show n + 4 * 5 + 2 + 1 + 1 ≤ n + 30 by omega)
    by_cases h0 : r1 * r2 = 0
    · rw [if_pos h0, List.append_nil] at d6
      exact q _ _ qs x pq (by omega) C7 b7 (new_rowD no3 d6)
    · rw [if_neg h0, ← frs_app] at d6
      refine q _ _ (qs ++ [0]) x (fun z hz => ?_) (by rw [List.length_append]; simp; omega) C7 b7 (new_rowD no3 d6)
      rcases List.mem_append.mp hz with h | h
      · exact pq z h
      · rw [List.mem_singleton.mp h]
        exact pane_zero
theorem ok_ltrim {f : Addr} {fd : FuncData} {k : Nat} (F : Fun K "_law_trimmed" "_law_trimmed" s__law_trimmed f fd) (T : Frees mg) : FnOk P w K mg base CX0 (k + 1) f fd ["_law_line"] (spTrim K) := by
  refine F.ok sc__law_trimmed (fun vs H Q E h => ?_) (fun cdv A outer s H vs Q E hr h => ?_)
  · obtain ⟨r, qs, x, rfl, _⟩ := h
    rfl
  · obtain ⟨r, qs, x, rfl, hR, q⟩ := h
    obtain ⟨a, b, xs, rfl, ha, hb, hxs⟩ := dp_row hR
    have hlx : xs.length = qs.length := by rw [dps_len hxs, frs_len]
    refine ⟨_, (pss_cons (ps_set (i := 1) sc__law_trimmed.nd rfl (.inl rfl) (pe_callTy call_list_of (by rfl) T.mlist PyProof.Rows.boot_list (pa_cons (pe_ix ix_tup (pv 0) pe_int (fun _ _ => rfl)) pa_nil)))
      (pss_cons (ps_while PassesOwn.never (PW.pt (pw_and (pt_cmpR op_eq (pe_ix ix_tup (pv 0) pe_int (fun _ _ => rfl)) pe_int (nomark _)) (pw_and (pt_cmpR (op_neD hr.units) (pv 1) (pe_lst pa_nil) (nomark _)) (pw_and1 (pt_cmpR (op_eqD hr.units) (pe_ix ix_list (pv 1) (pe_un un_neg pe_int) (fun _ _ => rfl)) (pe_tup (pa_cons pe_int (pa_cons pe_int pa_nil))) (nomark _)))))) (pss_one (ps_expr (pe_bm0 PySem.F.plainAttrs_list PySem.F.slot_list_pop PySem.F.type_list_pop mt_pop (pv 1)))))
      (pss_one (ps_ret (pe_tup (pa_cons (pe_callTy call_tuple_of (by rfl) T.mtuple PyProof.Rows.boot_tuple (pa_cons (pv 1) pa_nil)) (pa_cons (pe_ix ix_tup (pv 0) pe_int (fun _ _ => rfl)) pa_nil))))))), ?_⟩
    refine ⟨.ref a, rfl, a, _, 0, _, rfl, rfl, ha, atI_nat (j := 0) rfl, b, xs, rfl, .inr hb, fun L nL => ?_⟩
    refine ⟨fun m σ H2 => ∃ us : List V, σ = [some (.ref a), some (.ref L)] ∧ Same H H2 ∧ H2 L = some (.lst us) ∧ DpAll K H2 us (frs (qs.take m)) ∧ m ≤ qs.length ∧ (∀ z ∈ qs.drop m, z = 0) ∧ (x ≠ 0 → m = qs.length),
      ⟨qs.length, xs, rfl, same_upd nL, upd_same, by rw [List.take_length]; exact dps_same (same_upd nL) _ _ hxs, Nat.le_refl _, ?_, fun _ => rfl⟩, ?_⟩
    · intro z hz
      rw [List.drop_of_length_le (Nat.le_refl _)] at hz
      cases hz
    · rintro m σ H2 ⟨us, rfl, s2, hL, dU, hm, hz, hxm⟩
      have hul : us.length = m := by
        rw [dps_len dU, frs_len, List.length_take]
        omega
      have out : (x ≠ 0 ∨ m = 0 ∨ ∃ z, qs[m - 1]? = some z ∧ z ≠ 0) → ∀ H3, Same H2 H3 → tRet (tTup (tCons (tCB (fun xs H Q => ∃ p ys, xs = [V.ref p] ∧ ((SqL K H p ys ∧ ∀ l, H l = none → Q (.ref l) (upd H l (.tup ys))) ∨ (SqT K H p ys ∧ Q (.ref p) H))) (tCons (tVar 1) tNil)) (tCons (tOp (rIxT K) (tVar 0) (tC (.int 1))) tNil))) { nx := fun _ H' => Q .non H', rt := Q } [some (.ref a), some (.ref L)] H3 := by
        intro h1 H3 s3
        refine ⟨.ref L, rfl, L, us, rfl, .inl ⟨SqL.of (s3 _ _ hL), fun t nt => ⟨.ref a, rfl, a, _, 1, _, rfl, rfl, Same.tup ((s2.trans s3).trans (same_upd nt)) ha, atI_nat (j := 1) rfl, (by decide : 2 ≤ sizeLine), fun t2 nt2 => ?_⟩⟩⟩
        refine q _ _ ((s2.trans s3).trans (same2 nt nt2)) ?_
        have e : trimR qs x = qs.take m := by
          unfold trimR
          by_cases hx : x = 0
          · rw [if_pos hx]
            refine trimL_take hm hz ?_
            rcases h1 with h1 | h1
            · exact absurd hx h1
            · exact h1
          · rw [if_neg hx, hxm hx, List.take_length]
        rw [e]
        exact new_rowD nt2 (new_tup nt (dps_same s3 _ _ dU))
      refine ⟨.ref a, rfl, a, _, 1, _, rfl, rfl, Same.tup s2 ha, atI_nat (j := 1) rfl, rfl, _, rfl, ?_⟩
      by_cases hx : x = 0
      · rw [decide_eq_true (congrArg V.int hx)]
        refine iteT ⟨.ref L, rfl, Nat.zero_le _, fun E1 nE1 => ?_⟩
        have s3 := same_upd (o := .lst []) nE1
        have dU3 := dps_same s3 _ _ dU
        refine ⟨.list (frs (qs.take m)), .list (frs []), .lst (SqL.of (s3 _ _ hL)) dU3, new_lst nE1 .nil, sh_frl _, sh_frl _, _, rfl, ?_⟩
        rw [eqv_nil]
        by_cases h0 : m = 0
        · subst h0
          rw [decide_eq_true (show qs.take 0 = [] from rfl)]
          exact iteF (iteF (out (.inr (.inl rfl)) _ s3))
        · obtain ⟨j, rfl⟩ : ∃ j, m = j + 1 := ⟨m - 1, by omega⟩
          have hj : j < qs.length := by omega
          rw [decide_eq_false (show ¬ qs.take (j + 1) = [] from fun z => by
            have h9 := congrArg List.length z
            rw [List.length_take, List.length_nil] at h9
            omega)]
          have etk : qs.take (j + 1) = qs.take j ++ [qs[j]] := by
            rw [List.take_add_one, List.getElem?_eq_getElem hj]
            rfl
          have lq : Lq K (upd H2 E1 (.lst [])) L (qs.take j ++ [qs[j]]) := etk ▸ ⟨us, s3 _ _ hL, dU3⟩
          obtain ⟨ua, u, hu, du⟩ := lq.last
          refine iteT ⟨.ref L, rfl, 1, rfl, L, _, -1, u, rfl, rfl, SqL.of hu, atI_last _ _, (by decide : 2 ≤ sizeLine), fun o1 no1 => ?_⟩
          have s4 := same_upd (o := .tup [.int 0, .int 1]) no1
          refine ⟨_, _, dp_same s4 _ _ du, new_q no1 0 rfl rfl, sh_fr _, sh_fr _, _, rfl, ?_⟩
          rw [eqv_fr]
          have hu4 := s4 _ _ hu
          by_cases hz0 : qs[j] = 0
          · rw [decide_eq_true hz0]
            refine iteT ⟨fun σ' H' => ∃ us2 : List V, σ' = [some (.ref a), some (.ref L)] ∧ Same H H' ∧ H' L = some (.lst us2) ∧ DpAll K H' us2 (frs (qs.take j)), fun σ' H' hN => ?_, ?_⟩
            · obtain ⟨us2, e1, e2, e3, e4⟩ := hN
              refine ⟨j, by omega, us2, e1, e2, e3, e4, by omega, fun z hz2 => ?_, fun hx2 => absurd hx hx2⟩
              rw [List.drop_eq_getElem_cons hj] at hz2
              rcases List.mem_cons.mp hz2 with rfl | hz2
              · exact hz0
              · exact hz z hz2
            · have dA : DpAll K (upd (upd H2 E1 (.lst [])) o1 (.tup [.int 0, .int 1])) ua (frs (qs.take j)) := by
                have d6 := dps_same s4 _ _ dU3
                have e6 : us = ua ++ [u] := by
                  have := (s3 _ _ hL).symm.trans hu
                  injection this with this
                  injection this
                rw [e6, etk, frs_app] at d6
                have d7 := dps_take ua.length d6
                have l7 := dps_len d6
                rw [List.length_append, List.length_append, frs_len] at l7
                have l8 : ua.length = (frs (qs.take j)).length := by
                  rw [frs_len]
                  simp [frs] at l7
                  simp
                  omega
                rw [List.take_left, l8, List.take_left] at d7
                exact d7
              refine ⟨.ref L, rfl, .inl ⟨rfl, _, SqL.of hu4⟩, L, _, u, rfl, rfl, hu4, ?_, ?_⟩
              · simp
              · refine ⟨ua, rfl, Same.new_upd (s2.trans (s3.trans s4)) nL, ?_, ?_⟩
                · rw [upd_same, List.dropLast_concat]
                · exact dps_put hu4 (noL_frs _) dA
          · rw [decide_eq_false hz0]
            refine iteF (out (.inr (.inr ⟨qs[j], ?_, hz0⟩)) _ (s3.trans s4))
            exact List.getElem?_eq_getElem hj
      · rw [decide_eq_false (fun z => hx (V.int.inj z))]
        exact iteF (iteF (out (.inl hx) _ (Same.refl H2)))
theorem ok_told {f fM fJ CW CP CM CR : Addr} {fd fdM fdJ : FuncData} {k : Nat} (F : Fun K "_law_told" "_law_told" s__law_told f fd) (T : TFr mg) (mRE : mg "RuntimeError" = none) (Wd : WTxt K mg CW) (EC : ExcC K CW)
    (gNP : mg "NoPane" = some (.ref CP)) (gNM : mg "NoRoom" = some (.ref CM)) (gNR : mg "NoRow" = some (.ref CR))
    (kM : PySem.W.keepIn K (.ref fM) = true) (Gm : FnOk P w K mg base (L2.CX P w) k fM fdM ["row"] (spMirX K CW)) (bm : Binds K fdM ["row"] []) (gm : mg "mirrored" = some (.ref fM))
    (kJ : PySem.W.keepIn K (.ref fJ) = true) (Gj : FnOk P w K mg base (L2.CX P w) k fJ fdJ ["one", "other"] (spJoinX K CW)) (bj : Binds K fdJ ["one", "other"] []) (gj : mg "joined" = some (.ref fJ))
    (hex : PySem.W.exmAny K (.ref CW) [.ref CP, .ref CM, .ref CR, .ref CW] = some true) (h1 : PySem.W.kitOne K (.ref CW) (.ref CW) = some true) (h2 : PySem.W.kitOne K (.ref CW) (.type "RuntimeError") = some true) (h3 : PySem.W.kitAny K (.ref CW) [.ref CP, .ref CM] = some false) :
    FnOk P w K mg base CX0 (k + 1) f fd ["_law_ask", "_law_some"] (spTold K) := by
  refine F.ok sc__law_told (fun vs H Q E h => ?_) (fun cdv A outer s H vs Q E hr h => ?_)
  · obtain ⟨ask, r, q1, q2, x1, x2, rfl, _⟩ := h
    rfl
  · obtain ⟨ask, r, q1, q2, x1, x2, rfl, hR, hz, hl1, hl2, q⟩ := h
    obtain ⟨a0, xs0, rfl, ha0, hx0⟩ := dp_tup hR
    obtain ⟨u1, u2, rfl, d1, d2⟩ : ∃ u1 u2, xs0 = [u1, u2] ∧ Dp K H u1 (rowD q1 x1) ∧ Dp K H u2 (rowD q2 x2) := by
      cases hx0 with
      | cons x y =>
        cases y with
        | cons z t =>
          cases t
          exact ⟨_, _, rfl, x, z⟩
    refine ⟨_, (pss_cons (ps_asg (pe_tup (pa_cons pe_non (pa_cons pe_non pa_nil))) (pg_tup rfl (pgs_cons (pg_name (i := 2) sc__law_told.nd rfl (.inl rfl)) (pgs_cons (pg_name (i := 3) sc__law_told.nd rfl (.inl rfl)) pgs_nil))))
      (pss_cons (ps_try_keep4 (i := 4) (tb := fun W => tAsg (tIf (tTest (tOp rEq (tVar 0) (tC (.str "mirrored")))) (tCallS (spMirX K CW) (fun σ => WE W σ) (tCons (tOp (rIxT K) (tVar 1) (tC (.int 0))) tNil)) (tCallS (spJoinX K CW) (fun σ => WE W σ) (tCons (tOp (rIxT K) (tVar 1) (tC (.int 0))) (tCons (tOp (rIxT K) (tVar 1) (tC (.int 1))) tNil)))) (gName 3)) rfl rfl sc__law_told.nd rfl rfl rfl (by rfl) gNP (by rfl) gNM (by rfl) gNR (by rfl) Wd.gW (fun W pn xe tk _ => (pss_one (ps_set (i := 3) sc__law_told.nd rfl (.inl rfl) (pe_ifExp (pt_cmpR op_eq (pv 0) pe_str (nomark _)) (pe_callS Gm hr (by rfl) gm kM bm (fun σ => passAt tk σ) (pa_cons (pe_ix ix_tup (pv 1) pe_int (fun _ _ => rfl)) pa_nil)) (pe_callS Gj hr (by rfl) gj kJ bj (fun σ => passAt tk σ) (pa_cons (pe_ix ix_tup (pv 1) pe_int (fun _ _ => rfl)) (pa_cons (pe_ix ix_tup (pv 1) pe_int (fun _ _ => rfl)) pa_nil))))))) (fun a oe cls d pn hz hf => (pss_one (ps_set (i := 2) sc__law_told.nd rfl (.inl rfl) (pv 4)))))
      (pss_cons (ps_if (pt_cmpR op_isN (pv 2) pe_non (nomark _)) (pss_one (ps_ret (pv 3))) pss_nil)
      (pss_cons (ps_set (i := 5) sc__law_told.nd rfl (.inl rfl) (pe_and (pe_callB (call_isK EC) (by rfl) T.misi PyProof.Rows.boot_isinstance (pa_cons (pv 2) (pa_cons (pe_glob (v := .ref CW) (by rfl) Wd.gW rfl) pa_nil))) (pe_and (pe_callB (call_isK EC) (by rfl) T.misi PyProof.Rows.boot_isinstance (pa_cons (pv 2) (pa_cons (pe_bltn (v := .ty "RuntimeError") (by rfl) mRE (by decide +kernel) rfl) pa_nil))) (pe_one (pe_not (pe_callB (call_isKT EC) (by rfl) T.misi PyProof.Rows.boot_isinstance (pa_cons (pv 2) (pa_cons (pe_tup (pa_cons (pe_glob (v := .ref CP) (by rfl) gNP rfl) (pa_cons (pe_glob (v := .ref CM) (by rfl) gNM rfl) pa_nil))) pa_nil))))))))
      (pss_one (ps_ret (pe_ifExp (pt_val (pv 5)) pe_str pe_str))))))), ?_⟩
    refine ⟨(by decide : 2 ≤ sizeLine), fun t0 nt0 => ⟨t0, _, rfl, SqT.of upd_same, rfl, .non, [.non], rfl, .non, [], rfl, rfl, ?_⟩⟩
    have s0 := same_upd (o := .tup [.non, .non]) nt0
    replace ha0 := Same.tup s0 ha0
    replace d1 := dp_same s0 _ _ d1
    replace d2 := dp_same s0 _ _ d2
    replace q : ∀ (v : V) (H' : Hp), Same (upd H t0 (.tup [.non, .non])) H' → Dp K H' v (toldD ask q1 x1 q2 x2) → Q v H' := fun v H' s' => q v H' (s0.trans s')
    refine ⟨.str ask, rfl, rfl, _, rfl, ite2 (fun e => ?_) (fun e => ?_)⟩
    · have ea : ask = "mirrored" := by simpa using e
      refine ⟨.ref a0, rfl, a0, _, 0, u1, rfl, rfl, ha0, atI_nat (j := 0) rfl, u1, q1, x1, 6, rfl, d1, hz, by decide, by omega, fun hx v H2 s2 dv => ?_, fun hx => ⟨hex, fun a na => ⟨.ref a, rfl, ?_⟩⟩⟩
      · refine ⟨_, rfl, rfl, _, rfl, iteT ⟨v, rfl, q _ _ s2 ?_⟩⟩
        unfold toldD
        rw [if_pos hx, if_pos ea]
        exact dv
      · refine ⟨.ref a, rfl, rfl, _, rfl, iteF ?_⟩
        refine ⟨.ref a, rfl, a, .ref CW, _, true, rfl, upd_same, .own CW, h1, true, rfl, iteT ⟨.ref a, rfl, a, .ty "RuntimeError", _, true, rfl, upd_same, .ty _, h2, true, rfl, iteT ⟨.ref a, rfl, (by decide : 2 ≤ sizeLine), fun t nt => ?_⟩⟩⟩
        have sE := same2 (o1 := excHO a (.ref CW) none) (o2 := .tup [.ref CP, .ref CM]) na nt
        refine ⟨a, t, _, _, false, rfl, same_upd nt _ _ upd_same, upd_same, .cons (.own CP) (.cons (.own CM) .nil), h3, false, rfl, ?_⟩
        refine ⟨_, rfl, true, rfl, iteT (q _ _ sE ?_)⟩
        unfold toldD
        rw [if_neg hx]
        exact .str _
    · have ea : ¬ ask = "mirrored" := by simpa using e
      refine ⟨.ref a0, rfl, a0, _, 0, u1, rfl, rfl, ha0, atI_nat (j := 0) rfl, .ref a0, rfl, a0, _, 1, u2, rfl, rfl, ha0, atI_nat (j := 1) rfl, u1, u2, q1, q2, x1, x2, rfl, d1, d2, by omega, fun hx v H2 s2 dv => ?_, fun hx => ⟨hex, fun a na => ⟨.ref a, rfl, ?_⟩⟩⟩
      · refine ⟨_, rfl, rfl, _, rfl, iteT ⟨v, rfl, q _ _ s2 ?_⟩⟩
        unfold toldD
        rw [if_pos hx, if_neg ea]
        exact dv
      · refine ⟨.ref a, rfl, rfl, _, rfl, iteF ?_⟩
        refine ⟨.ref a, rfl, a, .ref CW, _, true, rfl, upd_same, .own CW, h1, true, rfl, iteT ⟨.ref a, rfl, a, .ty "RuntimeError", _, true, rfl, upd_same, .ty _, h2, true, rfl, iteT ⟨.ref a, rfl, (by decide : 2 ≤ sizeLine), fun t nt => ?_⟩⟩⟩
        have sE := same2 (o1 := excHO a (.ref CW) none) (o2 := .tup [.ref CP, .ref CM]) na nt
        refine ⟨a, t, _, _, false, rfl, same_upd nt _ _ upd_same, upd_same, .cons (.own CP) (.cons (.own CM) .nil), h3, false, rfl, ?_⟩
        refine ⟨_, rfl, true, rfl, iteT (q _ _ sE ?_)⟩
        unfold toldD
        rw [if_neg hx]
        exact .str _
end
/-! ### the law -/
abbrev s_law : Stmt := topS 26
theorem sc_law : FnScope ["_law_script", "_law_k", "_law_box_here", "_law_mine", "_law_two", "_law_due", "_law_told_here", "_law_turned_about", "_law_both", "_law_top", "_law_under"] ["_law_script"] (defScope s_law) := ⟨rfl, rfl, rfl, by decide +kernel, rfl, by decide +kernel, by decide +kernel⟩
def spLaw (K : PySem.W.Frag) : Sp := fun vs H Q _ => ∃ (a : Addr) (ns : List Int), vs = [.ref a] ∧ SqL K H a (ns.map V.int) ∧ ns.length ≤ 63 ∧ ∀ H', Q (.bl true) H'
theorem okD_fr (d : Nat) (q : Rat) : okD (d + 2) (frD q) = true := rfl
theorem okD_frt (d : Nat) (qs : List Rat) (h : qs.length ≤ 1000) : okD (d + 3) (.tuple (frs qs)) = true := by
  unfold okD
  rw [Bool.and_eq_true, frs_len]
  refine ⟨decide_eq_true h, List.all_eq_true.mpr fun x hx => ?_⟩
  obtain ⟨q, _, rfl⟩ := List.mem_map.mp hx
  exact okD_fr d q
theorem okD_row (d : Nat) (qs : List Rat) (x : Int) (h : qs.length ≤ 1000) : okD (d + 4) (rowD qs x) = true := by
  unfold rowD okD
  rw [Bool.and_eq_true, List.all_cons, okD_frt d qs h]
  exact ⟨rfl, rfl⟩
theorem okD_list {d : Nat} {ds : List PyData} (h : ds.length ≤ 1000) (a : ∀ x ∈ ds, okD d x = true) : okD (d + 1) (.list ds) = true := by
  unfold okD
  rw [Bool.and_eq_true]
  exact ⟨decide_eq_true h, List.all_eq_true.mpr a⟩
theorem trimR_len (qs : List Rat) (x : Int) : (trimR qs x).length ≤ qs.length := by
  unfold trimR
  split
  · obtain ⟨m, hm, e⟩ := trimL_is qs
    rw [e, List.length_take]
    omega
  · exact Nat.le_refl _
theorem mir_take0 {qs : List Rat} {i : Nat} {q : Rat} (h : qs.reverse[i]? = some q) : (mirQ qs).take (i + 1) = (mirQ qs).take i ++ [-q] := by
  rw [List.take_add_one]
  have e : (mirQ qs)[i]? = some (-q) := by
    unfold mirQ
    rw [← List.map_reverse, List.getElem?_map, h]
    rfl
  rw [e]
  rfl
theorem known_trim : trimR [Rat.divInt 1 2, 0] 0 = [Rat.divInt 1 2] := by decide +kernel
section
variable {P : Program} {w : World} {K : PySem.W.Frag} {mg : Str → Option Value} {base : Heap}
theorem ok_law {f f1 f2 f3 f4 f5 f6 fM fJ CW : Addr} {fd fd1 fd2 fd3 fd4 fd5 fd6 fdM fdJ : FuncData} {k : Nat} (F : Fun K "law" "law" s_law f fd) (T : Frees mg)
    (cBox : Cal P w K mg base k "_law_box" ["_law_script", "_law_k"] (spBox K) f1 fd1) (cD : Cal P w K mg base k "_law_drawn" ["_law_box_here"] (spDrawn K) f2 fd2) (cLT : Cal P w K mg base k "_law_trimmed" ["_law_line"] (spTrim K) f3 fd3)
    (cT : Cal P w K mg base k "trimmed" ["row"] (spTrim K) f4 fd4) (kT : KBn K fd4 ["row"] 0 ["row"] (fun us ws => us ++ ws) (fun vs zs => vs ++ zs)) (cS : Cal P w K mg base k "_law_same" ["_law_found", "_law_due"] (spSame K 6) f5 fd5)
    (cTo : Cal P w K mg base k "_law_told" ["_law_ask", "_law_some"] (spTold K) f6 fd6)
    (kM : PySem.W.keepIn K (.ref fM) = true) (Gm : FnOk P w K mg base (L2.CX P w) k fM fdM ["row"] (spMirX K CW)) (bm : Binds K fdM ["row"] []) (gm : mg "mirrored" = some (.ref fM)) (kbM : KBn K fdM ["row"] 0 ["row"] (fun us ws => us ++ ws) (fun vs zs => vs ++ zs))
    (kJ : PySem.W.keepIn K (.ref fJ) = true) (Gj : FnOk P w K mg base (L2.CX P w) k fJ fdJ ["one", "other"] (spJoinX K CW)) (bj : Binds K fdJ ["one", "other"] []) (gj : mg "joined" = some (.ref fJ)) (kbJ : KBn K fdJ ["one", "other"] 0 ["other", "one"] (fun us ws => ws.drop 1 ++ ws.take 1) (fun vs zs => zs.drop 1 ++ zs.take 1)) :
    FnOk P w K mg base CX0 (k + 1) f fd ["_law_script"] (spLaw K) := by
  refine F.ok sc_law (fun vs H Q E h => ?_) (fun cdv A outer s H vs Q E hr h => ?_)
  · obtain ⟨a, ns, rfl, _⟩ := h
    rfl
  · obtain ⟨a, ns, rfl, hS, hlen, q⟩ := h
    refine ⟨_, (pss_cons (ps_for PassesOwn.never rfl (pi_range1 (by rfl) T.mrange (pa_cons (pe_op op_add pe_int (pe_callB (call_min2 rfl) (by rfl) T.mmin PyProof.Rows.boot_min (pa_cons pe_int (pa_cons (pe_callB call_len_seq (by rfl) T.mlen PySem.boot_len (pa_cons (pv 0) pa_nil)) pa_nil)))) pa_nil)) (pg_name (i := 1) sc_law.nd rfl (.inl rfl))
      (pss_cons (ps_set (i := 2) sc_law.nd rfl (.inl rfl) (pe_c cBox hr (by rfl) (pa_cons (pv 0) (pa_cons (pv 1) pa_nil))))
      (pss_cons (ps_par (by rfl) sc_law.nd (i := 3) (j := 4) rfl rfl (by decide) rfl rfl (pa_cons (pe_c cD hr (by rfl) (pa_cons (pv 2) pa_nil)) (pa_cons (pe_c cD hr (by rfl) (pa_cons (pv 2) pa_nil)) pa_nil)) (by rfl))
      (pss_cons (ps_set (i := 5) sc_law.nd rfl (.inl rfl) (pe_c cLT hr (by rfl) (pa_cons (pv 3) pa_nil)))
      (pss_cons (ps_set (i := 6) sc_law.nd rfl (.inl rfl) (pe_lst (pa_cons (pe_c cT hr (by rfl) (pa_cons (pv 3) pa_nil)) (pa_cons (pe_callN0 cT.ok hr (by rfl) cT.at_ cT.kp kT pass0 (pk_cons (pv 3) pk_nil)) (pa_cons (pe_c cT hr (by rfl) (pa_cons (pv 5) pa_nil)) pa_nil)))))
      (pss_cons (ps_if (pt_not (pt_val (pe_c cS hr (by rfl) (pa_cons (pv 6) (pa_cons (pe_op op_rep (pe_lst (pa_cons (pv 5) pa_nil)) pe_int) pa_nil))))) pss_never pss_nil)
      (pss_cons (ps_set (i := 7) sc_law.nd rfl (.inl rfl) (pe_ifExp (pt_cmpR op_eq (pe_ix ix_tup (pv 3) pe_int (fun _ _ => rfl)) pe_int (nomark _)) (pe_tup (pa_cons (pe_callTy call_tuple_of (by rfl) T.mtuple PyProof.Rows.boot_tuple (pa_cons (pe_lc (own := [("_law_top", 9), ("_law_under", 10)]) (g := (gTup K 2 (gCons (gName 9) (gCons (gName 10) gNil)))) (tt := tYes) rfl sc_law.nd (pi_tup (pe_revT (pe_ix ix_tup (pv 3) pe_int (fun _ _ => rfl)))) (blkOk_by (N := ["_law_script", "_law_k", "_law_box_here", "_law_mine", "_law_two", "_law_due", "_law_told_here", "_law_turned_about", "_law_both", "_law_top", "_law_under"]) (sc := defScope s_law) (by decide +kernel)) (fun _ _ _ _ _ => pg_tup rfl (pgs_cons (pg_name (i := 9) sc_law.nd rfl (.inl rfl)) (pgs_cons (pg_name (i := 10) sc_law.nd rfl (.inl rfl)) pgs_nil))) (fun _ _ _ _ _ => pts_nil) (fun _ _ _ _ _ => (pe_tup (pa_cons (pe_un un_neg (pv 9)) (pa_cons (pv 10) pa_nil))))) pa_nil)) (pa_cons pe_int pa_nil))) pe_str))
      (pss_cons (ps_set (i := 8) sc_law.nd rfl (.inl rfl) (pe_ifExp (pt_cmpR op_eq (pe_ix ix_tup (pv 3) pe_int (fun _ _ => rfl)) pe_int (nomark _)) (pe_tup (pa_cons (pe_op op_catD (pe_ix ix_tup (pv 3) pe_int (fun _ _ => rfl)) (pe_ix ix_tup (pv 4) pe_int (fun _ _ => rfl))) (pa_cons (pe_ix ix_tup (pv 4) pe_int (fun _ _ => rfl)) pa_nil))) pe_str))
      (pss_cons (ps_if (pt_not (pt_val (pe_c cS hr (by rfl) (pa_cons (pe_lst (pa_cons (pe_c cTo hr (by rfl) (pa_cons pe_str (pa_cons (pe_tup (pa_cons (pv 3) (pa_cons (pv 4) pa_nil))) pa_nil))) (pa_cons (pe_c cTo hr (by rfl) (pa_cons pe_str (pa_cons (pe_tup (pa_cons (pv 3) (pa_cons (pv 4) pa_nil))) pa_nil))) pa_nil))) (pa_cons (pe_lst (pa_cons (pv 7) (pa_cons (pv 8) pa_nil))) pa_nil))))) pss_never pss_nil)
      (pss_cons (ps_set (i := 6) sc_law.nd rfl (.inl rfl) (pe_ifExp (pt_cmpR op_eq (pe_ix ix_tup (pv 3) pe_int (fun _ _ => rfl)) pe_int (nomark _)) (pe_lst (pa_cons (pe_callN0 Gm hr (by rfl) gm kM kbM passL (pk_cons (pe_call Gm hr (by rfl) gm kM bm .nil passL (pa_cons (pv 3) pa_nil)) pk_nil)) (pa_cons (pe_callN0 Gj hr (by rfl) gj kJ kbJ passL (pk_cons (pv 4) (pk_cons (pv 3) pk_nil))) pa_nil))) (pe_lst (pa_cons (pv 3) (pa_cons (pv 8) pa_nil)))))
      (pss_cons (ps_if (pt_not (pt_val (pe_c cS hr (by rfl) (pa_cons (pv 6) (pa_cons (pe_lst (pa_cons (pv 3) (pa_cons (pv 8) pa_nil))) pa_nil))))) pss_never pss_nil)
      (pss_one (ps_if (PW.pt (pw_and (pt_cmpR op_eq (pe_ix ix_tup (pv 3) pe_int (fun _ _ => rfl)) pe_int (nomark _)) (pw_and (pt_cmpR op_eq (pe_ix ix_tup (pv 4) pe_int (fun _ _ => rfl)) pe_int (nomark _)) (pw_and1 (pt_cmpR (op_neD hr.units) (pe_call Gm hr (by rfl) gm kM bm .nil passL (pa_cons (pv 8) pa_nil)) (pe_call Gj hr (by rfl) gj kJ bj .nil passL (pa_cons (pe_call Gm hr (by rfl) gm kM bm .nil passL (pa_cons (pv 4) pa_nil)) (pa_cons (pe_call Gm hr (by rfl) gm kM bm .nil passL (pa_cons (pv 3) pa_nil)) pa_nil))) (nomark _)))))) pss_never pss_nil)))))))))))))
      (pss_one (ps_ret (pe_and (pe_cmpR (op_eqD hr.units) (pe_c cT hr (by rfl) (pa_cons (pe_tup (pa_cons (pe_tup (pa_cons (pe_tup (pa_cons pe_int (pa_cons pe_int pa_nil))) (pa_cons (pe_tup (pa_cons pe_int (pa_cons pe_int pa_nil))) pa_nil))) (pa_cons pe_int pa_nil))) pa_nil)) (pe_tup (pa_cons (pe_tup (pa_cons (pe_tup (pa_cons pe_int (pa_cons pe_int pa_nil))) pa_nil)) (pa_cons pe_int pa_nil))) (nomark _)) (pe_one (pe_cmpR (op_eqD hr.units) (pe_c cT hr (by rfl) (pa_cons (pe_tup (pa_cons (pe_tup (pa_cons (pe_tup (pa_cons pe_int (pa_cons pe_int pa_nil))) pa_nil)) (pa_cons pe_int pa_nil))) pa_nil)) (pe_tup (pa_cons (pe_tup (pa_cons (pe_tup (pa_cons pe_int (pa_cons pe_int pa_nil))) pa_nil)) (pa_cons pe_int pa_nil))) (nomark _))))))), ?_⟩
    refine ⟨.ref a, rfl, a, _, rfl, .inl hS, 7, _, rfl, _, _, rfl, rfl, _, rfl, ?_, ?_, ?_⟩
    · split <;> omega
    · split <;> omega
    · have hn : ∀ m : Int, m = (ns.map V.int).length → (1 + if m < 7 then m else 7).toNat ≤ 8 := fun m _ => by split <;> omega
      refine for_it walk_range (fun i σ H2 => ∃ e1 e2 e3 e4 e5 e6 e7 e8 e9 e10 : Option V, σ = [some (.ref a), e1, e2, e3, e4, e5, e6, e7, e8, e9, e10] ∧ Same H H2) ⟨none, none, none, none, none, none, none, none, none, none, rfl, Same.refl H⟩ (fun _ _ _ _ _ => trivial) ?_ ?_
      · rintro i y σ H0 H0' hi ⟨e1, e2, e3, e4, e5, e6, e7, e8, e9, e10, rfl, s0⟩ ⟨rfl, rfl⟩
        have hi8 : i < 8 := Nat.lt_of_lt_of_le hi (hn _ rfl)
        refine ⟨.ref a, rfl, _, rfl, a, _, ns, rfl, s0.seq hS, by omega, by omega, fun p H1 np s1 b1 => ?_⟩
        -- mine, two
        refine ⟨.ref p, rfl, p, _, rfl, b1, by omega, fun v1 H2 q1 x1 pq1 hl1 c2 b2 d1 => ?_⟩
        refine ⟨.ref p, rfl, p, _, rfl, b2, by omega, fun v2 H3 q2 x2 pq2 hl2 c3 b3 d2 => ⟨_, _, rfl, ?_⟩⟩
        have s3 : Same H0' H3 := Same.chg_new s1 np (c2.trans c3)
        replace d1 := b2.dp c3 d1 (noL_row _ _)
        have z1 : ∀ z ∈ q1, Sz 6 z := fun z hz => (pq1 z hz).sz
        have z2 : ∀ z ∈ q2, Sz 6 z := fun z hz => (pq2 z hz).sz
        have m1 : ∀ z ∈ mirQ q1, Sz 6 z := fun z hz => (mir_pane (fun t ht => (pq1 t ht).z) z hz).sz
        -- due
        refine ⟨v1, rfl, v1, q1, x1, rfl, d1, fun vd H4 s4 dd => ?_⟩
        -- told
        refine ⟨v1, rfl, v1, q1, x1, rfl, dp_same s4 _ _ d1, fun t1 H5 s5 dt1 => ?_⟩
        refine ⟨v1, rfl, rfl, rfl, v1, q1, x1, rfl, dp_same (s4.trans s5) _ _ d1, fun t2 H6 s6 dt2 => ?_⟩
        refine ⟨vd, rfl, vd, _, x1, rfl, dp_same (s5.trans s6) _ _ dd, fun t3 H7 s7 dt3 => ?_⟩
        rw [trimR_idem] at dt3
        refine ⟨(by decide : 3 ≤ sizeLine), fun M1 nM1 => ?_⟩
        have s8 := same_upd (o := .lst [t1, t2, t3]) nM1
        have hM1 : (upd H7 M1 (.lst [t1, t2, t3])) M1 = some (.lst [t1, t2, t3]) := upd_same
        have f1' := dp_same (s6.trans (s7.trans s8)) _ _ dt1
        have f2' := dp_same (s7.trans s8) _ _ dt2
        have f3' := dp_same s8 _ _ dt3
        have dd8 := dp_same (s5.trans (s6.trans (s7.trans s8))) _ _ dd
        have t8 := s4.trans (s5.trans (s6.trans (s7.trans s8)))
        show tSeq _ _ _ [some (.ref a), some (.int (0 + (i : Int))), some (.ref p), some v1, some v2, some vd, some (.ref M1), e7, e8, e9, e10] _
        refine ⟨.ref M1, rfl, vd, rfl, (by decide : 1 ≤ sizeLine), fun M2 nM2 => ?_⟩
        refine ⟨M2, 3, [vd], rfl, rfl, upd_same, by decide, by decide, (by decide : 1 * 3 ≤ sizeLine), fun M3 nM3 => ?_⟩
        have t9 := same2 (o1 := .lst [vd]) (o2 := .lst [vd, vd, vd]) nM2 nM3
        have dd9 := dp_same t9 _ _ dd8
        have tl : (trimR q1 x1).length ≤ 1000 := Nat.le_trans (trimR_len q1 x1) (by omega)
        refine ⟨.ref M1, .ref M3, .list [rowD (trimR q1 x1) x1, rowD (trimR q1 x1) x1, rowD (trimR q1 x1) x1], rfl, .lst (SqL.of (t9 _ _ hM1)) (.cons (dp_same t9 _ _ f1') (.cons (dp_same t9 _ _ f2') (.cons (dp_same t9 _ _ f3') .nil))), .lst (SqL.of upd_same) (.cons dd9 (.cons dd9 (.cons dd9 .nil))), ?_, fun H10 s10 => ⟨true, rfl, iteF ?_⟩⟩
        · refine okD_list (by decide : 3 ≤ 1000) fun z hz => ?_
          simp only [List.mem_cons, List.not_mem_nil, or_false] at hz
          rcases hz with rfl | rfl | rfl <;> exact okD_row 1 _ _ tl
        have t10 := t8.trans (t9.trans s10)
        replace d1 := dp_same t10 _ _ d1
        replace d2 := dp_same t10 _ _ d2
        have S10 : Same H0' H10 := s3.trans t10
        obtain ⟨a1, b1', xs1, rfl, ha1, hb1, hxs1⟩ := dp_row d1
        obtain ⟨a2, b2', xs2, rfl, ha2, hb2, hxs2⟩ := dp_row d2
        have hlx : xs1.length = q1.length := by rw [dps_len hxs1, frs_len]
        refine ⟨.ref a1, rfl, a1, _, 1, _, rfl, rfl, ha1, atI_nat (j := 1) rfl, rfl, _, rfl, ?_⟩
        by_cases hx : x1 = 0
        · subst hx
          rw [decide_eq_true rfl]
          -- turned about
          refine iteT ⟨.ref a1, rfl, a1, _, 0, _, rfl, rfl, ha1, atI_nat (j := 0) rfl, frs q1, .tup hb1 hxs1, fun vr H11 s11 dr => ?_⟩
          obtain ⟨c1, us, rfl, hc1, hus⟩ := dp_tup dr
          have hlu : us.length = q1.length := by rw [dps_len hus, List.length_reverse, frs_len]
          refine ⟨c1, rfl, ⟨_, hc1⟩, fun D nD => lc_it (walk_tup (xs := us)) (fun j H2 => ∃ vs : List V, Same H11 H2 ∧ H2 D = some (.lst vs) ∧ DpAll K H2 vs (frs ((mirQ q1).take j)) ∧ vs.length = j) ⟨[], same_upd nD, upd_same, .nil, rfl⟩ ?_ ?_ ?_⟩
          · rintro j H2 _ ⟨vs, s2, _⟩
            exact Same.tup s2 hc1
          · rintro j z H2 H2' hj ⟨vs, s2, hD, dD, hl⟩ ⟨rfl, hz⟩
            obtain ⟨d, hd, dz⟩ := dps_get hus hz
            have hd' : (frs q1.reverse)[j]? = some d := by
              rw [show frs q1.reverse = (frs q1).reverse by unfold frs; rw [List.map_reverse]]
              exact hd
            obtain ⟨r, hr1, rfl⟩ := frs_get hd'
            obtain ⟨pz, rfl, hpz⟩ := dp_fr (dp_same s2 _ _ dz)
            refine ⟨pz, _, rfl, hpz, rfl, .int r.num, [.int (r.den : Int)], rfl, .int (r.den : Int), [], rfl, rfl, rfl, ?_⟩
            refine ⟨_, rfl, r.num, rfl, _, rfl, (by decide : 2 ≤ sizeLine), fun o no => ?_⟩
            have sO := same_upd (o := .tup [.int (-r.num), .int (r.den : Int)]) no
            have hD3 := sO _ _ hD
            refine ⟨vs, hD3, small1000 (by omega), vs ++ [.ref o], Same.new_upd (s2.trans sO) nD, upd_same, ?_, by rw [List.length_append, hl]; rfl⟩
            rw [mir_take0 hr1]
            exact dps_put hD3 (noL_frs _) (dps_snoc (dps_same sO _ _ dD) (new_q no (-r) rfl rfl))
          · rintro H12 ⟨vs, s12, hD, dD, hl⟩
            rw [show (mirQ q1).take us.length = mirQ q1 from List.take_of_length_le (by rw [mir_len]; omega)] at dD
            refine ⟨D, vs, rfl, .inl ⟨SqL.of hD, fun o1 no1 => ⟨(by decide : 2 ≤ sizeLine), fun o2 no2 => ?_⟩⟩⟩
            have sT := same2 (o1 := .tup vs) (o2 := .tup [.ref o1, .int 0]) no1 no2
            have dTA : Dp K _ (.ref o2) (rowD (mirQ q1) 0) := new_rowD no2 (new_tup no1 dD)
            have t13 := s11.trans (s12.trans sT)
            -- both
            refine ⟨.ref a1, rfl, a1, _, 1, _, rfl, rfl, Same.tup t13 ha1, atI_nat (j := 1) rfl, rfl, _, rfl, ?_⟩
            rw [decide_eq_true rfl]
            refine iteT ⟨.ref a1, rfl, a1, _, 0, _, rfl, rfl, Same.tup t13 ha1, atI_nat (j := 0) rfl, .ref a2, rfl, a2, _, 0, _, rfl, rfl, Same.tup t13 ha2, atI_nat (j := 0) rfl, frs q1, frs q2, .tup (Same.tup t13 hb1) (dps_same t13 _ _ hxs1), .tup (Same.tup t13 hb2) (dps_same t13 _ _ hxs2), by rw [frs_len, frs_len]; omega, fun vb H14 s14 db => ?_⟩
            rw [← frs_app] at db
            refine ⟨.ref a2, rfl, a2, _, 1, _, rfl, rfl, Same.tup (t13.trans s14) ha2, atI_nat (j := 1) rfl, (by decide : 2 ≤ sizeLine), fun o3 no3 => ?_⟩
            have s15 := same_upd (o := .tup [vb, .int x2]) no3
            have dBo : Dp K _ (.ref o3) (rowD (q1 ++ q2) x2) := new_rowD no3 db
            have t15 := t13.trans (s14.trans s15)
            replace dTA := dp_same (s14.trans s15) _ _ dTA
            replace d1 := dp_same t15 _ _ d1
            replace d2 := dp_same t15 _ _ d2
            have S15 : Same H0' _ := S10.trans t15
            have lm : (mirQ q1).length ≤ 1000 := by
              rw [mir_len]
              omega
            have lb : (q1 ++ q2).length ≤ 1000 := by
              rw [List.length_append]
              omega
            show tSeq _ _ _ [some (.ref a), some (.int (0 + (i : Int))), some (.ref p), some (.ref a1), some (.ref a2), some vd, some (.ref M1), some (.ref o2), some (.ref o3), e9, e10] _
            generalize upd H14 o3 (.tup [vb, .int x2]) = H15 at *
            -- told or refused
            refine ⟨.ref a1, rfl, .ref a2, rfl, (by decide : 2 ≤ sizeLine), fun o4 no4 => ?_⟩
            have s16 := same_upd (o := .tup [.ref a1, .ref a2]) no4
            refine ⟨"mirrored", .ref o4, q1, q2, 0, x2, rfl, new_tup no4 (.cons d1 (.cons d2 .nil)), z1, hl1, hl2, fun w1 H17 s17 dw1 => ?_⟩
            refine ⟨.ref a1, rfl, .ref a2, rfl, (by decide : 2 ≤ sizeLine), fun o5 no5 => ?_⟩
            have s18 := same_upd (o := .tup [.ref a1, .ref a2]) no5
            have t17 := s16.trans s17
            refine ⟨"joined", .ref o5, q1, q2, 0, x2, rfl, new_tup no5 (.cons (dp_same t17 _ _ d1) (.cons (dp_same t17 _ _ d2) .nil)), z1, hl1, hl2, fun w2 H19 s19 dw2 => ?_⟩
            have eT1 : toldD "mirrored" q1 0 q2 x2 = rowD (mirQ q1) 0 := rfl
            have eT2 : toldD "joined" q1 0 q2 x2 = rowD (q1 ++ q2) x2 := by
              unfold toldD
              rw [if_pos rfl, if_neg (by decide)]
            rw [eT1] at dw1
            rw [eT2] at dw2
            refine ⟨(by decide : 2 ≤ sizeLine), fun M4 nM4 => ⟨_, rfl, _, rfl, (by decide : 2 ≤ sizeLine), fun M5 nM5 => ?_⟩⟩
            have t19 := t17.trans (s18.trans s19)
            have t21 := same2 (o1 := .lst [w1, w2]) (o2 := .lst [.ref o2, .ref o3]) nM4 nM5
            have A1 := dp_same (same_upd (o := .lst [.ref o2, .ref o3]) nM5) _ _ (new_lst (K := K) (ds := [rowD (mirQ q1) 0, rowD (q1 ++ q2) x2]) nM4 (.cons (dp_same (s18.trans s19) _ _ dw1) (.cons dw2 .nil)))
            have A2 := new_lst (K := K) (xs := [.ref o2, .ref o3]) (ds := [rowD (mirQ q1) 0, rowD (q1 ++ q2) x2]) nM5 (.cons (dp_same (t19.trans (same_upd nM4)) _ _ dTA) (.cons (dp_same (t19.trans (same_upd nM4)) _ _ dBo) .nil))
            refine ⟨.ref M4, .ref M5, _, rfl, A1, A2, ?_, fun H22 s22 => ⟨true, rfl, iteF ?_⟩⟩
            · refine okD_list (by decide : 2 ≤ 1000) fun z hz => ?_
              simp only [List.mem_cons, List.not_mem_nil, or_false] at hz
              rcases hz with rfl | rfl
              · exact okD_row 1 _ _ lm
              · exact okD_row 1 _ _ lb
            have t22 := t19.trans (t21.trans s22)
            replace d1 := dp_same t22 _ _ d1
            replace d2 := dp_same t22 _ _ d2
            replace dBo := dp_same t22 _ _ dBo
            have S22 : Same H0' H22 := S15.trans t22
            clear A1 A2 dTA dw1 dw2
            obtain ⟨a3, b3', xs3, e3', ha3, hb3, hxs3⟩ := dp_row d1
            cases e3'
            obtain ⟨a4, b4', xs4, e4', ha4, hb4, hxs4⟩ := dp_row d2
            cases e4'
            -- once more
            refine ⟨.ref a1, rfl, a1, _, 1, _, rfl, rfl, ha3, atI_nat (j := 1) rfl, rfl, _, rfl, ?_⟩
            rw [decide_eq_true rfl]
            refine iteT ⟨.ref a1, rfl, .ref a1, q1, 0, 6, rfl, d1, z1, by decide, by omega, fun _ u1 H23 s23 du1 => ?_, fun hx => absurd rfl hx⟩
            refine ⟨rfl, rfl, u1, mirQ q1, 0, 6, rfl, du1, m1, by decide, by rw [mir_len]; omega, fun _ u2 H24 s24 du2 => ?_, fun hx => absurd rfl hx⟩
            rw [mir_mir] at du2
            have t24 := s23.trans s24
            refine ⟨.ref a2, rfl, .ref a1, rfl, rfl, rfl, .ref a1, .ref a2, q1, q2, 0, x2, rfl, dp_same t24 _ _ d1, dp_same t24 _ _ d2, by omega, fun _ u3 H25 s25 du3 => ?_, fun hx => absurd rfl hx⟩
            refine ⟨(by decide : 2 ≤ sizeLine), fun M6 nM6 => ?_⟩
            have s26 := same_upd (o := .lst [u2, u3]) nM6
            have t26 := t24.trans (s25.trans s26)
            have B1 := new_lst (K := K) (ds := [rowD q1 0, rowD (q1 ++ q2) x2]) nM6 (.cons (dp_same s25 _ _ du2) (.cons du3 .nil))
            show tSeq _ _ _ [some (.ref a), some (.int (0 + (i : Int))), some (.ref p), some (.ref a1), some (.ref a2), some vd, some (.ref M6), some (.ref o2), some (.ref o3), e9, e10] _
            refine ⟨.ref M6, rfl, .ref a1, rfl, .ref o3, rfl, (by decide : 2 ≤ sizeLine), fun M7 nM7 => ?_⟩
            have s27 := same_upd (o := .lst [.ref a1, .ref o3]) nM7
            have B2 := new_lst (K := K) (xs := [.ref a1, .ref o3]) (ds := [rowD q1 0, rowD (q1 ++ q2) x2]) nM7 (.cons (dp_same t26 _ _ d1) (.cons (dp_same t26 _ _ dBo) .nil))
            refine ⟨.ref M6, .ref M7, _, rfl, dp_same s27 _ _ B1, B2, ?_, fun H28 s28 => ⟨true, rfl, iteF ?_⟩⟩
            · refine okD_list (by decide : 2 ≤ 1000) fun z hz => ?_
              simp only [List.mem_cons, List.not_mem_nil, or_false] at hz
              rcases hz with rfl | rfl
              · exact okD_row 1 _ _ (by omega)
              · exact okD_row 1 _ _ lb
            have t28 := t26.trans (s27.trans s28)
            have S28 : Same H0' H28 := S22.trans t28
            -- both turned about
            refine ⟨.ref a1, rfl, a1, _, 1, _, rfl, rfl, Same.tup t28 ha3, atI_nat (j := 1) rfl, rfl, _, rfl, ?_⟩
            rw [decide_eq_true rfl]
            refine iteT ⟨.ref a2, rfl, a2, _, 1, _, rfl, rfl, Same.tup t28 ha4, atI_nat (j := 1) rfl, rfl, _, rfl, ?_⟩
            by_cases hx2 : x2 = 0
            · subst hx2
              rw [decide_eq_true rfl]
              have zb : ∀ z ∈ q1 ++ q2, Sz 6 z := fun z hz => (List.mem_append.mp hz).elim (z1 z) (z2 z)
              refine iteT ⟨.ref o3, rfl, .ref o3, q1 ++ q2, 0, 6, rfl, dp_same t28 _ _ dBo, zb, by decide, by rw [List.length_append]; omega, fun _ g1 H29 s29 dg1 => ?_, fun hx => absurd rfl hx⟩
              refine ⟨.ref a2, rfl, .ref a2, q2, 0, 6, rfl, dp_same (t28.trans s29) _ _ d2, z2, by decide, by omega, fun _ g2 H30 s30 dg2 => ?_, fun hx => absurd rfl hx⟩
              refine ⟨.ref a1, rfl, .ref a1, q1, 0, 6, rfl, dp_same (t28.trans (s29.trans s30)) _ _ d1, z1, by decide, by omega, fun _ g3 H31 s31 dg3 => ?_, fun hx => absurd rfl hx⟩
              refine ⟨g2, g3, mirQ q2, mirQ q1, 0, 0, rfl, dp_same s31 _ _ dg2, dg3, by rw [mir_len, mir_len]; omega, fun _ g4 H32 s32 dg4 => ?_, fun hx => absurd rfl hx⟩
              rw [mir_app] at dg1
              refine ⟨_, _, dp_same (s30.trans (s31.trans s32)) _ _ dg1, dg4, sh_row _ _, sh_row _ _, _, rfl, ?_⟩
              rw [eqv_self (sh_row _ _)]
              refine iteF ?_
              exact ⟨_, _, _, _, _, _, _, _, _, _, rfl, s0.trans (S28.trans (s29.trans (s30.trans (s31.trans s32))))⟩
            · rw [decide_eq_false (fun z => hx2 (V.int.inj z))]
              refine iteF (iteF ?_)
              exact ⟨_, _, _, _, _, _, _, _, _, _, rfl, s0.trans S28⟩
        · rw [decide_eq_false (fun z => hx (V.int.inj z))]
          refine iteF ?_
          refine ⟨.ref a1, rfl, a1, _, 1, _, rfl, rfl, ha1, atI_nat (j := 1) rfl, rfl, _, rfl, ?_⟩
          rw [decide_eq_false (fun z => hx (V.int.inj z))]
          refine iteF ?_
          show tSeq _ _ _ [some (.ref a), some (.int (0 + (i : Int))), some (.ref p), some (.ref a1), some (.ref a2), some vd, some (.ref M1), some (.str "walled"), some (.str "walled"), e9, e10] _
          have eT : ∀ ask, toldD ask q1 x1 q2 x2 = .str "walled" := fun ask => by
            unfold toldD
            rw [if_neg hx]
          refine ⟨.ref a1, rfl, .ref a2, rfl, (by decide : 2 ≤ sizeLine), fun o4 no4 => ?_⟩
          have s16 := same_upd (o := .tup [.ref a1, .ref a2]) no4
          refine ⟨"mirrored", .ref o4, q1, q2, x1, x2, rfl, new_tup no4 (.cons d1 (.cons d2 .nil)), z1, hl1, hl2, fun w1 H17 s17 dw1 => ?_⟩
          refine ⟨.ref a1, rfl, .ref a2, rfl, (by decide : 2 ≤ sizeLine), fun o5 no5 => ?_⟩
          have s18 := same_upd (o := .tup [.ref a1, .ref a2]) no5
          have t17 := s16.trans s17
          refine ⟨"joined", .ref o5, q1, q2, x1, x2, rfl, new_tup no5 (.cons (dp_same t17 _ _ d1) (.cons (dp_same t17 _ _ d2) .nil)), z1, hl1, hl2, fun w2 H19 s19 dw2 => ?_⟩
          rw [eT] at dw1 dw2
          refine ⟨(by decide : 2 ≤ sizeLine), fun M4 nM4 => ⟨_, rfl, _, rfl, (by decide : 2 ≤ sizeLine), fun M5 nM5 => ?_⟩⟩
          have t19 := t17.trans (s18.trans s19)
          have t21 := same2 (o1 := .lst [w1, w2]) (o2 := .lst [.str "walled", .str "walled"]) nM4 nM5
          have A1 := dp_same (same_upd (o := .lst [.str "walled", .str "walled"]) nM5) _ _ (new_lst (K := K) (ds := [.str "walled", .str "walled"]) nM4 (.cons (dp_same (s18.trans s19) _ _ dw1) (.cons dw2 .nil)))
          have A2 := new_lst (K := K) (xs := [.str "walled", .str "walled"]) (ds := [.str "walled", .str "walled"]) nM5 (.cons (.str _) (.cons (.str _) .nil))
          refine ⟨.ref M4, .ref M5, _, rfl, A1, A2, rfl, fun H22 s22 => ⟨true, rfl, iteF ?_⟩⟩
          have t22 := t19.trans (t21.trans s22)
          have S22 : Same H0' H22 := S10.trans t22
          refine ⟨.ref a1, rfl, a1, _, 1, _, rfl, rfl, Same.tup t22 ha1, atI_nat (j := 1) rfl, rfl, _, rfl, ?_⟩
          rw [decide_eq_false (fun z => hx (V.int.inj z))]
          refine iteF ⟨_, rfl, _, rfl, (by decide : 2 ≤ sizeLine), fun M6 nM6 => ?_⟩
          have s23 := same_upd (o := .lst [.ref a1, .str "walled"]) nM6
          have d1' := dp_same t22 _ _ d1
          have B1 := new_lst (K := K) (xs := [.ref a1, .str "walled"]) (ds := [rowD q1 x1, .str "walled"]) nM6 (.cons d1' (.cons (.str _) .nil))
          show tSeq _ _ _ [some (.ref a), some (.int (0 + (i : Int))), some (.ref p), some (.ref a1), some (.ref a2), some vd, some (.ref M6), some (.str "walled"), some (.str "walled"), e9, e10] _
          refine ⟨.ref M6, rfl, .ref a1, rfl, _, rfl, (by decide : 2 ≤ sizeLine), fun M7 nM7 => ?_⟩
          have s24 := same_upd (o := .lst [.ref a1, .str "walled"]) nM7
          have B2 := new_lst (K := K) (xs := [.ref a1, .str "walled"]) (ds := [rowD q1 x1, .str "walled"]) nM7 (.cons (dp_same s23 _ _ d1') (.cons (.str _) .nil))
          refine ⟨.ref M6, .ref M7, _, rfl, dp_same s24 _ _ B1, B2, ?_, fun H25 s25 => ⟨true, rfl, iteF ?_⟩⟩
          · refine okD_list (by decide : 2 ≤ 1000) fun z hz => ?_
            simp only [List.mem_cons, List.not_mem_nil, or_false] at hz
            rcases hz with rfl | rfl
            · exact okD_row 1 _ _ (by omega)
            · rfl
          have t25 := t22.trans (s23.trans (s24.trans s25))
          refine ⟨.ref a1, rfl, a1, _, 1, _, rfl, rfl, Same.tup t25 ha1, atI_nat (j := 1) rfl, rfl, _, rfl, ?_⟩
          rw [decide_eq_false (fun z => hx (V.int.inj z))]
          refine iteF (iteF ?_)
          exact ⟨_, _, _, _, _, _, _, _, _, _, rfl, s0.trans (S10.trans t25)⟩
      · rintro σ H2 ⟨e1, e2, e3, e4, e5, e6, e7, e8, e9, e10, rfl, s2⟩
        -- known ones
        refine ⟨(by decide : 2 ≤ sizeLine), fun a1 n1 => ⟨(by decide : 2 ≤ sizeLine), fun a2 n2 => ⟨(by decide : 2 ≤ sizeLine), fun a3 n3 => ⟨(by decide : 2 ≤ sizeLine), fun a4 n4 => ?_⟩⟩⟩⟩
        have h1 := dp_same (same_upd (o := .tup [.int 0, .int 1]) n2) _ _ (new_fr (K := K) (t := 1) (u := 2) n1 (by decide) (by decide))
        have h2 := new_q (K := K) (t := 0) (u := 1) n2 0 rfl rfl
        refine ⟨.ref a4, [Rat.divInt 1 2, 0], 0, rfl, new_rowD n4 (new_tup (xs := [.ref a1, .ref a2]) (ds := frs [Rat.divInt 1 2, 0]) n3 (.cons h1 (.cons h2 .nil))), fun v1 H3 s3 d1 => ?_⟩
        rw [known_trim] at d1
        refine ⟨(by decide : 2 ≤ sizeLine), fun c1 m1 => ⟨(by decide : 1 ≤ sizeLine), fun c2 m2 => ⟨(by decide : 2 ≤ sizeLine), fun c3 m3 => ?_⟩⟩⟩
        have g1 := new_rowD (K := K) (w := 0) m3 (new_tup (xs := [.ref c1]) (ds := frs [Rat.divInt 1 2]) m2 (.cons (new_fr m1 (by decide) (by decide)) .nil))
        refine ⟨_, _, dp_same (same3 m1 m2 m3) _ _ d1, g1, sh_row _ _, sh_row _ _, true, congrArg V.bl (eqv_self (sh_row _ _)), iteT ?_⟩
        refine ⟨(by decide : 2 ≤ sizeLine), fun a5 n5 => ⟨(by decide : 1 ≤ sizeLine), fun a6 n6 => ⟨(by decide : 2 ≤ sizeLine), fun a7 n7 => ?_⟩⟩⟩
        refine ⟨.ref a7, [0], 1, rfl, new_rowD n7 (new_tup (xs := [.ref a5]) (ds := frs [0]) n6 (.cons (new_q n5 0 rfl rfl) .nil)), fun v2 H4 s4 d2 => ?_⟩
        refine ⟨(by decide : 2 ≤ sizeLine), fun c4 m4 => ⟨(by decide : 1 ≤ sizeLine), fun c5 m5 => ⟨(by decide : 2 ≤ sizeLine), fun c6 m6 => ?_⟩⟩⟩
        have g2 := new_rowD (K := K) (w := 1) m6 (new_tup (xs := [.ref c4]) (ds := frs [0]) m5 (.cons (new_q m4 0 rfl rfl) .nil))
        have d2' : Dp K H4 v2 (rowD [0] 1) := d2
        refine ⟨_, _, dp_same (same3 m4 m5 m6) _ _ d2', g2, sh_row _ _, sh_row _ _, ?_⟩
        rw [eqv_self (sh_row _ _)]
        exact q _
end
/-! ### what the top has written -/
theorem all_mk {l : PySem.W.OpenLaw} {w : World} {K : PySem.W.Frag} {h : Heap} {mg : Str → Option Value} {fa : Addr} (X : K.In h) (G : h.Ns mainGlobals mg) (hfa : mg "law" = some (.ref fa))
    {f0 : Addr} {od0 an0 : Option Addr} {sl0 : Array (Option Value)} {oc0 dc0 pm0 cd0 ct0 : Value}
    {kV0 : Value}
    {f1 : Addr} {od1 an1 : Option Addr} {sl1 : Array (Option Value)} {oc1 dc1 pm1 cd1 ct1 : Value}
    {kV1 : Value}
    {f2 : Addr} {od2 an2 : Option Addr} {sl2 : Array (Option Value)} {oc2 dc2 pm2 cd2 ct2 : Value}
    {kV2 : Value}
    {f3 : Addr} {od3 an3 : Option Addr} {sl3 : Array (Option Value)} {oc3 dc3 pm3 cd3 ct3 : Value}
    {kV3 : Value}
    {f4 : Addr} {od4 an4 : Option Addr} {sl4 : Array (Option Value)} {oc4 dc4 pm4 cd4 ct4 : Value}
    {kV4 : Value}
    {f5 : Addr} {od5 an5 : Option Addr} {sl5 : Array (Option Value)} {oc5 dc5 pm5 cd5 ct5 : Value}
    {kV5 : Value}
    {f6 : Addr} {od6 an6 : Option Addr} {sl6 : Array (Option Value)} {oc6 dc6 pm6 cd6 ct6 : Value}
    {kV6 : Value}
    {f7 : Addr} {od7 an7 : Option Addr} {sl7 : Array (Option Value)} {oc7 dc7 pm7 cd7 ct7 : Value}
    {kV7 : Value}
    {f8 : Addr} {od8 an8 : Option Addr} {sl8 : Array (Option Value)} {oc8 dc8 pm8 cd8 ct8 : Value}
    {kV8 : Value}
    {f9 : Addr} {od9 an9 : Option Addr} {sl9 : Array (Option Value)} {oc9 dc9 pm9 cd9 ct9 : Value}
    {kV9 : Value}
    {f10 : Addr} {od10 an10 : Option Addr} {sl10 : Array (Option Value)} {oc10 dc10 pm10 cd10 ct10 : Value}
    {kV10 : Value}
    {f11 : Addr} {od11 an11 : Option Addr} {sl11 : Array (Option Value)} {oc11 dc11 pm11 cd11 ct11 : Value}
    {kV11 : Value}
    {f12 : Addr} {od12 an12 : Option Addr} {sl12 : Array (Option Value)} {oc12 dc12 pm12 cd12 ct12 : Value}
    {kV12 : Value}
    {f13 : Addr} {od13 an13 : Option Addr} {sl13 : Array (Option Value)} {oc13 dc13 pm13 cd13 ct13 : Value}
    {kV13 : Value}
    {f14 : Addr} {od14 an14 : Option Addr} {sl14 : Array (Option Value)} {oc14 dc14 pm14 cd14 ct14 : Value}
    {kV14 : Value}
    {f15 : Addr} {od15 an15 : Option Addr} {sl15 : Array (Option Value)} {oc15 dc15 pm15 cd15 ct15 : Value}
    {kV15 : Value}
    {f16 : Addr} {od16 an16 : Option Addr} {sl16 : Array (Option Value)} {oc16 dc16 pm16 cd16 ct16 : Value}
    {kV16 : Value}
    {f17 : Addr} {od17 an17 : Option Addr} {sl17 : Array (Option Value)} {oc17 dc17 pm17 cd17 ct17 : Value}
    {kV17 : Value}
    {G0 : Addr} {gk0_0 gk0_1 : Tok} {gn0 : Nat} {go0 : Option Addr} {gs0 : Array (Option Value)}
    {CW CP CM CR : Addr}
    (a0 : PySem.W.nsIn K mainGlobals "common_part" = some (some (.ref f0))) (l0 : K.lookup f0 = some ⟨oc0, od0, .func (PySem.W.fnOf "common_part" "common_part" (defArgs sCommon) (defBody sCommon) (defScope sCommon) .none kV0 dc0 pm0 an0 cd0 ct0), sl0⟩) (c0 : PySem.W.codeIn K cd0 "common_part" = true) (k0 : PySem.W.keepIn K (.ref f0) = true)
    (a1 : PySem.W.nsIn K mainGlobals "fraction" = some (some (.ref f1))) (l1 : K.lookup f1 = some ⟨oc1, od1, .func (PySem.W.fnOf "fraction" "fraction" (defArgs sFraction) (defBody sFraction) (defScope sFraction) .none kV1 dc1 pm1 an1 cd1 ct1), sl1⟩) (c1 : PySem.W.codeIn K cd1 "fraction" = true) (k1 : PySem.W.keepIn K (.ref f1) = true)
    (a2 : PySem.W.nsIn K mainGlobals "minus" = some (some (.ref f2))) (l2 : K.lookup f2 = some ⟨oc2, od2, .func (PySem.W.fnOf "minus" "minus" (defArgs s_minus) (defBody s_minus) (defScope s_minus) .none kV2 dc2 pm2 an2 cd2 ct2), sl2⟩) (c2 : PySem.W.codeIn K cd2 "minus" = true) (k2 : PySem.W.keepIn K (.ref f2) = true)
    (a3 : PySem.W.nsIn K mainGlobals "trimmed" = some (some (.ref f3))) (l3 : K.lookup f3 = some ⟨oc3, od3, .func (PySem.W.fnOf "trimmed" "trimmed" (defArgs s_trimmed) (defBody s_trimmed) (defScope s_trimmed) .none kV3 dc3 pm3 an3 cd3 ct3), sl3⟩) (c3 : PySem.W.codeIn K cd3 "trimmed" = true) (k3 : PySem.W.keepIn K (.ref f3) = true)
    (a4 : PySem.W.nsIn K mainGlobals "mirrored" = some (some (.ref f4))) (l4 : K.lookup f4 = some ⟨oc4, od4, .func (PySem.W.fnOf "mirrored" "mirrored" (defArgs s_mirrored) (defBody s_mirrored) (defScope s_mirrored) .none kV4 dc4 pm4 an4 cd4 ct4), sl4⟩) (c4 : PySem.W.codeIn K cd4 "mirrored" = true) (k4 : PySem.W.keepIn K (.ref f4) = true)
    (a5 : PySem.W.nsIn K mainGlobals "joined" = some (some (.ref f5))) (l5 : K.lookup f5 = some ⟨oc5, od5, .func (PySem.W.fnOf "joined" "joined" (defArgs s_joined) (defBody s_joined) (defScope s_joined) .none kV5 dc5 pm5 an5 cd5 ct5), sl5⟩) (c5 : PySem.W.codeIn K cd5 "joined" = true) (k5 : PySem.W.keepIn K (.ref f5) = true)
    (a6 : PySem.W.nsIn K mainGlobals "_law_cell_at" = some (some (.ref f6))) (l6 : K.lookup f6 = some ⟨oc6, od6, .func (PySem.W.fnOf "_law_cell_at" "_law_cell_at" (defArgs sCell) (defBody sCell) (defScope sCell) .none kV6 dc6 pm6 an6 cd6 ct6), sl6⟩) (c6 : PySem.W.codeIn K cd6 "_law_cell_at" = true) (k6 : PySem.W.keepIn K (.ref f6) = true)
    (a7 : PySem.W.nsIn K mainGlobals "_law_box" = some (some (.ref f7))) (l7 : K.lookup f7 = some ⟨oc7, od7, .func (PySem.W.fnOf "_law_box" "_law_box" (defArgs sBox) (defBody sBox) (defScope sBox) .none kV7 dc7 pm7 an7 cd7 ct7), sl7⟩) (c7 : PySem.W.codeIn K cd7 "_law_box" = true) (k7 : PySem.W.keepIn K (.ref f7) = true)
    (a8 : PySem.W.nsIn K mainGlobals "_law_take" = some (some (.ref f8))) (l8 : K.lookup f8 = some ⟨oc8, od8, .func (PySem.W.fnOf "_law_take" "_law_take" (defArgs sTake) (defBody sTake) (defScope sTake) .none kV8 dc8 pm8 an8 cd8 ct8), sl8⟩) (c8 : PySem.W.codeIn K cd8 "_law_take" = true) (k8 : PySem.W.keepIn K (.ref f8) = true)
    (a9 : PySem.W.nsIn K mainGlobals "_law_of" = some (some (.ref f9))) (l9 : K.lookup f9 = some ⟨oc9, od9, .func (PySem.W.fnOf "_law_of" "_law_of" (defArgs sOf) (defBody sOf) (defScope sOf) .none kV9 dc9 pm9 an9 cd9 ct9), sl9⟩) (c9 : PySem.W.codeIn K cd9 "_law_of" = true) (k9 : PySem.W.keepIn K (.ref f9) = true)
    (a10 : PySem.W.nsIn K mainGlobals "_law_same" = some (some (.ref f10))) (l10 : K.lookup f10 = some ⟨oc10, od10, .func (PySem.W.fnOf "_law_same" "_law_same" (defArgs sSame) (defBody sSame) (defScope sSame) .none kV10 dc10 pm10 an10 cd10 ct10), sl10⟩) (c10 : PySem.W.codeIn K cd10 "_law_same" = true) (k10 : PySem.W.keepIn K (.ref f10) = true)
    (a11 : PySem.W.nsIn K mainGlobals "_law_frac" = some (some (.ref f11))) (l11 : K.lookup f11 = some ⟨oc11, od11, .func (PySem.W.fnOf "_law_frac" "_law_frac" (defArgs sFrac) (defBody sFrac) (defScope sFrac) .none kV11 dc11 pm11 an11 cd11 ct11), sl11⟩) (c11 : PySem.W.codeIn K cd11 "_law_frac" = true) (k11 : PySem.W.keepIn K (.ref f11) = true)
    (a12 : PySem.W.nsIn K mainGlobals "_law_pane" = some (some (.ref f12))) (l12 : K.lookup f12 = some ⟨oc12, od12, .func (PySem.W.fnOf "_law_pane" "_law_pane" (defArgs sPane) (defBody sPane) (defScope sPane) .none kV12 dc12 pm12 an12 cd12 ct12), sl12⟩) (c12 : PySem.W.codeIn K cd12 "_law_pane" = true) (k12 : PySem.W.keepIn K (.ref f12) = true)
    (a13 : PySem.W.nsIn K mainGlobals "_law_row" = some (some (.ref f13))) (l13 : K.lookup f13 = some ⟨oc13, od13, .func (PySem.W.fnOf "_law_row" "_law_row" (defArgs sRow) (defBody sRow) (defScope sRow) .none kV13 dc13 pm13 an13 cd13 ct13), sl13⟩) (c13 : PySem.W.codeIn K cd13 "_law_row" = true) (k13 : PySem.W.keepIn K (.ref f13) = true)
    (a14 : PySem.W.nsIn K mainGlobals "_law_drawn" = some (some (.ref f14))) (l14 : K.lookup f14 = some ⟨oc14, od14, .func (PySem.W.fnOf "_law_drawn" "_law_drawn" (defArgs s__law_drawn) (defBody s__law_drawn) (defScope s__law_drawn) .none kV14 dc14 pm14 an14 cd14 ct14), sl14⟩) (c14 : PySem.W.codeIn K cd14 "_law_drawn" = true) (k14 : PySem.W.keepIn K (.ref f14) = true)
    (a15 : PySem.W.nsIn K mainGlobals "_law_trimmed" = some (some (.ref f15))) (l15 : K.lookup f15 = some ⟨oc15, od15, .func (PySem.W.fnOf "_law_trimmed" "_law_trimmed" (defArgs s__law_trimmed) (defBody s__law_trimmed) (defScope s__law_trimmed) .none kV15 dc15 pm15 an15 cd15 ct15), sl15⟩) (c15 : PySem.W.codeIn K cd15 "_law_trimmed" = true) (k15 : PySem.W.keepIn K (.ref f15) = true)
    (a16 : PySem.W.nsIn K mainGlobals "_law_told" = some (some (.ref f16))) (l16 : K.lookup f16 = some ⟨oc16, od16, .func (PySem.W.fnOf "_law_told" "_law_told" (defArgs s__law_told) (defBody s__law_told) (defScope s__law_told) .none kV16 dc16 pm16 an16 cd16 ct16), sl16⟩) (c16 : PySem.W.codeIn K cd16 "_law_told" = true) (k16 : PySem.W.keepIn K (.ref f16) = true)
    (a17 : PySem.W.nsIn K mainGlobals "law" = some (some (.ref f17))) (l17 : K.lookup f17 = some ⟨oc17, od17, .func (PySem.W.fnOf "law" "law" (defArgs s_law) (defBody s_law) (defScope s_law) .none kV17 dc17 pm17 an17 cd17 ct17), sl17⟩) (c17 : PySem.W.codeIn K cd17 "law" = true) (k17 : PySem.W.keepIn K (.ref f17) = true)
    (ga0 : PySem.W.nsIn K mainGlobals "NOUGHT" = some (some (.ref G0))) (gl0 : K.lookup G0 = some ⟨.type "tuple", go0, .seq #[.int (0) gk0_0, .int (1) gk0_1] gn0, gs0⟩)
    (z0 : PySem.W.nsIn K mainGlobals "abs" = some none)
    (z1 : PySem.W.nsIn K mainGlobals "len" = some none)
    (z2 : PySem.W.nsIn K mainGlobals "int" = some none)
    (z3 : PySem.W.nsIn K mainGlobals "min" = some none)
    (z4 : PySem.W.nsIn K mainGlobals "range" = some none)
    (z5 : PySem.W.nsIn K mainGlobals "tuple" = some none)
    (z6 : PySem.W.nsIn K mainGlobals "zip" = some none)
    (z7 : PySem.W.nsIn K mainGlobals "isinstance" = some none)
    (z8 : PySem.W.nsIn K mainGlobals "dict" = some none)
    (z9 : PySem.W.nsIn K mainGlobals "list" = some none)
    (z10 : PySem.W.nsIn K mainGlobals "all" = some none)
    (z11 : PySem.W.nsIn K mainGlobals "bool" = some none)
    (z12 : PySem.W.nsIn K mainGlobals "str" = some none)
    (z13 : PySem.W.nsIn K mainGlobals "reversed" = some none)
    (z14 : PySem.W.nsIn K mainGlobals "RuntimeError" = some none)
    (w1 : PySem.W.nsIn K mainGlobals "Walled" = some (some (.ref CW)))
    (w2 : PySem.W.nsIn K mainGlobals "NoPane" = some (some (.ref CP)))
    (w3 : PySem.W.nsIn K mainGlobals "NoRoom" = some (some (.ref CM)))
    (w4 : PySem.W.nsIn K mainGlobals "NoRow" = some (some (.ref CR)))
    (w5 : PySem.W.excIn K CW [.type "RuntimeError", .type "Exception", .type "BaseException", .type "object"] "RuntimeError.__new__" = true)
    (w6 : PySem.W.keepIn K (.ref CW) = true)
    (w7 : PySem.W.subIn K (.ref CW) (.type "BaseException") = some true)
    (w8 : PySem.W.typeIn K (.ref CW) = some (.type "type"))
    (x1 : PySem.W.findIn K (.ref CW) "__getattribute__" = some (some (.builtin "BaseException.__getattribute__")))
    (x2 : PySem.W.findIn K (.ref CW) "__getattr__" = some none)
    (x3 : PySem.W.hasDictIn K CW = true)
    (x4 : PySem.W.findIn K (.ref CW) "__class__" = some (some (.builtin "object.__class__")))
    (x5 : PySem.W.specialIn K (.builtin "object.__class__") "__get__" = some (some (.builtin "getset_descriptor.__get__")))
    (x6 : PySem.W.takesIn K (.builtin "object.__class__") = some true)
    (x7 : PySem.W.mroIn K CW (.type "object") = some true)
    (y1 : PySem.W.exmAny K (.ref CW) [.ref CP, .ref CM, .ref CR, .ref CW] = some true)
    (y2 : PySem.W.kitOne K (.ref CW) (.ref CW) = some true)
    (y3 : PySem.W.kitOne K (.ref CW) (.type "RuntimeError") = some true)
    (y4 : PySem.W.kitAny K (.ref CW) [.ref CP, .ref CM] = some false) :
    ∃ fd : FuncData, (∀ (s : Shared) (v : Value), BindsTo s fd ⟨[v], []⟩ [("_law_script", v)]) ∧ ∀ base : Heap, K.In base → base.Ns mainGlobals mg → FnOk l.prog w K mg base CX0 10 fa fd ["_law_script"] (spLaw K) := by
  have e := hfa.symm.trans (PySem.W.mg_of X G a17)
  cases e
  have F_common_part := fun_mk (st := sCommon) l0 c0 k0
  have b_common_part := F_common_part.binds (ps := ["one", "other"]) fun _ _ _ _ _ _ us hl => match us, hl with | [_, _], _ => rfl
  have g_common_part := PySem.W.mg_of X G a0
  have F_fraction := fun_mk (st := sFraction) l1 c1 k1
  have b_fraction := F_fraction.binds (ps := ["top", "bottom"]) fun _ _ _ _ _ _ us hl => match us, hl with | [_, _], _ => rfl
  have g_fraction := PySem.W.mg_of X G a1
  have F_minus := fun_mk (st := s_minus) l2 c2 k2
  have b_minus := F_minus.binds (ps := ["one", "other"]) fun _ _ _ _ _ _ us hl => match us, hl with | [_, _], _ => rfl
  have g_minus := PySem.W.mg_of X G a2
  have F_trimmed := fun_mk (st := s_trimmed) l3 c3 k3
  have b_trimmed := F_trimmed.binds (ps := ["row"]) fun _ _ _ _ _ _ us hl => match us, hl with | [_], _ => rfl
  have g_trimmed := PySem.W.mg_of X G a3
  have F_mirrored := fun_mk (st := s_mirrored) l4 c4 k4
  have b_mirrored := F_mirrored.binds (ps := ["row"]) fun _ _ _ _ _ _ us hl => match us, hl with | [_], _ => rfl
  have g_mirrored := PySem.W.mg_of X G a4
  have F_joined := fun_mk (st := s_joined) l5 c5 k5
  have b_joined := F_joined.binds (ps := ["one", "other"]) fun _ _ _ _ _ _ us hl => match us, hl with | [_, _], _ => rfl
  have g_joined := PySem.W.mg_of X G a5
  have F__law_cell_at := fun_mk (st := sCell) l6 c6 k6
  have b__law_cell_at := F__law_cell_at.binds (ps := ["_law_script", "_law_k"]) fun _ _ _ _ _ _ us hl => match us, hl with | [_, _], _ => rfl
  have g__law_cell_at := PySem.W.mg_of X G a6
  have F__law_box := fun_mk (st := sBox) l7 c7 k7
  have b__law_box := F__law_box.binds (ps := ["_law_script", "_law_k"]) fun _ _ _ _ _ _ us hl => match us, hl with | [_, _], _ => rfl
  have g__law_box := PySem.W.mg_of X G a7
  have F__law_take := fun_mk (st := sTake) l8 c8 k8
  have b__law_take := F__law_take.binds (ps := ["_law_box_here", "_law_size"]) fun _ _ _ _ _ _ us hl => match us, hl with | [_, _], _ => rfl
  have g__law_take := PySem.W.mg_of X G a8
  have F__law_of := fun_mk (st := sOf) l9 c9 k9
  have b__law_of := F__law_of.binds (ps := ["_law_box_here", "_law_some"]) fun _ _ _ _ _ _ us hl => match us, hl with | [_, _], _ => rfl
  have g__law_of := PySem.W.mg_of X G a9
  have F__law_same := fun_mk (st := sSame) l10 c10 k10
  have b__law_same := F__law_same.binds (ps := ["_law_found", "_law_due"]) fun _ _ _ _ _ _ us hl => match us, hl with | [_, _], _ => rfl
  have g__law_same := PySem.W.mg_of X G a10
  have F__law_frac := fun_mk (st := sFrac) l11 c11 k11
  have b__law_frac := F__law_frac.binds (ps := ["_law_top", "_law_under"]) fun _ _ _ _ _ _ us hl => match us, hl with | [_, _], _ => rfl
  have g__law_frac := PySem.W.mg_of X G a11
  have F__law_pane := fun_mk (st := sPane) l12 c12 k12
  have b__law_pane := F__law_pane.binds (ps := ["_law_box_here"]) fun _ _ _ _ _ _ us hl => match us, hl with | [_], _ => rfl
  have g__law_pane := PySem.W.mg_of X G a12
  have F__law_row := fun_mk (st := sRow) l13 c13 k13
  have b__law_row := F__law_row.binds (ps := ["_law_box_here", "_law_most"]) fun _ _ _ _ _ _ us hl => match us, hl with | [_, _], _ => rfl
  have g__law_row := PySem.W.mg_of X G a13
  have F__law_drawn := fun_mk (st := s__law_drawn) l14 c14 k14
  have b__law_drawn := F__law_drawn.binds (ps := ["_law_box_here"]) fun _ _ _ _ _ _ us hl => match us, hl with | [_], _ => rfl
  have g__law_drawn := PySem.W.mg_of X G a14
  have F__law_trimmed := fun_mk (st := s__law_trimmed) l15 c15 k15
  have b__law_trimmed := F__law_trimmed.binds (ps := ["_law_line"]) fun _ _ _ _ _ _ us hl => match us, hl with | [_], _ => rfl
  have g__law_trimmed := PySem.W.mg_of X G a15
  have F__law_told := fun_mk (st := s__law_told) l16 c16 k16
  have b__law_told := F__law_told.binds (ps := ["_law_ask", "_law_some"]) fun _ _ _ _ _ _ us hl => match us, hl with | [_, _], _ => rfl
  have g__law_told := PySem.W.mg_of X G a16
  have F_law := fun_mk (st := s_law) l17 c17 k17
  have b_law := F_law.binds (ps := ["_law_script"]) fun _ _ _ _ _ _ us hl => match us, hl with | [_], _ => rfl
  have g_law := PySem.W.mg_of X G a17
  have g_NOUGHT := PySem.W.mg_of X G ga0
  have m_abs := PySem.W.mg_none_of X G z0
  have m_len := PySem.W.mg_none_of X G z1
  have m_int := PySem.W.mg_none_of X G z2
  have m_min := PySem.W.mg_none_of X G z3
  have m_range := PySem.W.mg_none_of X G z4
  have m_tuple := PySem.W.mg_none_of X G z5
  have m_zip := PySem.W.mg_none_of X G z6
  have m_isinstance := PySem.W.mg_none_of X G z7
  have m_dict := PySem.W.mg_none_of X G z8
  have m_list := PySem.W.mg_none_of X G z9
  have m_all := PySem.W.mg_none_of X G z10
  have m_bool := PySem.W.mg_none_of X G z11
  have m_str := PySem.W.mg_none_of X G z12
  have m_reversed := PySem.W.mg_none_of X G z13
  have m_RuntimeError := PySem.W.mg_none_of X G z14
  refine ⟨_, fun s v => .of_eq (fd := PySem.W.fnOf "law" "law" (defArgs s_law) (defBody s_law) (defScope s_law) .none kV17 dc17 pm17 an17 cd17 ct17) rfl, fun base _ _ => ?_⟩
  have T : Frees mg := ⟨m_len, m_tuple, m_reversed, m_range, m_list, m_min⟩
  have Wd : WTxt K mg CW := ⟨w5, PySem.W.mg_of X G w1, w6, w7, w8⟩
  have EC : ExcC K CW := ⟨x1, x2, w7, x3, x4, x5, x6, x7⟩
  have Gfraction : FnOk l.prog w K mg base CX0 3 _ _ _ (spFrac K) := ok_fraction F_fraction F_common_part b_common_part g_common_part m_abs
  have Gminus := ok_minus F_minus F_fraction.kp Gfraction b_fraction g_fraction
  have dNou : ∀ H : Hp, Dp K H (.ref G0) (frD 0) := fun H => dp_fr_mk (.inr ⟨_, _, _, gl0, rfl, rfl, (by decide : 2 ≤ sizeLine), .cons ⟨_, rfl⟩ (.cons ⟨_, rfl⟩ .nil)⟩)
  have Gtrim : FnOk l.prog w K mg base CX0 3 _ _ _ (spTrim K) := ok_trimmed F_trimmed T g_NOUGHT dNou
  have Gmir := ok_mirX F_mirrored T Wd ⟨F_minus.kp, Gminus, b_minus, g_minus⟩ g_NOUGHT dNou
  have Gjoin : FnOk l.prog w K mg base (L2.CX l.prog w) 5 _ _ _ (spJoinX K CW) := ok_joinX F_joined Wd
  have Gtake : FnOk l.prog w K mg base CX0 3 _ _ _ spTake := ok_take F__law_take
  have Gof : FnOk l.prog w K mg base CX0 3 _ _ _ (spOf K) := ok_of F__law_of F__law_take b__law_take g__law_take m_len
  have Gbox : FnOk l.prog w K mg base CX0 3 _ _ _ (spBox K) := ok_box F__law_box F__law_cell_at b__law_cell_at g__law_cell_at m_len m_abs m_int
  have Gpane : FnOk l.prog w K mg base CX0 3 _ _ _ (spPane K) := ok_pane F__law_pane F__law_take b__law_take g__law_take F__law_of b__law_of g__law_of F__law_frac b__law_frac g__law_frac m_len m_abs
  have Grow := ok_row F__law_row F__law_take.kp Gtake b__law_take g__law_take F__law_of.kp Gof b__law_of g__law_of F__law_pane.kp Gpane b__law_pane g__law_pane m_range m_tuple
  have Gdrawn := ok_drawn F__law_drawn ⟨F__law_row.kp, Grow, b__law_row, g__law_row⟩ ⟨F__law_take.kp, Gtake.mono (by decide), b__law_take, g__law_take⟩
  have Glt : FnOk l.prog w K mg base CX0 3 _ _ _ (spTrim K) := ok_ltrim F__law_trimmed T
  have Gsame : FnOk l.prog w K mg base CX0 6 _ _ _ (spSame K 6) := ok_same F__law_same b__law_same g__law_same m_isinstance m_dict m_list m_tuple m_len m_all m_zip m_bool m_str m_int 6
  have Gtold := ok_told F__law_told ⟨m_isinstance⟩ m_RuntimeError Wd EC (PySem.W.mg_of X G w2) (PySem.W.mg_of X G w3) (PySem.W.mg_of X G w4) F_mirrored.kp (Gmir.mono (by decide : 5 ≤ 5)) b_mirrored g_mirrored F_joined.kp Gjoin b_joined g_joined y1 y2 y3 y4
  have kT := Ep.Fun.kb F_trimmed (ps := ["row"]) 0 ["row"] (fun us ws => us ++ ws) (fun r1 r2 => r1.append r2) (fun kV doc pm an cdv ct us ws h1 h2 => match us, h1, ws, h2 with | [], _, [_], _ => rfl)
  have kbM := Ep.Fun.kb F_mirrored (ps := ["row"]) 0 ["row"] (fun us ws => us ++ ws) (fun r1 r2 => r1.append r2) (fun kV doc pm an cdv ct us ws h1 h2 => match us, h1, ws, h2 with | [], _, [_], _ => rfl)
  have kbJ := Ep.Fun.kb F_joined (ps := ["one", "other"]) 0 ["other", "one"] (fun us ws => ws.drop 1 ++ ws.take 1) (fun r1 r2 => (r2.drop 1).append (r2.take 1)) (fun kV doc pm an cdv ct us ws h1 h2 => match us, h1, ws, h2 with | [], _, [_, _], _ => rfl)
  exact ok_law (k := 9) F_law T ⟨F__law_box.kp, Gbox.mono (by decide), b__law_box, g__law_box⟩ ⟨F__law_drawn.kp, Gdrawn.mono (by decide), b__law_drawn, g__law_drawn⟩ ⟨F__law_trimmed.kp, Glt.mono (by decide), b__law_trimmed, g__law_trimmed⟩ ⟨F_trimmed.kp, Gtrim.mono (by decide), b_trimmed, g_trimmed⟩ kT ⟨F__law_same.kp, Gsame.mono (by decide), b__law_same, g__law_same⟩ ⟨F__law_told.kp, Gtold.mono (by decide), b__law_told, g__law_told⟩
    F_mirrored.kp (Gmir.mono (by decide)) b_mirrored g_mirrored kbM F_joined.kp (Gjoin.mono (by decide)) b_joined g_joined kbJ
end Ep
open PySem PySem.W PyProof.Rows
set_option maxHeartbeats 0 in
theorem PySem.Challenge.cw_echopanes_k02_rows_trimmed_and_turned_ab_holds : PySem.Challenge.rw_echopanes_k02_rows_trimmed_and_turned_ab.Holds := by
  w_on; o_law; k_head; (case hw => w_witness2)
  k_fill
  refine L2.walk_of (l := PySem.Challenge.rw_echopanes_k02_rows_trimmed_and_turned_ab) (n := 63) (k := 10) (x := "_law_script") (CX := fun _ => L2.CX0) (sp := fun w => Ep.spLaw _) rfl (by decide) rfl ⟨rfl, by decide, by decide⟩ (fun w h Y => PySem.W.kIn_of Y) ?F (fun _ _ a ns hl _ hS => ⟨a, ns, rfl, hS, hl, fun _ => rfl⟩) (fun _ _ _ _ _ h => h)
  case F =>
    intro w mg fa h KX G hmg
    refine' Ep.all_mk KX G hmg ?a0 ?l0 ?c0 ?k0 ?a1 ?l1 ?c1 ?k1 ?a2 ?l2 ?c2 ?k2 ?a3 ?l3 ?c3 ?k3 ?a4 ?l4 ?c4 ?k4 ?a5 ?l5 ?c5 ?k5 ?a6 ?l6 ?c6 ?k6 ?a7 ?l7 ?c7 ?k7 ?a8 ?l8 ?c8 ?k8 ?a9 ?l9 ?c9 ?k9 ?a10 ?l10 ?c10 ?k10 ?a11 ?l11 ?c11 ?k11 ?a12 ?l12 ?c12 ?k12 ?a13 ?l13 ?c13 ?k13 ?a14 ?l14 ?c14 ?k14 ?a15 ?l15 ?c15 ?k15 ?a16 ?l16 ?c16 ?k16 ?a17 ?l17 ?c17 ?k17 ?ga0 ?gl0 ?z0 ?z1 ?z2 ?z3 ?z4 ?z5 ?z6 ?z7 ?z8 ?z9 ?z10 ?z11 ?z12 ?z13 ?z14 ?w1 ?w2 ?w3 ?w4 ?w5 ?w6 ?w7 ?w8 ?x1 ?x2 ?x3 ?x4 ?x5 ?x6 ?x7 ?y1 ?y2 ?y3 ?y4
    (case a0 => k_is); (case l0 => k_is); (case c0 => k_is); (case k0 => k_is); (case a1 => k_is); (case l1 => k_is); (case c1 => k_is); (case k1 => k_is); (case a2 => k_is); (case l2 => k_is); (case c2 => k_is); (case k2 => k_is); (case a3 => k_is); (case l3 => k_is); (case c3 => k_is); (case k3 => k_is); (case a4 => k_is); (case l4 => k_is); (case c4 => k_is); (case k4 => k_is); (case a5 => k_is); (case l5 => k_is); (case c5 => k_is); (case k5 => k_is); (case a6 => k_is); (case l6 => k_is); (case c6 => k_is); (case k6 => k_is); (case a7 => k_is); (case l7 => k_is); (case c7 => k_is); (case k7 => k_is); (case a8 => k_is); (case l8 => k_is); (case c8 => k_is); (case k8 => k_is); (case a9 => k_is); (case l9 => k_is); (case c9 => k_is); (case k9 => k_is); (case a10 => k_is); (case l10 => k_is); (case c10 => k_is); (case k10 => k_is); (case a11 => k_is); (case l11 => k_is); (case c11 => k_is); (case k11 => k_is); (case a12 => k_is); (case l12 => k_is); (case c12 => k_is); (case k12 => k_is); (case a13 => k_is); (case l13 => k_is); (case c13 => k_is); (case k13 => k_is); (case a14 => k_is); (case l14 => k_is); (case c14 => k_is); (case k14 => k_is); (case a15 => k_is); (case l15 => k_is); (case c15 => k_is); (case k15 => k_is); (case a16 => k_is); (case l16 => k_is); (case c16 => k_is); (case k16 => k_is); (case a17 => k_is); (case l17 => k_is); (case c17 => k_is); (case k17 => k_is); (case ga0 => k_is); (case gl0 => k_is); (case z0 => k_is); (case z1 => k_is); (case z2 => k_is); (case z3 => k_is); (case z4 => k_is); (case z5 => k_is); (case z6 => k_is); (case z7 => k_is); (case z8 => k_is); (case z9 => k_is); (case z10 => k_is); (case z11 => k_is); (case z12 => k_is); (case z13 => k_is); (case z14 => k_is); (case w1 => k_is); (case w2 => k_is); (case w3 => k_is); (case w4 => k_is); (case w5 => first | k_exc | first | k_is | kernel_rfl | decide +kernel); (case w6 => k_is); (case w7 => k_is); (case w8 => k_is); (case x1 => first | k_is | kernel_rfl | decide +kernel); (case x2 => first | k_is | kernel_rfl | decide +kernel); (case x3 => first | k_is | kernel_rfl | decide +kernel); (case x4 => first | k_is | kernel_rfl | decide +kernel); (case x5 => first | k_is | kernel_rfl | decide +kernel); (case x6 => first | k_is | kernel_rfl | decide +kernel); (case x7 => first | k_is | kernel_rfl | decide +kernel); (case y1 => first | k_is | kernel_rfl | decide +kernel); (case y2 => first | k_is | kernel_rfl | decide +kernel); (case y3 => first | k_is | kernel_rfl | decide +kernel); (case y4 => first | k_is | kernel_rfl | decide +kernel)
