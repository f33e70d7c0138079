import PyProof.Rows.All
import Wide.All
import OpenK.AllK
import Wide.FinOn
import HandS.Words
import HandS.List
import HandS.Comp
import HandS.WordsList
import HandS.Wide
import HandS.IsInst
import HandS.Zip
import HandS.Walk
import HandS.TupAny
import HandS.TupMul
import HandS.Defaults
import HandS.Rev
import HandS.Style
import HandS.Flow
import PySem.Challenge.RW_echopanes_k04_whole_rooms_joined_and_tur
set_option Elab.async false
set_option linter.all false
set_option maxRecDepth 100000
set_option maxHeartbeats 4000000
namespace Ep
/-! the mathematics of FRACTIONs -/
theorem gcd_pos {t u : Int} (h : 0 < u) : 0 < Int.gcd t u := Int.gcd_pos_of_ne_zero_right t (by omega)
theorem fr_num {t u : Int} (h : 0 < u) : (Rat.divInt t u).num = t / (Int.gcd t u : Int) := by
  rw [Rat.num_divInt, Int.sign_eq_one_of_pos h, Int.one_mul, Int.gcd_comm]
theorem fr_den {t u : Int} (h : 0 < u) : ((Rat.divInt t u).den : Int) = u / (Int.gcd t u : Int) := by
  rw [Rat.den_divInt, if_neg (by omega), Int.gcd_comm]
  have e : (u.natAbs : Int) = u := by omega
  rw [Int.natCast_ediv, e]
theorem gcd_fmod (a b : Int) (h : b ≠ 0) : Int.gcd b (a.fmod b) = Int.gcd a b := by
  have e : a.fmod b = a - b * (a.fdiv b) := by
    have := Int.mul_fdiv_add_fmod a b
    omega
  rw [e, Int.gcd_comm a b, Int.gcd_sub_mul_left_right]
theorem gcd_emod (a b : Int) (h : b ≠ 0) : Int.gcd b (a % b) = Int.gcd a b := by
  rw [Int.emod_def, Int.gcd_comm a b, Int.gcd_sub_mul_left_right]
/-- numbers of at most b bits -/
def Sz (b : Nat) (q : Rat) : Prop := q.num.natAbs < 2 ^ b ∧ q.den < 2 ^ b
theorem Sz.mono {a b : Nat} {q : Rat} (h : Sz a q) (l : a ≤ b) : Sz b q :=
  ⟨Nat.lt_of_lt_of_le h.1 (Nat.pow_le_pow_right (by decide) l), Nat.lt_of_lt_of_le h.2 (Nat.pow_le_pow_right (by decide) l)⟩
theorem sz_fr {t u : Int} {b : Nat} (h : 0 < u) (ht : t.natAbs < 2 ^ b) (hu : u.natAbs < 2 ^ b) : Sz b (Rat.divInt t u) := by
  have g := gcd_pos (t := t) h
  constructor
  · rw [fr_num h]
    have : (t / (Int.gcd t u : Int)).natAbs ≤ t.natAbs := by
      rw [Int.natAbs_ediv_of_dvd (Int.gcd_dvd_left ..)]
      exact Nat.div_le_self _ _
    omega
  · have e := fr_den (t := t) h
    have : (u / (Int.gcd t u : Int)).natAbs ≤ u.natAbs := by
      rw [Int.natAbs_ediv_of_dvd (Int.gcd_dvd_right ..)]
      exact Nat.div_le_self _ _
    omega
theorem den_pos (q : Rat) : (0 : Int) < (q.den : Int) := by
  have := q.den_nz
  omega
theorem q_add (q r : Rat) : Rat.divInt (q.num * r.den + r.num * q.den) (q.den * r.den) = q + r := by
  rw [Rat.add_def', ← Rat.divInt_ofNat]; rfl
theorem q_sub (q r : Rat) : Rat.divInt (q.num * r.den - r.num * q.den) (q.den * r.den) = q - r := by
  rw [Rat.sub_def', ← Rat.divInt_ofNat]; rfl
theorem q_mul (q r : Rat) : Rat.divInt (q.num * r.num) (q.den * r.den) = q * r := by
  rw [Rat.mul_def', ← Rat.divInt_ofNat]; rfl
theorem q_div (q r : Rat) : Rat.divInt (q.num * r.den) (q.den * r.num) = q / r := by
  rw [Rat.div_def, Rat.inv_def]
  conv => rhs; rw [← Rat.num_divInt_den q]
  rw [Rat.divInt_mul_divInt]
theorem dd_pos (q r : Rat) : (0 : Int) < (q.den : Int) * (r.den : Int) := Int.mul_pos (den_pos q) (den_pos r)
theorem dn_pos (q r : Rat) (h : 0 < r) : (0 : Int) < (q.den : Int) * r.num := Int.mul_pos (den_pos q) (by
  have := Rat.num_nonneg (q := r)
  have h1 : 0 ≤ r.num := this.mpr (Rat.le_of_lt h)
  have h2 : r.num ≠ 0 := fun e => by
    rw [Rat.num_eq_zero] at e
    rw [e] at h
    exact Rat.lt_irrefl h
  omega)
theorem m_lt {i j : Int} {a b : Nat} (ha : i.natAbs < 2 ^ a) (hb : j.natAbs < 2 ^ b) : (i * j).natAbs < 2 ^ (a + b) := by
  rw [Int.natAbs_mul, Nat.pow_add]
  exact Nat.mul_lt_mul'' ha hb
theorem Sz.den {b : Nat} {q : Rat} (h : Sz b q) : (q.den : Int).natAbs < 2 ^ b := by
  have := h.2
  omega
theorem a_lt {i j : Int} {c : Nat} (ha : i.natAbs < 2 ^ c) (hb : j.natAbs < 2 ^ c) : (i + j).natAbs < 2 ^ (c + 1) := by
  have : (i + j).natAbs ≤ i.natAbs + j.natAbs := Int.natAbs_add_le i j
  rw [Nat.pow_succ]
  omega
theorem s_lt {i j : Int} {c : Nat} (ha : i.natAbs < 2 ^ c) (hb : j.natAbs < 2 ^ c) : (i - j).natAbs < 2 ^ (c + 1) := by
  have : (i - j).natAbs ≤ i.natAbs + j.natAbs := Int.natAbs_sub_le i j
  rw [Nat.pow_succ]
  omega
theorem up_lt {n : Nat} {a b : Nat} (h : n < 2 ^ a) (l : a ≤ b) : n < 2 ^ b := Nat.lt_of_lt_of_le h (Nat.pow_le_pow_right (by decide) l)
section
variable {q r : Rat} {a b : Nat} (hq : Sz a q) (hr : Sz b r)
include hq hr
theorem sz_add_t : (q.num * r.den + r.num * q.den).natAbs < 2 ^ (a + b + 1) := a_lt (m_lt hq.1 hr.den) (by rw [Nat.add_comm a b]; exact m_lt hr.1 hq.den)
theorem sz_sub_t : (q.num * r.den - r.num * q.den).natAbs < 2 ^ (a + b + 1) := s_lt (m_lt hq.1 hr.den) (by rw [Nat.add_comm a b]; exact m_lt hr.1 hq.den)
theorem sz_dd : ((q.den : Int) * (r.den : Int)).natAbs < 2 ^ (a + b) := m_lt hq.den hr.den
theorem sz_add : Sz (a + b + 1) (q + r) := by
  rw [← q_add]
  exact sz_fr (dd_pos q r) (sz_add_t hq hr) (up_lt (sz_dd hq hr) (by omega))
theorem sz_sub : Sz (a + b + 1) (q - r) := by
  rw [← q_sub]
  exact sz_fr (dd_pos q r) (sz_sub_t hq hr) (up_lt (sz_dd hq hr) (by omega))
theorem sz_mul : Sz (a + b) (q * r) := by
  rw [← q_mul]
  exact sz_fr (dd_pos q r) (m_lt hq.1 hr.1) (sz_dd hq hr)
theorem sz_div (p : 0 < r) : Sz (a + b) (q / r) := by
  rw [← q_div]
  exact sz_fr (dn_pos q r p) (m_lt hq.1 hr.den) (m_lt hq.den hr.1)
end
theorem gcd_self (q : Rat) : Int.gcd q.num (q.den : Int) = 1 := by
  have := q.reduced
  unfold Nat.Coprime at this
  unfold Int.gcd
  simpa using this
/-! the laws' own identities -/
example (r : Rat) (h : 1 + r ≠ 0) : (1 - r) / (1 + r) = 1 / (1+r) - r / (1 + r) := by grind
theorem share_of {w r : Rat} (h : 1 + r ≠ 0) : w * ((1 - r) / (1 + r)) = w * (1 - r) / (1 + r) := by grind
theorem back_pane {a b : Rat} (ha : 0 < a) (hb : 0 < b) : a * ((1 - (a - b) / (a + b)) / (1 + (a - b) / (a + b))) = b := by
  have h : a + b ≠ 0 := by grind
  have h2 : 1 + (a - b) / (a + b) = 2 * a / (a + b) := by grind
  have h3 : 1 - (a - b) / (a + b) = 2 * b / (a + b) := by grind
  rw [h2, h3]
  grind
theorem back_room {w r : Rat} (hw : 0 < w) (h1 : r < 1) (h2 : -1 < r) : (w - w * ((1 - r) / (1 + r))) / (w + w * ((1 - r) / (1 + r))) = r := by
  have h : 1 + r ≠ 0 := by grind
  have e1 : w - w * ((1 - r) / (1 + r)) = 2 * w * r / (1 + r) := by grind
  have e2 : w + w * ((1 - r) / (1 + r)) = 2 * w / (1 + r) := by grind
  rw [e1, e2]
  grind
/-! rooms and panes -/
def shareQ (r : Rat) : Rat := (1 - r) / (1 + r)
def lastQ : Rat → List Rat → Rat
  | w, [] => w
  | w, r :: rs => lastQ (w * shareQ r) rs
def roomsQ : Rat → List Rat → List Rat
  | w, [] => [w]
  | w, r :: rs => w :: roomsQ (w * shareQ r) rs
def panesQ : List Rat → List Rat
  | a :: b :: r => ((a - b) / (a + b)) :: panesQ (b :: r)
  | _ => []
theorem lastQ_snoc (r : Rat) : ∀ (qs : List Rat) (w : Rat), lastQ w (qs ++ [r]) = lastQ w qs * shareQ r
  | [], w => rfl
  | q :: qs, w => lastQ_snoc r qs (w * shareQ q)
theorem roomsQ_snoc (r : Rat) : ∀ (qs : List Rat) (w : Rat), roomsQ w (qs ++ [r]) = roomsQ w qs ++ [lastQ w qs * shareQ r]
  | [], w => rfl
  | q :: qs, w => by
    show w :: roomsQ (w * shareQ q) (qs ++ [r]) = w :: (roomsQ (w * shareQ q) qs ++ [lastQ (w * shareQ q) qs * shareQ r])
    rw [roomsQ_snoc r qs]
theorem roomsQ_len : ∀ (qs : List Rat) (w : Rat), (roomsQ w qs).length = qs.length + 1
  | [], w => rfl
  | q :: qs, w => congrArg Nat.succ (roomsQ_len qs _)
theorem panesQ_len : ∀ ws : List Rat, (panesQ ws).length = ws.length - 1
  | [] => rfl
  | [_] => rfl
  | a :: b :: r => by
    show (panesQ (b :: r)).length + 1 = (b :: r).length + 1 - 1
    rw [panesQ_len (b :: r)]
    simp
theorem panesQ_get : ∀ (ws : List Rat) (i : Nat) (x y : Rat), ws[i]? = some x → ws[i + 1]? = some y → (panesQ ws)[i]? = some ((x - y) / (x + y))
  | [], _, _, _, h, _ => by simp at h
  | [_], 0, _, _, _, h => by simp at h
  | [_], i + 1, _, _, h, _ => by simp at h
  | a :: b :: r, 0, x, y, h, h2 => by
    have e1 : a = x := Option.some.inj h
    have e2 : b = y := Option.some.inj h2
    rw [← e1, ← e2]
    rfl
  | a :: b :: r, i + 1, x, y, h, h2 => panesQ_get (b :: r) i x y h h2
/-- a pane of at most c bits -/
structure PaneZ (c : Nat) (q : Rat) : Prop where
  lo : -1 < q
  hi : q < 1
  sz : Sz c q
theorem PaneZ.p1 {c : Nat} {q : Rat} (h : PaneZ c q) : 0 < 1 + q := by
  have := h.lo
  grind
theorem PaneZ.m1 {c : Nat} {q : Rat} (h : PaneZ c q) : 0 < 1 - q := by
  have := h.hi
  grind
theorem sz_one : Sz 1 1 := ⟨by decide, by decide⟩
theorem PaneZ.sp {c : Nat} {q : Rat} (h : PaneZ c q) : Sz (c + 2) (1 + q) := (sz_add sz_one h.sz).mono (by omega)
theorem PaneZ.sm {c : Nat} {q : Rat} (h : PaneZ c q) : Sz (c + 2) (1 - q) := (sz_sub sz_one h.sz).mono (by omega)
theorem div_pos {a b : Rat} (ha : 0 < a) (hb : 0 < b) : 0 < a / b := by
  rw [Rat.div_def]
  exact Rat.mul_pos ha (Rat.inv_pos.mpr hb)
theorem PaneZ.share {c : Nat} {q : Rat} (h : PaneZ c q) : 0 < shareQ q ∧ Sz (2 * c + 4) (shareQ q) :=
  ⟨div_pos h.m1 h.p1, (sz_div h.sm h.sp h.p1).mono (by omega)⟩
theorem lastQ_ok {c : Nat} : ∀ (qs : List Rat) (w : Rat) (b : Nat), 0 < w → Sz b w → (∀ q ∈ qs, PaneZ c q) → 0 < lastQ w qs ∧ Sz (b + (2 * c + 4) * qs.length) (lastQ w qs)
  | [], w, b, h, z, _ => ⟨h, z⟩
  | q :: qs, w, b, h, z, hp => by
    have p := (hp q (List.mem_cons_self ..)).share
    have r := lastQ_ok qs (w * shareQ q) (b + (2 * c + 4)) (Rat.mul_pos h p.1) (sz_mul z p.2) (fun x hx => hp x (List.mem_cons_of_mem _ hx))
    refine ⟨r.1, r.2.mono ?_⟩
    rw [List.length_cons, Nat.mul_add]
    omega
theorem roomsQ_ok {c : Nat} : ∀ (qs : List Rat) (w : Rat) (b : Nat), 0 < w → Sz b w → (∀ q ∈ qs, PaneZ c q) → ∀ x ∈ roomsQ w qs, 0 < x ∧ Sz (b + (2 * c + 4) * qs.length) x
  | [], w, b, h, z, _, x, hx => by
    rw [List.mem_singleton.mp hx]
    exact ⟨h, z⟩
  | q :: qs, w, b, h, z, hp, x, hx => by
    rcases List.mem_cons.mp hx with rfl | hx
    · exact ⟨h, z.mono (by omega)⟩
    · have p := (hp q (List.mem_cons_self ..)).share
      have r := roomsQ_ok qs (w * shareQ q) (b + (2 * c + 4)) (Rat.mul_pos h p.1) (sz_mul z p.2) (fun x hx => hp x (List.mem_cons_of_mem _ hx)) x hx
      refine ⟨r.1, r.2.mono ?_⟩
      rw [List.length_cons, Nat.mul_add]
      omega
theorem panes_rooms {c : Nat} : ∀ (qs : List Rat) (w : Rat), 0 < w → (∀ q ∈ qs, PaneZ c q) → panesQ (roomsQ w qs) = qs
  | [], w, _, _ => rfl
  | [q], w, h, hp => by
    have p := hp q (List.mem_cons_self ..)
    show [(w - w * shareQ q) / (w + w * shareQ q)] = [q]
    unfold shareQ
    rw [back_room h p.hi p.lo]
  | q :: q2 :: qs, w, h, hp => by
    have p := hp q (List.mem_cons_self ..)
    have ih := panes_rooms (q2 :: qs) (w * shareQ q) (Rat.mul_pos h p.share.1) (fun x hx => hp x (List.mem_cons_of_mem _ hx))
    show ((w - w * shareQ q) / (w + w * shareQ q)) :: panesQ (roomsQ (w * shareQ q) (q2 :: qs)) = q :: q2 :: qs
    rw [ih]
    congr 1
    unfold shareQ
    exact back_room h p.hi p.lo
theorem rooms_panes : ∀ (w : Rat) (ws : List Rat), (∀ x ∈ w :: ws, 0 < x) → roomsQ w (panesQ (w :: ws)) = w :: ws
  | w, [], _ => rfl
  | w, v :: ws, hp => by
    have h1 := hp w (List.mem_cons_self ..)
    have h2 := hp v (List.mem_cons_of_mem _ (List.mem_cons_self ..))
    have ih := rooms_panes v ws (fun x hx => hp x (List.mem_cons_of_mem _ hx))
    show w :: roomsQ (w * shareQ ((w - v) / (w + v))) (panesQ (v :: ws)) = w :: v :: ws
    unfold shareQ
    rw [back_pane h1 h2, ih]
theorem panesQ_scale (k : Rat) (hk : 0 < k) : ∀ ws : List Rat, (∀ x ∈ ws, 0 < x) → panesQ (ws.map (k * ·)) = panesQ ws
  | [], _ => rfl
  | [_], _ => rfl
  | a :: b :: r, hp => by
    have h1 := hp a (List.mem_cons_self ..)
    have h2 := hp b (List.mem_cons_of_mem _ (List.mem_cons_self ..))
    have ih := panesQ_scale k hk (b :: r) (fun x hx => hp x (List.mem_cons_of_mem _ hx))
    show ((k * a - k * b) / (k * a + k * b)) :: panesQ ((b :: r).map (k * ·)) = ((a - b) / (a + b)) :: panesQ (b :: r)
    rw [ih]
    congr 1
    have : a + b ≠ 0 := by grind
    have e1 : k * a - k * b = k * (a - b) := by grind
    have e2 : k * a + k * b = k * (a + b) := by grind
    rw [e1, e2]
    grind
theorem pane_two {a b : Rat} {c : Nat} (ha : 0 < a) (hb : 0 < b) (za : Sz c a) (zb : Sz c b) : PaneZ (4 * c + 2) ((a - b) / (a + b)) := by
  have hs : 0 < a + b := by grind
  refine ⟨?_, ?_, (sz_div (sz_sub za zb) (sz_add za zb) hs).mono (by omega)⟩
  · rw [Rat.lt_div_iff hs]
    grind
  · rw [Rat.div_lt_iff hs]
    grind
theorem panesQ_ok {c : Nat} : ∀ ws : List Rat, (∀ x ∈ ws, 0 < x ∧ Sz c x) → ∀ q ∈ panesQ ws, PaneZ (4 * c + 2) q
  | [], _, q, h => by cases h
  | [_], _, q, h => by cases h
  | a :: b :: r, hp, q, h => by
    have h1 := hp a (List.mem_cons_self ..)
    have h2 := hp b (List.mem_cons_of_mem _ (List.mem_cons_self ..))
    rcases List.mem_cons.mp h with rfl | h
    · exact pane_two h1.1 h2.1 h1.2 h2.2
    · exact panesQ_ok (b :: r) (fun x hx => hp x (List.mem_cons_of_mem _ hx)) q h
/-! rows trimmed, turned about -/
def trimL : List Rat → List Rat
  | [] => []
  | q :: qs => if q = 0 ∧ trimL qs = [] then [] else q :: trimL qs
theorem trimL_zeros : ∀ qs : List Rat, (∀ q ∈ qs, q = 0) → trimL qs = []
  | [], _ => rfl
  | q :: qs, h => by
    unfold trimL
    rw [if_pos ⟨h q (List.mem_cons_self ..), trimL_zeros qs (fun x hx => h x (List.mem_cons_of_mem _ hx))⟩]
theorem trimL_app : ∀ (xs ys : List Rat), (∀ q ∈ ys, q = 0) → trimL (xs ++ ys) = trimL xs
  | [], ys, h => trimL_zeros ys h
  | x :: xs, ys, h => by
    show (if x = 0 ∧ trimL (xs ++ ys) = [] then [] else x :: trimL (xs ++ ys)) = if x = 0 ∧ trimL xs = [] then [] else x :: trimL xs
    rw [trimL_app xs ys h]
theorem trimL_last : ∀ (xs : List Rat) (q : Rat), q ≠ 0 → trimL (xs ++ [q]) = xs ++ [q]
  | [], q, h => by
    show (if q = 0 ∧ trimL [] = [] then [] else q :: trimL []) = [q]
    rw [if_neg (fun z => h z.1)]
    rfl
  | x :: xs, q, h => by
    show (if x = 0 ∧ trimL (xs ++ [q]) = [] then [] else x :: trimL (xs ++ [q])) = x :: (xs ++ [q])
    rw [trimL_last xs q h, if_neg (fun z => by simp at z)]
/-- where all behind the m-th are 0, and the m-th isn't -/
theorem trimL_take {qs : List Rat} {m : Nat} (hm : m ≤ qs.length) (h0 : ∀ q ∈ qs.drop m, q = 0) (h1 : m = 0 ∨ ∃ q, qs[m - 1]? = some q ∧ q ≠ 0) : trimL qs = qs.take m := by
  have e : qs = qs.take m ++ qs.drop m := (List.take_append_drop m qs).symm
  conv => lhs; rw [e]
  rw [trimL_app _ _ h0]
  rcases h1 with rfl | ⟨q, hq, hn⟩
  · rfl
  · cases m with
    | zero => rfl
    | succ m =>
      have hq' : qs[m]? = some q := hq
      rw [List.take_add_one, hq']
      exact trimL_last _ q hn
def trimR (qs : List Rat) (x : Int) : List Rat := if x = 0 then trimL qs else qs
def mirQ (qs : List Rat) : List Rat := (qs.map (fun q => -q)).reverse
theorem mir_len (qs : List Rat) : (mirQ qs).length = qs.length := by simp [mirQ]
theorem mir_pane {c : Nat} {qs : List Rat} (h : ∀ q ∈ qs, PaneZ c q) : ∀ q ∈ mirQ qs, PaneZ c q := fun q hq => by
  unfold mirQ at hq
  rw [List.mem_reverse] at hq
  obtain ⟨r, hr, rfl⟩ := List.mem_map.mp hq
  have p := h r hr
  have p1 := p.lo
  have p2 := p.hi
  refine ⟨by grind, by grind, ?_, ?_⟩
  · rw [Rat.neg_num, Int.natAbs_neg]
    exact p.sz.1
  · exact p.sz.2
theorem mir_app (a b : List Rat) : mirQ (a ++ b) = mirQ b ++ mirQ a := by simp [mirQ]
theorem mir_mir (qs : List Rat) : mirQ (mirQ qs) = qs := by
  unfold mirQ
  rw [List.map_reverse, List.reverse_reverse, List.map_map]
  have : ((fun q : Rat => -q) ∘ fun q : Rat => -q) = id := by
    funext q
    show - -q = q
    grind
  rw [this, List.map_id]
/-! rooms of joined rows, turned about, strewn; a room put in -/
theorem roomsQ_last : ∀ (qs : List Rat) (w : Rat), ∃ ls, roomsQ w qs = ls ++ [lastQ w qs] ∧ ls.length = qs.length
  | [], w => ⟨[], rfl, rfl⟩
  | q :: qs, w => by
    obtain ⟨ls, h, l⟩ := roomsQ_last qs (w * shareQ q)
    exact ⟨w :: ls, congrArg (w :: ·) h, congrArg Nat.succ l⟩
theorem rooms_join : ∀ (a : List Rat) (w : Rat) (b ls : List Rat), roomsQ w a = ls ++ [lastQ w a] → roomsQ w (a ++ b) = ls ++ roomsQ (lastQ w a) b
  | [], w, b, ls, h => by
    have e : ls = [] := by
      have := congrArg List.length h
      simp [roomsQ] at this
      exact this
    subst e
    rfl
  | q :: a, w, b, ls, h => by
    cases ls with
    | nil =>
      have := congrArg List.length h
      simp [roomsQ_len] at this
    | cons l ls =>
      have h' : w :: roomsQ (w * shareQ q) a = l :: (ls ++ [lastQ (w * shareQ q) a]) := h
      injection h' with e1 e2
      subst e1
      have ih := rooms_join a (w * shareQ q) b ls e2
      show w :: roomsQ (w * shareQ q) (a ++ b) = w :: (ls ++ roomsQ (lastQ (w * shareQ q) a) b)
      rw [ih]
theorem lastQ_app : ∀ (a b : List Rat) (w : Rat), lastQ w (a ++ b) = lastQ (lastQ w a) b
  | [], b, w => rfl
  | q :: a, b, w => lastQ_app a b (w * shareQ q)
theorem share_neg {c : Nat} {q : Rat} (h : PaneZ c q) : shareQ q * shareQ (-q) = 1 := by
  have h1 := h.p1
  have h2 := h.m1
  unfold shareQ
  have a1 : 1 + q ≠ 0 := by grind
  have a2 : 1 - q ≠ 0 := by grind
  have e1 : 1 - -q = 1 + q := by grind
  have e2 : 1 + -q = 1 - q := by grind
  rw [e1, e2]
  grind
theorem rooms_mir {c : Nat} : ∀ (qs : List Rat) (w : Rat), (∀ q ∈ qs, PaneZ c q) → roomsQ (lastQ w qs) (mirQ qs) = (roomsQ w qs).reverse ∧ lastQ (lastQ w qs) (mirQ qs) = w
  | [], w, _ => ⟨rfl, rfl⟩
  | q :: qs, w, h => by
    have ih := rooms_mir qs (w * shareQ q) (fun x hx => h x (List.mem_cons_of_mem _ hx))
    have p := share_neg (h q (List.mem_cons_self ..))
    have e : mirQ (q :: qs) = mirQ qs ++ [-q] := by simp [mirQ]
    have e2 : w * shareQ q * shareQ (-q) = w := by
      rw [Rat.mul_assoc, p, Rat.mul_one]
    have el : lastQ w (q :: qs) = lastQ (w * shareQ q) qs := rfl
    rw [e, el]
    constructor
    · rw [roomsQ_snoc, ih.1, ih.2, e2]
      show (roomsQ (w * shareQ q) qs).reverse ++ [w] = (w :: roomsQ (w * shareQ q) qs).reverse
      rw [List.reverse_cons]
    · rw [lastQ_snoc, ih.2, e2]
def prodQ : List Rat → Rat
  | [] => 1
  | q :: qs => shareQ q * prodQ qs
theorem lastQ_prod : ∀ (qs : List Rat) (w : Rat), lastQ w qs = w * prodQ qs
  | [], w => (Rat.mul_one w).symm
  | q :: qs, w => by
    show lastQ (w * shareQ q) qs = w * (shareQ q * prodQ qs)
    rw [lastQ_prod qs, Rat.mul_assoc]
theorem prodQ_perm {a b : List Rat} (h : a.Perm b) : prodQ a = prodQ b := by
  induction h with
  | nil => rfl
  | cons x _ ih =>
    show shareQ x * prodQ _ = shareQ x * prodQ _
    rw [ih]
  | swap x y l =>
    show shareQ y * (shareQ x * prodQ l) = shareQ x * (shareQ y * prodQ l)
    grind
  | trans _ _ i1 i2 => exact i1.trans i2
theorem lastQ_perm {a b : List Rat} (h : a.Perm b) (w : Rat) : lastQ w a = lastQ w b := by
  rw [lastQ_prod, lastQ_prod, prodQ_perm h]
theorem lastQ_over (qs : List Rat) {w : Rat} (h : 0 < w) : lastQ w qs / w = lastQ 1 qs := by
  rw [lastQ_prod, lastQ_prod]
  have : w ≠ 0 := by grind
  grind
theorem rooms_take : ∀ (qs : List Rat) (w : Rat) (m : Nat), m ≤ qs.length → roomsQ w (qs.take m) = (roomsQ w qs).take (m + 1)
  | [], w, m, h => by
    have : m = 0 := by simpa using h
    subst this
    rfl
  | q :: qs, w, 0, h => rfl
  | q :: qs, w, m + 1, h => by
    show w :: roomsQ (w * shareQ q) (qs.take m) = w :: (roomsQ (w * shareQ q) qs).take (m + 1)
    rw [rooms_take qs (w * shareQ q) m (by simpa using h)]
theorem trimL_is : ∀ qs : List Rat, ∃ m, m ≤ qs.length ∧ trimL qs = qs.take m
  | [] => ⟨0, Nat.le_refl _, rfl⟩
  | q :: qs => by
    obtain ⟨m, h1, h2⟩ := trimL_is qs
    unfold trimL
    by_cases h : q = 0 ∧ trimL qs = []
    · rw [if_pos h]
      exact ⟨0, Nat.zero_le _, rfl⟩
    · rw [if_neg h, h2]
      exact ⟨m + 1, by simpa using h1, rfl⟩
theorem panesQ_amid : ∀ (A : List Rat) (a b : Rat) (B : List Rat), panesQ (A ++ a :: b :: B) = panesQ (A ++ [a]) ++ ((a - b) / (a + b)) :: panesQ (b :: B)
  | [], a, b, B => rfl
  | [x], a, b, B => rfl
  | x :: y :: A, a, b, B => by
    have ih := panesQ_amid (y :: A) a b B
    show ((x - y) / (x + y)) :: panesQ ((y :: A) ++ a :: b :: B) = ((x - y) / (x + y)) :: (panesQ ((y :: A) ++ [a]) ++ ((a - b) / (a + b)) :: panesQ (b :: B))
    rw [ih]
theorem share_pane {a b : Rat} (ha : 0 < a) (hb : 0 < b) : shareQ ((a - b) / (a + b)) = b / a := by
  have h := back_pane ha hb
  unfold shareQ
  have : a ≠ 0 := by grind
  have e : a * ((1 - (a - b) / (a + b)) / (1 + (a - b) / (a + b))) / a = b / a := by rw [h]
  rw [← e]
  grind
theorem share_two {a b v : Rat} (ha : 0 < a) (hb : 0 < b) (hv : 0 < v) : lastQ 1 [(a - v) / (a + v), (v - b) / (v + b)] = lastQ 1 [(a - b) / (a + b)] := by
  show 1 * shareQ ((a - v) / (a + v)) * shareQ ((v - b) / (v + b)) = 1 * shareQ ((a - b) / (a + b))
  rw [share_pane ha hv, share_pane hv hb, share_pane ha hb]
  have : a ≠ 0 := by grind
  have : v ≠ 0 := by grind
  grind
theorem erase_perm {α : Type} : ∀ (l : List α) (k : Nat) (h : k < l.length), (l[k] :: l.eraseIdx k).Perm l
  | x :: xs, 0, _ => List.Perm.refl _
  | x :: xs, k + 1, h => by
    have ih := erase_perm xs k (by simpa using h)
    show (xs[k]'(by simpa using h) :: x :: xs.eraseIdx k).Perm (x :: xs)
    exact (List.Perm.swap _ _ _).trans (List.Perm.cons x ih)
end Ep
namespace Ep
open PySem PySem.Spec PyProof.Rows L2
/-! ### heaps: what a draw changes -/
/-- all but what stands at p is as it was -/
def Chg (p : Addr) (H H' : Hp) : Prop := ∀ b o, b ≠ p → H b = some o → H' b = some o
theorem Chg.refl {p : Addr} {H : Hp} : Chg p H H := fun _ _ _ h => h
theorem Chg.trans {p : Addr} {H H1 H2 : Hp} (a : Chg p H H1) (b : Chg p H1 H2) : Chg p H H2 := fun c o n h => b c o n (a c o n h)
theorem Chg.of_same {p : Addr} {H H' : Hp} (h : Same H H') : Chg p H H' := fun b o _ e => h b o e
theorem same_upd {H : Hp} {p : Addr} {o : HO} (h : H p = none) : Same H (upd H p o) := fun b x e => by
  rw [upd_ne (ne_of_none e h)]
  exact e
theorem chg_upd {H : Hp} {p : Addr} {o : HO} : Chg p H (upd H p o) := fun b x n e => by
  rw [upd_ne n]
  exact e
theorem Chg.free {p : Addr} {H H' : Hp} (c : Chg p H H') {l : Addr} (n : l ≠ p) (h : H' l = none) : H l = none := by
  cases q : H l with
  | none => rfl
  | some o =>
    rw [c l o n q] at h
    cases h
/-- a new thing is laid, then that is changed: nothing old is -/
theorem Same.chg_new {p : Addr} {H H1 H2 : Hp} (a : Same H H1) (n : H p = none) (c : Chg p H1 H2) : Same H H2 := fun b o e => c b o (ne_of_none e n) (a b o e)
theorem Same.tup {K : PySem.W.Frag} {H H' : Hp} {a : Addr} {xs : List V} (e : Same H H') (h : SqT K H a xs) : SqT K H' a xs := by
  rcases h with (h | ⟨o, h⟩) | h
  · exact .inl (.inl (e _ _ h))
  · exact .inl (.inr ⟨o, e _ _ h⟩)
  · exact .inr h
theorem Chg.tup {K : PySem.W.Frag} {p : Addr} {H H' : Hp} {a : Addr} {xs l : List V} (c : Chg p H H') (hp : H p = some (.lst l)) (h : SqT K H a xs) : SqT K H' a xs := by
  rcases h with (h | ⟨o, h⟩) | h
  · exact .inl (.inl (c _ _ (fun e => by subst e; rw [hp] at h; cases h) h))
  · exact .inl (.inr ⟨o, c _ _ (fun e => by subst e; rw [hp] at h; cases h) h⟩)
  · exact .inr h
/-! ### data in the heap -/
mutual
def noL : PyData → Bool
  | .list _ => false
  | .dict _ => false
  | .tuple ds => noLs ds
  | _ => true
def noLs : List PyData → Bool
  | [] => true
  | d :: ds => noL d && noLs ds
end
section
variable {K : PySem.W.Frag} {H H' : Hp}
mutual
theorem dp_same (e : Same H H') : ∀ (d : PyData) (v : V), Dp K H v d → Dp K H' v d
  | .none, _, h => by cases h; exact .non
  | .bool b, _, h => by cases h; exact .bl b
  | .int i, _, h => by cases h; exact .int i
  | .str x, _, h => by cases h; exact .str x
  | .list ds, _, h => by
    cases h with
    | lst hs ha => exact .lst (e.seq hs) (dps_same e ds _ ha)
  | .tuple ds, _, h => by
    cases h with
    | tup hs ha => exact .tup (Same.tup e hs) (dps_same e ds _ ha)
  | .dict _, _, h => by cases h
theorem dps_same (e : Same H H') : ∀ (ds : List PyData) (vs : List V), DpAll K H vs ds → DpAll K H' vs ds
  | [], _, h => by cases h; exact .nil
  | d :: ds, _, h => by
    cases h with
    | cons a b => exact .cons (dp_same e d _ a) (dps_same e ds _ b)
end
mutual
theorem dp_chg {p : Addr} {l : List V} (c : Chg p H H') (hp : H p = some (.lst l)) : ∀ (d : PyData) (v : V), noL d = true → Dp K H v d → Dp K H' v d
  | .none, _, _, h => by cases h; exact .non
  | .bool b, _, _, h => by cases h; exact .bl b
  | .int i, _, _, h => by cases h; exact .int i
  | .str x, _, _, h => by cases h; exact .str x
  | .list ds, _, n, h => by cases n
  | .tuple ds, _, n, h => by
    cases h with
    | tup hs ha => exact .tup (c.tup hp hs) (dps_chg c hp ds _ n ha)
  | .dict _, _, _, h => by cases h
theorem dps_chg {p : Addr} {l : List V} (c : Chg p H H') (hp : H p = some (.lst l)) : ∀ (ds : List PyData) (vs : List V), noLs ds = true → DpAll K H vs ds → DpAll K H' vs ds
  | [], _, _, h => by cases h; exact .nil
  | d :: ds, _, n, h => by
    have n2 : noL d = true ∧ noLs ds = true := by simpa [noLs] using n
    cases h with
    | cons a b => exact .cons (dp_chg c hp d _ n2.1 a) (dps_chg c hp ds _ n2.2 b)
end
theorem dps_len : ∀ {vs : List V} {ds : List PyData}, DpAll K H vs ds → vs.length = ds.length
  | _, _, .nil => rfl
  | _, _, .cons _ t => congrArg Nat.succ (dps_len t)
theorem dps_get : ∀ {vs : List V} {ds : List PyData} {i : Nat} {v : V}, DpAll K H vs ds → vs[i]? = some v → ∃ d, ds[i]? = some d ∧ Dp K H v d
  | _, _, _, _, .nil, e => by simp at e
  | _, _, 0, _, .cons r _, e => by simp at e; subst e; exact ⟨_, rfl, r⟩
  | _, _, i + 1, x, .cons _ t, e => by
    obtain ⟨u, h1, h2⟩ := dps_get (i := i) (v := x) t (by simpa using e)
    exact ⟨u, by simpa using h1, h2⟩
theorem dps_app : ∀ {xs ys : List V} {us ws : List PyData}, DpAll K H xs us → DpAll K H ys ws → DpAll K H (xs ++ ys) (us ++ ws)
  | _, _, _, _, .nil, s => s
  | _, _, _, _, .cons r t, s => .cons r (dps_app t s)
theorem dps_take : ∀ {xs : List V} {us : List PyData} (n : Nat), DpAll K H xs us → DpAll K H (xs.take n) (us.take n)
  | _, _, 0, _ => .nil
  | _, _, _ + 1, .nil => .nil
  | _, _, n + 1, .cons r t => .cons r (dps_take n t)
theorem dps_drop : ∀ {xs : List V} {us : List PyData} (n : Nat), DpAll K H xs us → DpAll K H (xs.drop n) (us.drop n)
  | _, _, 0, r => r
  | _, _, _ + 1, .nil => .nil
  | _, _, n + 1, .cons _ t => dps_drop n t
theorem dps_rev : ∀ {xs : List V} {us : List PyData}, DpAll K H xs us → DpAll K H xs.reverse us.reverse
  | _, _, .nil => .nil
  | _, _, .cons r t => by
    rw [List.reverse_cons, List.reverse_cons]
    exact dps_app (dps_rev t) (.cons r .nil)
end
/-! FRACTIONs and ROWs as data -/
def frD (q : Rat) : PyData := .tuple [.int q.num, .int (q.den : Int)]
def frs (qs : List Rat) : List PyData := qs.map frD
def rowD (qs : List Rat) (w : Int) : PyData := .tuple [.tuple (frs qs), .int w]
theorem noL_fr (q : Rat) : noL (frD q) = true := rfl
theorem noL_frs : ∀ qs : List Rat, noLs (frs qs) = true
  | [] => rfl
  | q :: qs => by
    show (noL (frD q) && noLs (frs qs)) = true
    rw [noL_fr, noL_frs qs]
    rfl
theorem noL_row (qs : List Rat) (w : Int) : noL (rowD qs w) = true := by
  show (noLs (frs qs) && (true && true)) = true
  rw [noL_frs]
  rfl
theorem dp_fr {K : PySem.W.Frag} {H : Hp} {v : V} {q : Rat} (h : Dp K H v (frD q)) : ∃ a, v = .ref a ∧ SqT K H a [.int q.num, .int (q.den : Int)] := by
  cases h with
  | tup hs ha =>
    cases ha with
    | cons a b =>
      cases b with
      | cons c d =>
        cases d
        cases a
        cases c
        exact ⟨_, rfl, hs⟩
theorem dp_fr_mk {K : PySem.W.Frag} {H : Hp} {a : Addr} {q : Rat} (h : SqT K H a [.int q.num, .int (q.den : Int)]) : Dp K H (.ref a) (frD q) := .tup h (.cons (.int _) (.cons (.int _) .nil))
theorem dp_tup {K : PySem.W.Frag} {H : Hp} {v : V} {ds : List PyData} (h : Dp K H v (.tuple ds)) : ∃ a xs, v = .ref a ∧ SqT K H a xs ∧ DpAll K H xs ds := by
  cases h with
  | tup hs ha => exact ⟨_, _, rfl, hs, ha⟩
theorem dp_lst {K : PySem.W.Frag} {H : Hp} {v : V} {ds : List PyData} (h : Dp K H v (.list ds)) : ∃ a xs, v = .ref a ∧ SqL K H a xs ∧ DpAll K H xs ds := by
  cases h with
  | lst hs ha => exact ⟨_, _, rfl, hs, ha⟩
theorem dp_int {K : PySem.W.Frag} {H : Hp} {v : V} {i : Int} (h : Dp K H v (.int i)) : v = .int i := by
  cases h
  rfl
theorem dp_row {K : PySem.W.Frag} {H : Hp} {v : V} {qs : List Rat} {w : Int} (h : Dp K H v (rowD qs w)) : ∃ a b xs, v = .ref a ∧ SqT K H a [.ref b, .int w] ∧ SqT K H b xs ∧ DpAll K H xs (frs qs) := by
  obtain ⟨a, xs, rfl, h1, h2⟩ := dp_tup h
  cases h2 with
  | cons x y =>
    cases y with
    | cons z u =>
      cases u
      obtain ⟨b, ys, rfl, h3, h4⟩ := dp_tup x
      cases z
      exact ⟨a, b, ys, rfl, h1, h3, h4⟩
theorem dp_row_mk {K : PySem.W.Frag} {H : Hp} {a b : Addr} {xs : List V} {qs : List Rat} {w : Int} (h1 : SqT K H a [.ref b, .int w]) (h2 : SqT K H b xs) (h3 : DpAll K H xs (frs qs)) : Dp K H (.ref a) (rowD qs w) :=
  .tup h1 (.cons (.tup h2 h3) (.cons (.int w) .nil))
/-! ### the box of draws -/
structure Bx (H : Hp) (p : Addr) (n : Nat) : Prop where
  ex : ∃ x y z : Int, H p = some (.lst [.int x, .int y, .int z]) ∧ 0 ≤ x ∧ 0 ≤ y ∧ y < 4000000000000000000 ∧ 0 ≤ z ∧ z ≤ n
theorem Bx.at {H : Hp} {p : Addr} {n : Nat} (b : Bx H p n) : ∃ l, H p = some (.lst l) := by
  obtain ⟨x, y, z, h, _⟩ := b.ex
  exact ⟨_, h⟩
theorem Bx.mono {H : Hp} {p : Addr} {n m : Nat} (b : Bx H p n) (h : n ≤ m) : Bx H p m := by
  obtain ⟨x, y, z, a, b, c, d, e, f⟩ := b.ex
  exact ⟨x, y, z, a, b, c, d, e, by omega⟩
theorem Bx.same {H H' : Hp} {p : Addr} {n : Nat} (b : Bx H p n) (e : Same H H') : Bx H' p n := by
  obtain ⟨x, y, z, h, r⟩ := b.ex
  exact ⟨x, y, z, e _ _ h, r⟩
theorem Bx.dp {K : PySem.W.Frag} {H H' : Hp} {p : Addr} {n : Nat} {v : V} {d : PyData} (b : Bx H p n) (c : Chg p H H') (h : Dp K H v d) (nl : noL d = true) : Dp K H' v d := by
  obtain ⟨l, e⟩ := b.at
  exact dp_chg c e d v nl h
theorem Bx.dps {K : PySem.W.Frag} {H H' : Hp} {p : Addr} {n : Nat} {vs : List V} {ds : List PyData} (b : Bx H p n) (c : Chg p H H') (h : DpAll K H vs ds) (nl : noLs ds = true) : DpAll K H' vs ds := by
  obtain ⟨l, e⟩ := b.at
  exact dps_chg c e ds vs nl h

/-! ### panes -/
structure PaneQ (q : Rat) : Prop where
  lo : -1 < q
  hi : q < 1
  sz : Sz 6 q
theorem pane_fr {t u : Int} (h1 : -u < t) (h2 : t < u) (h3 : u ≤ 60) : PaneQ (Rat.divInt t u) := by
  have hu : 0 < u := by omega
  have hq : (0 : Rat) < (u : Rat) := Rat.intCast_pos.mpr hu
  refine ⟨?_, ?_, sz_fr hu (by omega) (by omega)⟩
  · rw [Rat.divInt_eq_div, Rat.lt_div_iff hq]
    have e : (-1 : Rat) * (u : Rat) = ((-u : Int) : Rat) := by
      rw [Rat.intCast_neg]
      grind
    rw [e]
    exact Rat.intCast_lt_intCast.mpr h1
  · rw [Rat.divInt_eq_div, Rat.div_lt_iff hq, Rat.one_mul]
    exact Rat.intCast_lt_intCast.mpr h2
theorem fr_own {t u : Int} (h : 0 < u) (g : Int.gcd t u = 1) : (Rat.divInt t u).num = t ∧ ((Rat.divInt t u).den : Int) = u := by
  rw [fr_num h, fr_den h, g]
  simp
theorem gcd_one_less (u : Int) : Int.gcd (1 - u) u = 1 := by
  have e : (1 : Int) - u = 1 - u * 1 := by omega
  rw [e, Int.gcd_sub_mul_left_left, Int.gcd_one_left]
theorem pick3 {r : Int} (h0 : 0 ≤ r) (h1 : r < 3) : ∃ z : Int, atI [V.int 3, .int 8, .int 59] r = some (.int z) ∧ 0 < z ∧ z ≤ 59 := by
  have h : r = 0 ∨ r = 1 ∨ r = 2 := by omega
  rcases h with rfl | rfl | rfl
  · exact ⟨3, rfl, by decide, by decide⟩
  · exact ⟨8, rfl, by decide, by decide⟩
  · exact ⟨59, rfl, by decide, by decide⟩
theorem dp_fr_lit {K : PySem.W.Frag} {H : Hp} {a : Addr} {t u : Int} (hu : 0 < u) (g : Int.gcd t u = 1) (h : SqT K H a [.int t, .int u]) : Dp K H (.ref a) (frD (Rat.divInt t u)) := by
  obtain ⟨e1, e2⟩ := fr_own hu g
  refine dp_fr_mk ?_
  rw [e1, e2]
  exact h
/-- what a value tells: a pane -/
def IsPane (K : PySem.W.Frag) (H : Hp) (v : V) : Prop := ∃ q, PaneQ q ∧ Dp K H v (frD q)
theorem IsPane.same {K : PySem.W.Frag} {H H' : Hp} {v : V} (h : IsPane K H v) (e : Same H H') : IsPane K H' v := by
  obtain ⟨q, a, b⟩ := h
  exact ⟨q, a, dp_same e _ _ b⟩
theorem pane_lit {K : PySem.W.Frag} {H : Hp} {a : Addr} {t u : Int} (g : Int.gcd t u = 1) (h1 : -u < t) (h2 : t < u) (h3 : u ≤ 60) (h : SqT K H a [.int t, .int u]) : IsPane K H (.ref a) :=
  ⟨_, pane_fr h1 h2 h3, dp_fr_lit (by omega) g h⟩
theorem upd_new_ne {H : Hp} {p l : Addr} {o u : HO} (h : H p = some o) (n : H l = none) : (upd H l u) p = some o := by
  rw [upd_ne (ne_of_none h n)]
  exact h
/-- what is said of a list that is laid anew amid a comprehension's turns stays where a new item is put to it -/
theorem dps_put {K : PySem.W.Frag} {H : Hp} {D : Addr} {acc acc2 : List V} {vs : List V} {ds : List PyData} (h : H D = some (.lst acc)) (n : noLs ds = true) (d : DpAll K H vs ds) : DpAll K (upd H D (.lst acc2)) vs ds := dps_chg chg_upd h ds vs n d
theorem dp_put {K : PySem.W.Frag} {H : Hp} {D : Addr} {acc acc2 : List V} {v : V} {d : PyData} (h : H D = some (.lst acc)) (n : noL d = true) (x : Dp K H v d) : Dp K (upd H D (.lst acc2)) v d := dp_chg chg_upd h d v n x
theorem Bx.other {H : Hp} {p D : Addr} {n : Nat} {o : HO} (b : Bx H p n) (h : p ≠ D) : Bx (upd H D o) p n := by
  obtain ⟨x, y, z, e, r⟩ := b.ex
  exact ⟨x, y, z, by rw [upd_ne h]; exact e, r⟩
/-- a thing that was new is changed -/
theorem Chg.new_upd {p D : Addr} {H H1 : Hp} {o : HO} (c : Chg p H H1) (n : H D = none) : Chg p H (upd H1 D o) := fun b x nb e => by
  rw [upd_ne (ne_of_none e n)]
  exact c b x nb e
theorem Same.new_upd {D : Addr} {H H1 : Hp} {o : HO} (c : Same H H1) (n : H D = none) : Same H (upd H1 D o) := fun b x e => by
  rw [upd_ne (ne_of_none e n)]
  exact c b x e
theorem frs_app (a b : List Rat) : frs (a ++ b) = frs a ++ frs b := List.map_append
theorem dps_snoc {K : PySem.W.Frag} {H : Hp} {vs : List V} {qs : List Rat} {v : V} {q : Rat} (a : DpAll K H vs (frs qs)) (b : Dp K H v (frD q)) : DpAll K H (vs ++ [v]) (frs (qs ++ [q])) := by
  rw [frs_app]
  exact dps_app a (.cons b .nil)
theorem ty_tup {K : PySem.W.Frag} {H : Hp} {a : Addr} {xs : List V} (h : SqT K H a xs) : TyX K H (.ref a) (.type "tuple") := by
  rcases h with (h | ⟨o, h⟩) | ⟨o, its, n, h, c, _⟩
  · exact .base (.tup h)
  · exact .fTuple h
  · exact .kTuple h c
theorem ty_lst {K : PySem.W.Frag} {H : Hp} {a : Addr} {xs : List V} (h : SqL K H a xs) : TyX K H (.ref a) (.type "list") := by
  rcases h with (h | ⟨o, h⟩) | ⟨o, its, n, h, c, _⟩
  · exact .base (.lst h)
  · exact .base (.frz h)
  · exact .kList h c
theorem walk_zipT {K : PySem.W.Frag} {a b : Addr} {xs ys : List V} {n : Nat} (hn : n = min xs.length ys.length) : Walk (RZ.ItzT K a b) n (fun H => SqT K H a xs ∧ SqT K H b ys) (YPair (fun i => xs[i]?) (fun i => ys[i]?)) := by
  subst hn
  refine ⟨fun i _ hi q => ?_, fun _ q => ⟨xs, ys, q.1, q.2, by omega⟩, fun i H v H' _ q y => ?_⟩
  · have h1 : i < xs.length := by omega
    have h2 : i < ys.length := by omega
    exact ⟨xs, ys, xs[i], ys[i], q.1, q.2, by simp [h1], by simp [h2]⟩
  · obtain ⟨T, x, z, h1, h2, h3, h4, h5⟩ := y
    exact ⟨T, x, z, h1, h2, h3, h4 xs q.1, h5 ys q.2⟩
theorem PaneQ.z {q : Rat} (h : PaneQ q) : PaneZ 6 q := ⟨h.lo, h.hi, h.sz⟩
/-! ### calls by names alone -/
section
variable {X : Cx} {CX : CXT} {k : Nat} {f : Addr} {fd : FuncData} {ps ks : List Str} {sp : Sp} {E : XK} {x : Str} {p pos : Pos} {kws : List Keyword} {tk : TA} {g : List Value → List Value → List Value} {gV : List V → List V → List V}
theorem pe_callN0 (F : FnOk X.prog X.w X.K X.mg X.base CX k f fd ps sp) (hr : Room k X.A) (hg : Gl X x) (hm : X.mg x = some (.ref f)) (hk : PySem.W.keepIn X.K (.ref f) = true) (hb : KBn X.K fd ps 0 ks g gV) (hx : Passes CX X E)
    (hkw : PK X kws tk) (hall : (backToKw pos (keywordEach kws X.env)).all (·.1.isSome) = true := by rfl) (hks : (backToKw pos (keywordEach kws X.env)).filterMap (·.1) = ks := by rfl)
    (hdb : (x == ("__debug__" : Str)) = false := by decide)
    (hpl : ((backTo pos (starEach [] X.env)).any (·.1) || (backToKw pos (keywordEach kws X.env)).any (·.1.isNone)) = false := by rfl) :
    PE X (.Call (.Name x p) [] kws pos) (tCallN 0 ks.length sp gV E tNil tk) := by
  refine ⟨fun pins s σ H Q I h => ?_⟩
  refine wpAny_Call_Name_kw (ld_glob I hg hm ?_ hdb)
  refine PySem.W.callWith_KW0 (h₀ := X.base) I.ok.mod.kin hk hall (thn (hkw.run pos pins s σ H _ I h) fun ws s2 ⟨zs, H2, I2, rz, l1, l2, q2⟩ => ⟨I2.kIn, ?_⟩) hpl
  rw [hks]
  exact run_fnN F hr hb hx I2 .nil rz l1 l2 q2
end
section
variable {K : PySem.W.Frag} {f : Addr} {fd : FuncData} {ps : List Str}
/-- a def without defaults, some of its parameters handed in by their names -/
theorem Fun.kb {x qual : Str} {st : Stmt} (F : Fun K x qual st f fd) (n : Nat) (ks : List Str) (g : {α : Type} → List α → List α → List α)
    (hrel : ∀ {vs zs : List V} {us ws : List Value}, Vals vs us → Vals zs ws → Vals (g vs zs) (g us ws))
    (h : ∀ (kV doc pm : Value) (an : Option Addr) (cdv ct : Value) (us ws : List Value), us.length = n → ws.length = ks.length → bindArgs (PySem.W.fnOf x qual (defArgs st) (defBody st) (defScope st) .none kV doc pm an cdv ct) ⟨us, ks.zip ws⟩ = pure (ps.zip (g us ws))) :
    KBn K fd ps n ks (fun us ws => g us ws) (fun vs zs => g vs zs) := by
  obtain ⟨oc, od, kV, doc, pm, an, cdv, ct, osl, rfl, lk, hcd⟩ := F.ex
  exact ⟨fun s us ws _ l1 l2 => .of_eq (h kV doc pm an cdv ct us ws l1 l2), fun r1 r2 => hrel r1 r2⟩
/-- a def with keyword-only defaults alone; ms: those that lack -/
theorem FunD.kb {x qual : Str} {params : Arguments} {body : List Stmt} {scope : Scope} {kws : List (Str × V)} (F : FunD K x qual params body scope [] kws f fd) (n : Nat) (ks : List Str) (ms : List (Str × V)) (g : {α : Type} → List α → List α → List α → List α)
    (hk : kws ≠ []) (hms : ∀ q ∈ ms, q ∈ kws)
    (hrel : ∀ {vs mz zs : List V} {us mv ws : List Value}, Vals vs us → Vals mz mv → Vals zs ws → Vals (g vs mz zs) (g us mv ws))
    (h : ∀ (D : Addr) (doc pm : Value) (an : Option Addr) (cdv ct : Value) (us mv ws : List Value), us.length = n → mv.length = ms.length → ws.length = ks.length →
      KwChain D ((ms.map (·.1)).zip mv) (bindArgs (PySem.W.fnOf x qual params body scope .none (.ref D) doc pm an cdv ct) ⟨us, ks.zip ws⟩) (ps.zip (g us mv ws))) :
    ∃ mv : List Value, KBn K fd ps n ks (fun us ws => g us mv ws) (fun vs zs => g vs (ms.map (·.2)) zs) := by
  obtain ⟨oc, od, dV, kV, doc, pm, an, cdv, ct, osl, rfl, lk, hcd, hD, hK⟩ := F.ex
  rcases hD with ⟨_, rfl⟩ | ⟨e, _⟩
  · rcases hK with e | ⟨D, rfl, hq⟩
    · exact absurd e hk
    · obtain ⟨mv, hl, rk, hks⟩ := kwd_vals (ms := ms) fun q hm => hq q (hms q hm)
      refine ⟨mv, ⟨fun s us ws X l1 l2 => BindsTo.of_looks fun M => KwChain.looks X hks (h D doc pm an cdv ct us mv ws l1 hl l2), fun r1 r2 => hrel r1 rk r2⟩⟩
  · exact absurd rfl e
end
/-! ### a callee, in short -/
structure Cal (P : Program) (w : World) (K : PySem.W.Frag) (mg : Str → Option Value) (base : Heap) (k : Nat) (x : Str) (ps : List Str) (sp : Sp) (f : Addr) (fd : FuncData) : Prop where
  kp : PySem.W.keepIn K (.ref f) = true
  ok : FnOk P w K mg base CX0 k f fd ps sp
  bd : Binds K fd ps []
  at_ : mg x = some (.ref f)
theorem pe_c {X : Cx} {k : Nat} {x : Str} {ps : List Str} {sp : Sp} {f : Addr} {fd : FuncData} {p pos : Pos} {e : Expr} {es : List Expr} {t : TA} (c : Cal X.prog X.w X.K X.mg X.base k x ps sp f fd) (hr : Room k X.A) (hg : Gl X x) (ha : PA X (e :: es) t)
    (hdb : (x == ("__debug__" : Str)) = false := by decide) (he : starEach (e :: es) X.env = (false, eval e X.env) :: starEach es X.env := by rfl) (hpl : (backTo pos (starEach es X.env)).any (·.1) = false := by rfl) :
    PE X (.Call (.Name x p) (e :: es) [] pos) (tCall sp [] E0 t) := pe_call c.ok hr hg c.at_ c.kp c.bd .nil pass0 ha hdb he hpl
/-! ### a list of FRACTIONs -/
def Lq (K : PySem.W.Frag) (H : Hp) (L : Addr) (qs : List Rat) : Prop := ∃ us, H L = some (.lst us) ∧ DpAll K H us (frs qs)
section
variable {K : PySem.W.Frag} {H H' : Hp} {L p : Addr} {qs : List Rat}
theorem Lq.same (h : Lq K H L qs) (e : Same H H') : Lq K H' L qs := by
  obtain ⟨us, a, b⟩ := h
  exact ⟨us, e _ _ a, dps_same e _ _ b⟩
theorem Lq.chg {l : List V} (h : Lq K H L qs) (c : Chg p H H') (hp : H p = some (.lst l)) (n : L ≠ p) : Lq K H' L qs := by
  obtain ⟨us, a, b⟩ := h
  exact ⟨us, c _ _ n a, dps_chg c hp _ _ (noL_frs qs) b⟩
theorem Lq.dp (h : Lq K H L qs) : Dp K H (.ref L) (.list (frs qs)) := by
  obtain ⟨us, a, b⟩ := h
  exact .lst (SqL.of a) b
theorem Lq.ne (h : Lq K H L qs) {M : Addr} (n : H M = none) : L ≠ M := by
  obtain ⟨us, a, b⟩ := h
  exact ne_of_none a n
theorem Bx.lq {n : Nat} (b : Bx H p n) (c : Chg p H H') (h : Lq K H L qs) (ne : L ≠ p) : Lq K H' L qs := by
  obtain ⟨l, e⟩ := b.at
  exact h.chg c e ne
theorem Bx.ne {n : Nat} (b : Bx H p n) {M : Addr} (h : H M = none) : M ≠ p := by
  obtain ⟨l, e⟩ := b.at
  exact (ne_of_none e h).symm
end
/-! ### things laid anew -/
section
variable {K : PySem.W.Frag} {H : Hp} {a b : Addr}
theorem new_fr {t u : Int} (n : H a = none) (hu : 0 < u) (g : Int.gcd t u = 1) : Dp K (upd H a (.tup [.int t, .int u])) (.ref a) (frD (Rat.divInt t u)) := dp_fr_lit hu g (SqT.of upd_same)
theorem new_q {t u : Int} (n : H a = none) (q : Rat) (h1 : q.num = t) (h2 : (q.den : Int) = u) : Dp K (upd H a (.tup [.int t, .int u])) (.ref a) (frD q) := by
  subst h1 h2
  exact dp_fr_mk (SqT.of upd_same)
theorem new_row {xs : List V} {qs : List Rat} {w : Int} (n : H a = none) (hb : SqT K H b xs) (d : DpAll K H xs (frs qs)) : Dp K (upd H a (.tup [.ref b, .int w])) (.ref a) (rowD qs w) :=
  dp_row_mk (SqT.of upd_same) (Same.tup (same_upd n) hb) (dps_same (same_upd n) _ _ d)
theorem new_rowD {v : V} {qs : List Rat} {w : Int} (n : H a = none) (d : Dp K H v (.tuple (frs qs))) : Dp K (upd H a (.tup [v, .int w])) (.ref a) (rowD qs w) :=
  .tup (SqT.of upd_same) (.cons (dp_same (same_upd n) _ _ d) (.cons (.int w) .nil))
theorem new_tup {xs : List V} {ds : List PyData} (n : H a = none) (d : DpAll K H xs ds) : Dp K (upd H a (.tup xs)) (.ref a) (.tuple ds) := .tup (SqT.of upd_same) (dps_same (same_upd n) _ _ d)
theorem new_lst {xs : List V} {ds : List PyData} (n : H a = none) (d : DpAll K H xs ds) : Dp K (upd H a (.lst xs)) (.ref a) (.list ds) := .lst (SqL.of upd_same) (dps_same (same_upd n) _ _ d)
theorem same2 {o1 o2 : HO} (n1 : H a = none) (n2 : (upd H a o1) b = none) : Same H (upd (upd H a o1) b o2) := Same.trans (same_upd n1) (same_upd n2)
theorem same3 {c : Addr} {o1 o2 o3 : HO} (n1 : H a = none) (n2 : (upd H a o1) b = none) (n3 : (upd (upd H a o1) b o2) c = none) : Same H (upd (upd (upd H a o1) b o2) c o3) := Same.trans (same2 n1 n2) (same_upd n3)
theorem Same.new {H1 : Hp} {o : HO} (s : Same H H1) (n : H1 a = none) : Same H (upd H1 a o) := s.trans (same_upd n)
end
/-! ### == of FRACTIONs and ROWs -/
theorem eqv_fr (q r : Rat) : PyData.eqv (frD q) (frD r) = decide (q = r) := by
  have e : PyData.eqv (frD q) (frD r) = ((q.num == r.num) && ((q.den : Int) == (r.den : Int) && true)) := by
    unfold frD
    simp [PyData.eqv, PyData.eqvAll]
  rw [e, Bool.eq_iff_iff]
  simp only [Bool.and_true, Bool.and_eq_true, beq_iff_eq, decide_eq_true_eq]
  constructor
  · rintro ⟨h1, h2⟩
    exact Rat.ext h1 (by omega)
  · rintro rfl
    exact ⟨rfl, rfl⟩
theorem sh_fr (q : Rat) : SeqAt.shaped (frD q) = true := by
  unfold frD SeqAt.shaped
  simp [PyData.canLay0, PyData.canLayAll0, PyData.depth, PyData.depthAll]
theorem lay_frs : ∀ qs : List Rat, PyData.canLayAll0 (frs qs) = true
  | [] => by simp [frs, PyData.canLayAll0]
  | q :: qs => by
    have ih := lay_frs qs
    have e : frs (q :: qs) = frD q :: frs qs := rfl
    rw [e]
    simp only [PyData.canLayAll0, ih, Bool.and_true]
    simp [frD, PyData.canLay0, PyData.canLayAll0]
theorem dep_frs : ∀ qs : List Rat, PyData.depthAll (frs qs) ≤ 1
  | [] => by simp [frs, PyData.depthAll]
  | q :: qs => by
    have ih := dep_frs qs
    have e : frs (q :: qs) = frD q :: frs qs := rfl
    rw [e]
    simp only [PyData.depthAll]
    have e2 : (frD q).depth = 1 := by simp [frD, PyData.depth, PyData.depthAll]
    omega
theorem sh_frs (qs : List Rat) : SeqAt.shaped (.tuple (frs qs)) = true := by
  unfold SeqAt.shaped
  rw [Bool.and_eq_true]
  refine ⟨?_, decide_eq_true ?_⟩
  · simp only [PyData.canLay0]
    exact lay_frs qs
  · simp only [PyData.depth]
    have := dep_frs qs
    omega
theorem sh_row (qs : List Rat) (x : Int) : SeqAt.shaped (rowD qs x) = true := by
  unfold SeqAt.shaped rowD
  rw [Bool.and_eq_true]
  refine ⟨?_, decide_eq_true ?_⟩
  · simp only [PyData.canLay0, PyData.canLayAll0, lay_frs, Bool.and_true]
  · simp only [PyData.depth, PyData.depthAll]
    have := dep_frs qs
    omega
theorem eqv_self {d : PyData} (h : SeqAt.shaped d = true) : PyData.eqv d d = true := by
  unfold SeqAt.shaped at h
  rw [Bool.and_eq_true] at h
  exact SeqAt.eqv_refl d h.1
theorem walk_revT {K : PySem.W.Frag} {a : Addr} {xs : List V} : Walk (RT.ItvT K a xs.length) xs.length (fun H => SqT K H a xs) (fun i H x H' => H' = H ∧ xs[xs.length - 1 - i]? = some x) :=
  ⟨fun i H hi q => ⟨hi, xs, xs[xs.length - 1 - i]'(by omega), q, by simp [show xs.length - 1 - i < xs.length by omega]⟩, fun H q => Nat.le_refl _, fun i H x H' hi q y => ⟨y.1, y.2 xs q⟩⟩
/-! ### rules by data: tuples cut and joined, lists cut and joined -/
def cutG {α : Type} (xs : List α) (lo hi : Option Int) : List α := (xs.drop (HT.sIx xs.length 0 lo)).take (HT.sIx xs.length xs.length hi - HT.sIx xs.length 0 lo)
theorem dps_cut {K : PySem.W.Frag} {H : Hp} {xs : List V} {ds : List PyData} (lo hi : Option Int) (h : DpAll K H xs ds) : DpAll K H (cutV xs lo hi) (cutG ds lo hi) := by
  have e := dps_len h
  unfold cutV cutG
  rw [e]
  exact dps_take _ (dps_drop _ h)
theorem cutG_map {α β : Type} (f : α → β) (xs : List α) (lo hi : Option Int) : cutG (xs.map f) lo hi = (cutG xs lo hi).map f := by
  unfold cutG
  rw [List.length_map, List.map_take, List.map_drop]
theorem cut_frs (qs : List Rat) (lo hi : Option Int) : cutG (frs qs) lo hi = frs (cutG qs lo hi) := cutG_map frD qs lo hi
theorem cutG_to {α : Type} (xs : List α) (i : Nat) : cutG xs none (some (i : Int)) = xs.take i := by
  unfold cutG
  rw [HT.sIx_none, HT.sIx_nat, List.drop_zero, Nat.sub_zero]
  by_cases h : i ≤ xs.length
  · rw [Nat.min_eq_left h]
  · rw [Nat.min_eq_right (by omega), List.take_length, List.take_of_length_le (by omega)]
theorem cutG_from {α : Type} (xs : List α) (i : Nat) : cutG xs (some (i : Int)) none = xs.drop i := by
  unfold cutG
  rw [HT.sIx_none, HT.sIx_nat]
  by_cases h : i ≤ xs.length
  · rw [Nat.min_eq_left h]
    exact List.take_of_length_le (by rw [List.length_drop]; omega)
  · rw [Nat.min_eq_right (by omega), List.drop_of_length_le (Nat.le_refl _), List.drop_of_length_le (by omega), List.take_nil]
theorem cutG_amid {α : Type} (xs : List α) (i j : Nat) : cutG xs (some (i : Int)) (some (j : Int)) = (xs.drop i).take (j - i) := by
  unfold cutG
  rw [HT.sIx_nat, HT.sIx_nat]
  by_cases h : i ≤ xs.length
  · rw [Nat.min_eq_left h]
    by_cases h2 : j ≤ xs.length
    · rw [Nat.min_eq_left h2]
    · rw [Nat.min_eq_right (by omega), List.take_of_length_le (by rw [List.length_drop]; omega), List.take_of_length_le (by rw [List.length_drop]; omega)]
  · rw [List.drop_of_length_le (show xs.length ≤ min i xs.length by omega), List.drop_of_length_le (show xs.length ≤ i by omega), List.take_nil, List.take_nil]
theorem cutG_last {α : Type} (xs : List α) (x : α) : cutG (xs ++ [x]) none (some (-1)) = xs := by
  unfold cutG
  have e : HT.sIx (xs ++ [x]).length (xs ++ [x]).length (some (-1)) = xs.length := by
    show (if (-1 : Int) < 0 then ((-1 : Int) + ((xs ++ [x]).length : Int)).toNat else min (-1 : Int).toNat (xs ++ [x]).length) = xs.length
    rw [if_pos (by decide), List.length_append]
    simp
    omega
  rw [e, HT.sIx_none, List.drop_zero, Nat.sub_zero]
  simp
def rSlD (K : PySem.W.Frag) : V → Option Int → Option Int → Hp → VK → Prop := fun x lo hi H Q => ∃ ds, Dp K H x (.tuple ds) ∧ ∀ (v : V) (H' : Hp), Same H H' → Dp K H' v (.tuple (cutG ds lo hi)) → Q v H'
def rCatD (K : PySem.W.Frag) : R2 := fun x y H Q => ∃ d1 d2, Dp K H x (.tuple d1) ∧ Dp K H y (.tuple d2) ∧ d1.length + d2.length ≤ 1000 ∧ ∀ (v : V) (H' : Hp), Same H H' → Dp K H' v (.tuple (d1 ++ d2)) → Q v H'
section
variable {X : Cx}
theorem sl_tupD : SlR X (rSlD X.K) := fun pins s σ H x v vl vu lo hi sl Q I rx hs pl pu h => by
  obtain ⟨ds, d, q⟩ := h
  obtain ⟨a, xs, rfl, ha, hxs⟩ := dp_tup d
  refine sl_tupA pins s σ H _ v vl vu lo hi sl Q I rx hs pl pu ⟨a, xs, rfl, ha, fun hw => ?_, fun _ p np => ?_⟩
  · refine q _ _ (Same.refl H) (.tup ha ?_)
    have e : cutV xs lo hi = xs := by
      unfold cutV
      rw [hw.1, hw.2, List.drop_zero, Nat.sub_zero, List.take_length]
    have d2 := dps_cut lo hi hxs
    rw [e] at d2
    exact d2
  · exact q _ _ (same_upd np) (new_tup np (dps_cut lo hi hxs))
theorem op_catD : OpR X (binaryOp .Add) (rCatD X.K) := fun pins s σ H x y v u Q I rx ry h => by
  obtain ⟨d1, d2, e1, e2, hl, q⟩ := h
  obtain ⟨a, xs, rfl, ha, hxs⟩ := dp_tup e1
  obtain ⟨b, ys, rfl, hb, hys⟩ := dp_tup e2
  have l1 := dps_len hxs
  have l2 := dps_len hys
  refine op_catA pins s σ H _ _ v u Q I rx ry ⟨a, b, xs, ys, rfl, rfl, ha, hb, Nat.le_of_lt (Nat.lt_of_le_of_lt (by omega) (by decide : 1000 < sizeLine)), fun e => ?_, fun _ e => ?_, fun _ _ p np => ?_⟩
  · subst e
    cases hxs
    exact q _ _ (Same.refl H) e2
  · subst e
    cases hys
    rw [List.append_nil] at q
    exact q _ _ (Same.refl H) e1
  · exact q _ _ (same_upd np) (new_tup np (dps_app hxs hys))
end
theorem dps_erase {K : PySem.W.Frag} {H : Hp} : ∀ {xs : List V} {us : List PyData} (n : Nat), DpAll K H xs us → DpAll K H (xs.eraseIdx n) (us.eraseIdx n)
  | _, _, _, .nil => .nil
  | _, _, 0, .cons _ t => t
  | _, _, n + 1, .cons r t => .cons r (dps_erase n t)
theorem seqIx {i : Int} {n : Nat} (h0 : 0 ≤ i) (h1 : i < (n : Int)) : seqIndex? i n = some i.toNat := by
  unfold seqIndex?
  have e : (if i < 0 then i + (n : Int) else i) = i := if_neg (by omega)
  simp only [e]
  rw [if_pos (by simp [h0, h1])]
/-! ### lists of FRACTIONs cut, joined, turned about -/
def rSlLq (K : PySem.W.Frag) : V → Option Int → Option Int → Hp → VK → Prop := fun x lo hi H Q => ∃ L qs, x = .ref L ∧ Lq K H L qs ∧ ∀ (M : Addr) (H' : Hp), Same H H' → H M = none → Lq K H' M (cutG qs lo hi) → Q (.ref M) H'
def rCatLq (K : PySem.W.Frag) : R2 := fun x y H Q => ∃ L M q1 q2, x = .ref L ∧ y = .ref M ∧ Lq K H L q1 ∧ Lq K H M q2 ∧ q1.length + q2.length ≤ 1000 ∧ ∀ (N : Addr) (H' : Hp), Same H H' → H N = none → Lq K H' N (q1 ++ q2) → Q (.ref N) H'
theorem Lq.len {K : PySem.W.Frag} {H : Hp} {L : Addr} {qs : List Rat} (h : Lq K H L qs) : ∃ us, H L = some (.lst us) ∧ us.length = qs.length ∧ DpAll K H us (frs qs) := by
  obtain ⟨us, a, b⟩ := h
  exact ⟨us, a, by rw [dps_len b]; exact List.length_map .., b⟩
theorem Lq.new {K : PySem.W.Frag} {H : Hp} {M : Addr} {xs : List V} {qs : List Rat} (n : H M = none) (d : DpAll K H xs (frs qs)) : Lq K (upd H M (.lst xs)) M qs := ⟨xs, upd_same, dps_same (same_upd n) _ _ d⟩
theorem Lq.last {K : PySem.W.Frag} {H : Hp} {L : Addr} {ls : List Rat} {l : Rat} (h : Lq K H L (ls ++ [l])) : ∃ us u, H L = some (.lst (us ++ [u])) ∧ Dp K H u (frD l) := by
  obtain ⟨us, a, b⟩ := h
  rw [frs_app] at b
  have hl := dps_len b
  have e : us = us.take ls.length ++ us.drop ls.length := (List.take_append_drop _ _).symm
  have d2 := dps_drop ls.length b
  have e2 : (frs ls ++ frs [l]).drop ls.length = frs [l] := by
    have e3 : (frs ls).length = ls.length := List.length_map ..
    rw [← e3]
    exact List.drop_left
  rw [e2] at d2
  generalize us.drop ls.length = ds at *
  cases d2 with
  | cons x t =>
    cases t
    rw [e] at a
    exact ⟨_, _, a, x⟩
section
variable {X : Cx}
theorem sl_lq : SlR X (rSlLq X.K) := fun pins s σ H x v vl vu lo hi sl Q I rx hs pl pu h => by
  obtain ⟨L, qs, rfl, ⟨us, a, b⟩, q⟩ := h
  refine sl_list pins s σ H _ v vl vu lo hi sl Q I rx hs pl pu ⟨L, us, rfl, SqL.of a, fun p np => q p _ (same_upd np) np (Lq.new np ?_)⟩
  rw [← cut_frs]
  exact dps_cut lo hi b
theorem op_catLq : OpR X (binaryOp .Add) (rCatLq X.K) := fun pins s σ H x y v u Q I rx ry h => by
  obtain ⟨L, M, q1, q2, rfl, rfl, l1, l2, hl, q⟩ := h
  obtain ⟨us, a, ua, b⟩ := l1.len
  obtain ⟨us2, a2, ua2, b2⟩ := l2.len
  refine op_cat pins s σ H _ _ v u Q I rx ry ⟨L, M, us, us2, rfl, rfl, a, a2, Nat.le_of_lt (Nat.lt_of_le_of_lt (by omega) (by decide : 1000 < sizeLine)), fun p np => q p _ (same_upd np) np (Lq.new np ?_)⟩
  rw [frs_app]
  exact dps_app b b2
end
theorem cut_to_i {α : Type} {xs : List α} {i : Int} {n : Nat} (h : i = (n : Int)) : cutG xs none (some i) = xs.take n := by
  rw [h]
  exact cutG_to xs n
theorem cut_from_i {α : Type} {xs : List α} {i : Int} {n : Nat} (h : i = (n : Int)) : cutG xs (some i) none = xs.drop n := by
  rw [h]
  exact cutG_from xs n
theorem cut_amid_i {α : Type} {xs : List α} {i j : Int} {n m : Nat} (h : i = (n : Int)) (h2 : j = (m : Int)) : cutG xs (some i) (some j) = (xs.drop n).take (m - n) := by
  rw [h, h2]
  exact cutG_amid xs n m
end Ep
namespace Ep
open PySem PySem.Spec PyProof.Rows L2
/-! ### cells of the script, the box, a draw -/
def topS (i : Nat) : Stmt := PySem.Challenge.pw_echopanes_k04_whole_rooms_joined_and_tur.main.body.getD i (.Pass ⟨0, 0, 0, 0⟩)
abbrev sCell : Stmt := topS 19
abbrev sBox : Stmt := topS 20
abbrev sTake : Stmt := topS 21
abbrev sOf : Stmt := topS 22
theorem scCell : FnScope ["_law_script", "_law_k"] ["_law_script", "_law_k"] (defScope sCell) := ⟨rfl, rfl, rfl, by decide +kernel, rfl, by decide +kernel, by decide +kernel⟩
theorem scBox : FnScope ["_law_script", "_law_k", "_law_core"] ["_law_script", "_law_k"] (defScope sBox) := ⟨rfl, rfl, rfl, by decide +kernel, rfl, by decide +kernel, by decide +kernel⟩
theorem scTake : FnScope ["_law_box_here", "_law_size", "_law_found", "_law_once", "_law_twice"] ["_law_box_here", "_law_size"] (defScope sTake) := ⟨rfl, rfl, rfl, by decide +kernel, rfl, by decide +kernel, by decide +kernel⟩
theorem scOf : FnScope ["_law_box_here", "_law_some"] ["_law_box_here", "_law_some"] (defScope sOf) := ⟨rfl, rfl, rfl, by decide +kernel, rfl, by decide +kernel, by decide +kernel⟩
def spCell (K : PySem.W.Frag) : Sp := fun vs H Q _ => ∃ (a : Addr) (k : Int) (ns : List Int), vs = [.ref a, .int k] ∧ SqL K H a (ns.map V.int) ∧ 0 ≤ k ∧ ∀ c : Int, Q (.int c) H
def spBox (K : PySem.W.Frag) : Sp := fun vs H Q _ => ∃ (a : Addr) (k : Int) (ns : List Int), vs = [.ref a, .int k] ∧ SqL K H a (ns.map V.int) ∧ 0 ≤ k ∧ k ≤ 63 ∧ ∀ (p : Addr) (H' : Hp), H p = none → Same H H' → Bx H' p 0 → Q (.ref p) H'
def spTake : Sp := fun vs H Q _ => ∃ (p : Addr) (z : Int) (n : Nat), vs = [.ref p, .int z] ∧ Bx H p n ∧ n < 1000000 ∧ 0 < z ∧ z < 1000000 ∧
  ∀ (r : Int) (H' : Hp), 0 ≤ r → r < z → Chg p H H' → Bx H' p (n + 1) → Q (.int r) H'
def spOf (K : PySem.W.Frag) : Sp := fun vs H Q _ => ∃ (p l : Addr) (xs : List V) (n : Nat), vs = [.ref p, .ref l] ∧ Bx H p n ∧ n < 1000000 ∧ H l = some (.lst xs) ∧ l ≠ p ∧ xs ≠ [] ∧ xs.length < 1000 ∧
  ∀ (v : V) (H' : Hp), v ∈ xs → Chg p H H' → Bx H' p (n + 1) → Q v H'
section
variable {P : Program} {w : World} {K : PySem.W.Frag} {mg : Str → Option Value} {base : Heap}
theorem ok_cell {f : Addr} {fd : FuncData} {k : Nat} (F : Fun K "_law_cell_at" "_law_cell_at" sCell f fd) (ml : mg "len" = none) : FnOk P w K mg base CX0 (k + 1) f fd ["_law_script", "_law_k"] (spCell K) := by
  refine F.ok scCell (fun vs H Q E h => ?_) (fun cdv A outer s H vs Q E hr h => ?_)
  · obtain ⟨a, k, ns, rfl, _⟩ := h
    rfl
  · obtain ⟨a, k, ns, rfl, hS, hk, q⟩ := h
    refine ⟨_, pss_cons (ps_if (pt_cmpR op_lt (pv 1) (pe_callB call_len_seq (by rfl) ml PySem.boot_len (pa_cons (pv 0) pa_nil)) (nomark _)) (pss_one (ps_ret (pe_ix ix_list (pv 0) (pv 1) (fun _ _ => rfl)))) pss_nil) (pss_one (ps_ret pe_int)), ?_⟩
    refine ⟨.int k, rfl, .ref a, rfl, a, _, rfl, .inl hS, _, _, rfl, rfl, _, rfl, ite2 (fun e => ?_) (fun e => ?_)⟩
    · have e1 : k < ((ns.map V.int).length : Int) := of_decide_eq_true e
      rw [List.length_map] at e1
      have hlt : k.toNat < ns.length := by omega
      refine ⟨.ref a, rfl, .int k, rfl, a, _, _, .int ns[k.toNat], rfl, rfl, hS, ?_, q _⟩
      refine at_of (j := k.toNat) (by omega) ?_
      rw [List.getElem?_map, List.getElem?_eq_getElem hlt]
      rfl
    · exact q 0
theorem ok_box {f fC : Addr} {fd fdC : FuncData} {k : Nat} (F : Fun K "_law_box" "_law_box" sBox f fd) (FC : Fun K "_law_cell_at" "_law_cell_at" sCell fC fdC) (bC : Binds K fdC ["_law_script", "_law_k"] []) (gC : mg "_law_cell_at" = some (.ref fC))
    (ml : mg "len" = none) (ma : mg "abs" = none) (mi : mg "int" = none) : FnOk P w K mg base CX0 (k + 2) f fd ["_law_script", "_law_k"] (spBox K) := by
  have GC : FnOk P w K mg base CX0 (k + 1) fC fdC ["_law_script", "_law_k"] (spCell K) := ok_cell FC ml
  refine F.ok scBox (fun vs H Q E h => ?_) (fun cdv A outer s H vs Q E hr h => ?_)
  · obtain ⟨a, k, ns, rfl, _⟩ := h
    rfl
  · obtain ⟨a, k, ns, rfl, hS, hk, hk2, q⟩ := h
    refine ⟨_, pss_cons (ps_set (i := 2) scBox.nd rfl (.inl rfl) (pe_call GC hr (by rfl) gC FC.kp bC .nil pass0 (pa_cons (pv 0) (pa_cons (pv 1) pa_nil))))
      (pss_one (ps_ret (pe_lst (pa_cons (pe_op op_mul (pe_callB call_abs (by rfl) ma (by decide +kernel) (pa_cons (pv 2) pa_nil)) (pe_callTy call_int1 (by rfl) mi PyProof.Rows.boot_int (pa_cons (pe_cmpR op_ge (pe_callB call_abs (by rfl) ma (by decide +kernel) (pa_cons (pv 2) pa_nil)) (pe_op op_pow pe_int pe_int) (nomark _)) pa_nil)))
        (pa_cons (pe_op op_add (pe_op op_add (pe_op op_mod (pv 2) pe_int) (pe_op op_mul pe_int (pv 1))) pe_int) (pa_cons pe_int pa_nil)))))), ?_⟩
    refine ⟨.ref a, rfl, .int k, rfl, a, k, ns, rfl, hS, hk, fun c => ?_⟩
    refine ⟨.int c, rfl, c, rfl, .int c, rfl, c, rfl, 10, 18, rfl, rfl, ⟨by decide, by decide, by decide⟩, _, _, rfl, rfl, .inr ⟨_, rfl, _, _, rfl, rfl, .inr ?_, ?_⟩⟩
    · split <;> split <;> decide
    · refine ⟨.int c, rfl, _, _, rfl, rfl, (by decide : (0 : Int) < 2305843009213693951), .int k, rfl, _, _, rfl, rfl, .inl ⟨by decide, by decide⟩, _, _, rfl, rfl, _, _, rfl, rfl, (by decide : 3 ≤ sizeLine), fun p hp => ?_⟩
      refine q p _ hp (same_upd hp) ⟨_, _, _, upd_same, ?_, ?_, ?_, Int.le_refl _, Int.le_refl _⟩
      · split <;> split <;> omega
      · omega
      · omega
theorem ok_take {f : Addr} {fd : FuncData} {k : Nat} (F : Fun K "_law_take" "_law_take" sTake f fd) : FnOk P w K mg base CX0 (k + 1) f fd ["_law_box_here", "_law_size"] spTake := by
  refine F.ok scTake (fun vs H Q E h => ?_) (fun cdv A outer s H vs Q E hr h => ?_)
  · obtain ⟨p, z, n, rfl, _⟩ := h
    rfl
  · obtain ⟨p, z, n, rfl, hb, hn, hz, hz2, q⟩ := h
    obtain ⟨x, y, c, hp, hx, hy, hy2, hc, hcn⟩ := hb.ex
    refine ⟨_, pss_cons (ps_if (pt_cmpR op_gt (pe_ix ix_list (pv 0) pe_int (fun _ _ => rfl)) pe_int (nomark _))
        (pss_cons (ps_set (i := 2) scTake.nd rfl (.inl rfl) (pe_op op_mod (pe_ix ix_list (pv 0) pe_int (fun _ _ => rfl)) (pv 1)))
        (pss_cons (ps_asg (pe_op op_fdiv (pe_ix ix_list (pv 0) pe_int (fun _ _ => rfl)) (pv 1)) (pg_sub (pv 0) pe_int set_list))
        (pss_one (ps_ret (pv 2))))) pss_nil)
      (pss_cons (ps_asg (pe_op op_add (pe_ix ix_list (pv 0) pe_int (fun _ _ => rfl)) pe_int) (pg_sub (pv 0) pe_int set_list))
      (pss_cons (ps_set (i := 3) scTake.nd rfl (.inl rfl) (pe_op op_mod (pe_op op_mul (pe_op op_add (pe_ix ix_list (pv 0) pe_int (fun _ _ => rfl)) (pe_op op_mul pe_int (pe_ix ix_list (pv 0) pe_int (fun _ _ => rfl)))) (pe_op op_add pe_int (pe_ix ix_list (pv 0) pe_int (fun _ _ => rfl)))) pe_int))
      (pss_cons (ps_set (i := 4) scTake.nd rfl (.inl rfl) (pe_op op_mod (pe_op op_mul (pe_op op_add (pe_op op_add (pv 3) (pe_ix ix_list (pv 0) pe_int (fun _ _ => rfl))) (pe_op op_fdiv (pe_ix ix_list (pv 0) pe_int (fun _ _ => rfl)) pe_int)) (pe_op op_add (pe_op op_mod (pv 3) pe_int) pe_int)) pe_int))
      (pss_one (ps_ret (pe_op op_mod (pe_op op_fdiv (pe_op op_mod (pe_op op_add (pe_op op_mul (pv 4) pe_int) (pv 3)) pe_int) pe_int) (pv 1))))))), ?_⟩
    refine ⟨.ref p, rfl, p, _, 0, _, rfl, rfl, SqL.of hp, atI_nat (j := 0) rfl, _, _, rfl, rfl, _, rfl, ite2 (fun e => ?_) (fun e => ?_)⟩
    · -- the great number
      refine ⟨.ref p, rfl, p, _, 0, _, rfl, rfl, SqL.of hp, atI_nat (j := 0) rfl, .int z, rfl, _, _, rfl, rfl, hz, ?_⟩
      refine ⟨.ref p, rfl, p, _, 0, _, rfl, rfl, SqL.of hp, atI_nat (j := 0) rfl, .int z, rfl, _, _, rfl, rfl, ⟨hz, by omega⟩, ?_⟩
      refine ⟨.ref p, rfl, p, _, 0, 0, rfl, rfl, hp, rfl, ?_⟩
      refine ⟨_, rfl, q _ _ (Int.emod_nonneg _ (by omega)) (Int.emod_lt_of_pos _ hz) chg_upd ⟨_, _, _, upd_same, Int.ediv_nonneg hx (by omega), hy, hy2, hc, by omega⟩⟩
    · refine ⟨.ref p, rfl, p, _, 2, _, rfl, rfl, SqL.of hp, atI_nat (j := 2) rfl, _, _, rfl, rfl, .ref p, rfl, p, _, 2, 2, rfl, rfl, hp, rfl, ?_⟩
      have hp2 : (upd H p (.lst [.int x, .int y, .int (c + 1)])) p = some (.lst [.int x, .int y, .int (c + 1)]) := upd_same
      refine ⟨.ref p, rfl, p, _, 1, _, rfl, rfl, SqL.of hp2, atI_nat (j := 1) rfl, .ref p, rfl, p, _, 2, _, rfl, rfl, SqL.of hp2, atI_nat (j := 2) rfl, _, _, rfl, rfl, .inl ⟨by decide, by decide⟩, _, _, rfl, rfl,
        .ref p, rfl, p, _, 2, _, rfl, rfl, SqL.of hp2, atI_nat (j := 2) rfl, _, _, rfl, rfl, _, _, rfl, rfl, .inl ⟨by omega, by omega⟩, _, _, rfl, rfl, (by decide : (0 : Int) < 2147483647), ?_⟩
      generalize e1 : (y + 48271 * (c + 1)) * (39373 + (c + 1)) % 2147483647 = o
      have ho : 0 ≤ o ∧ o < 2147483647 := by omega
      refine ⟨_, rfl, .ref p, rfl, p, _, 2, _, rfl, rfl, SqL.of hp2, atI_nat (j := 2) rfl, _, _, rfl, rfl, .ref p, rfl, p, _, 1, _, rfl, rfl, SqL.of hp2, atI_nat (j := 1) rfl, _, _, rfl, rfl, ⟨by decide, by decide⟩, _, _, rfl, rfl,
        _, rfl, _, _, rfl, rfl, (by decide : (0 : Int) < 40009), _, _, rfl, rfl, _, _, rfl, rfl, .inl ⟨by omega, by omega⟩, _, _, rfl, rfl, (by decide : (0 : Int) < 2147483629), ?_⟩
      generalize e2 : (o + (c + 1) + y / 1000003) * (o % 40009 + 7) % 2147483629 = o2
      have ho2 : 0 ≤ o2 ∧ o2 < 2147483629 := by omega
      refine ⟨_, rfl, _, _, rfl, rfl, .inl ⟨by omega, by omega⟩, _, rfl, _, _, rfl, rfl, _, _, rfl, rfl, (by decide : (0 : Int) < 2147483587), _, _, rfl, rfl, ⟨by decide, by decide⟩, .int z, rfl, _, _, rfl, rfl, hz, ?_⟩
      exact q _ _ (Int.emod_nonneg _ (by omega)) (Int.emod_lt_of_pos _ hz) chg_upd ⟨_, _, _, hp2, hx, hy, hy2, by omega, by omega⟩
theorem ok_of {f fT : Addr} {fd fdT : FuncData} {k : Nat} (F : Fun K "_law_of" "_law_of" sOf f fd) (FT : Fun K "_law_take" "_law_take" sTake fT fdT) (bT : Binds K fdT ["_law_box_here", "_law_size"] []) (gT : mg "_law_take" = some (.ref fT))
    (ml : mg "len" = none) : FnOk P w K mg base CX0 (k + 2) f fd ["_law_box_here", "_law_some"] (spOf K) := by
  have GT : FnOk P w K mg base CX0 (k + 1) fT fdT ["_law_box_here", "_law_size"] spTake := ok_take FT
  refine F.ok scOf (fun vs H Q E h => ?_) (fun cdv A outer s H vs Q E hr h => ?_)
  · obtain ⟨p, l, xs, n, rfl, _⟩ := h
    rfl
  · obtain ⟨p, l, xs, n, rfl, hb, hn, hl, hlp, hne, hlen, q⟩ := h
    have hpos : 0 < xs.length := List.length_pos_iff.mpr hne
    refine ⟨_, pss_one (ps_ret (pe_ix ix_list (pv 1) (pe_call GT hr (by rfl) gT FT.kp bT .nil pass0 (pa_cons (pv 0) (pa_cons (pe_callB call_len_seq (by rfl) ml PySem.boot_len (pa_cons (pv 1) pa_nil)) pa_nil))) (fun _ _ => rfl))), ?_⟩
    refine ⟨.ref l, rfl, .ref p, rfl, .ref l, rfl, l, _, rfl, .inl (SqL.of hl), p, _, n, rfl, hb, hn, by omega, by omega, fun r H' h0 h1 c b => ?_⟩
    have hlt : r.toNat < xs.length := by omega
    refine ⟨l, _, _, xs[r.toNat], rfl, rfl, SqL.of (c _ _ hlp hl), at_of (j := r.toNat) (by omega) (List.getElem?_eq_getElem hlt), q _ _ (List.getElem_mem hlt) c b⟩
end
/-! ### FRACTIONs by the program and by the law's own sums -/
abbrev sFrac : Stmt := topS 24
theorem scFrac : FnScope ["_law_top", "_law_under", "_law_big", "_law_small", "_law_sign"] ["_law_top", "_law_under"] (defScope sFrac) := ⟨rfl, rfl, rfl, by decide +kernel, rfl, by decide +kernel, by decide +kernel⟩
/-- a FRACTION of two whole numbers is told, as a new pair -/
def spFrac (K : PySem.W.Frag) : Sp := fun vs H Q _ => ∃ (t u : Int) (b : Nat), vs = [.int t, .int u] ∧ 0 < u ∧ t.natAbs < 2 ^ b ∧ u.natAbs < 2 ^ b ∧ 0 < b ∧ b ≤ 9000 ∧
  ∀ (v : V) (H' : Hp), Same H H' → Dp K H' v (frD (Rat.divInt t u)) → Q v H'
section
variable {P : Program} {w : World} {K : PySem.W.Frag} {mg : Str → Option Value} {base : Heap}
theorem abs_gcd (a b : Int) : Int.gcd (if a < 0 then -a else a) (if b < 0 then -b else b) = Int.gcd a b := by
  unfold Int.gcd
  congr 1 <;> split <;> omega
theorem g_le {t u : Int} {b : Nat} (hu : 0 < u) (h : u.natAbs < 2 ^ b) : (Int.gcd t u : Int).natAbs < 2 ^ b := by
  have : Int.gcd t u ≤ u.natAbs := Int.gcd_le_natAbs_right t (by omega)
  omega
theorem ok_frac {f : Addr} {fd : FuncData} {k : Nat} (F : Fun K "_law_frac" "_law_frac" sFrac f fd) (ma : mg "abs" = none) : FnOk P w K mg base CX0 (k + 1) f fd ["_law_top", "_law_under"] (spFrac K) := by
  refine F.ok scFrac (fun vs H Q E h => ?_) (fun cdv A outer s H vs Q E hr h => ?_)
  · obtain ⟨t, u, b, rfl, _⟩ := h
    rfl
  · obtain ⟨t, u, b, rfl, hu, ht, hub, hb0, hb9, q⟩ := h
    refine ⟨_, pss_cons (ps_par (by rfl) scFrac.nd (i := 2) (j := 3) rfl rfl (by decide) rfl rfl (pa_cons (pe_callB call_abs (by rfl) ma (by decide +kernel) (pa_cons (pv 0) pa_nil)) (pa_cons (pe_callB call_abs (by rfl) ma (by decide +kernel) (pa_cons (pv 1) pa_nil)) pa_nil)) (by rfl))
      (pss_cons (ps_while PassesOwn.never (pt_cmpR op_gt (pv 3) pe_int (nomark _)) (pss_one (ps_par (by rfl) scFrac.nd (i := 2) (j := 3) rfl rfl (by decide) rfl rfl (pa_cons (pv 3) (pa_cons (pe_op op_mod (pv 2) (pv 3)) pa_nil)) (by rfl))))
      (pss_cons (ps_set (i := 4) scFrac.nd rfl (.inl rfl) (pe_ifExp (pt_cmpR op_gt (pv 1) pe_int (nomark _)) pe_int (pe_un un_neg pe_int)))
      (pss_one (ps_ret (pe_tup (pa_cons (pe_op op_fdivW (pe_op op_mul (pv 4) (pv 0)) (pv 2)) (pa_cons (pe_op op_fdivW (pe_callB call_abs (by rfl) ma (by decide +kernel) (pa_cons (pv 1) pa_nil)) (pv 2)) pa_nil))))))), ?_⟩
    refine ⟨.int t, rfl, t, rfl, .int u, rfl, u, rfl, _, _, rfl, ?_⟩
    refine ⟨fun m σ H1 => ∃ x y : Int, σ = [some (.int t), some (.int u), some (.int x), some (.int y), none] ∧ 0 ≤ x ∧ 0 ≤ y ∧ Int.gcd x y = Int.gcd t u ∧ H1 = H ∧ m = y.toNat,
      ⟨_, _, _, rfl, ?_, ?_, abs_gcd t u, rfl, rfl⟩, ?_⟩
    · split <;> omega
    · split <;> omega
    · rintro m σ H1 ⟨x, y, rfl, hx, hy, hg, rfl, rfl⟩
      refine ⟨.int y, rfl, _, _, rfl, rfl, _, rfl, ite2 (fun e => ?_) (fun e => ?_)⟩
      · have e1 : 0 < y := of_decide_eq_true e
        have m1 := Int.emod_nonneg x (show y ≠ 0 by omega)
        have m2 := Int.emod_lt_of_pos x e1
        refine ⟨fun σ' H' => ∃ x' y' : Int, σ' = [some (.int t), some (.int u), some (.int x'), some (.int y'), none] ∧ 0 ≤ x' ∧ 0 ≤ y' ∧ Int.gcd x' y' = Int.gcd t u ∧ H' = H1 ∧ y' < y, fun σ' H' hN => ?_, ?_⟩
        · obtain ⟨x', y', e2, h1, h2, h3, h4, h5⟩ := hN
          exact ⟨y'.toNat, by omega, x', y', e2, h1, h2, h3, h4, rfl⟩
        · refine ⟨.int y, rfl, .int x, rfl, .int y, rfl, _, _, rfl, rfl, e1, _, _, rfl, y, x % y, rfl, hy, m1, ?_, rfl, m2⟩
          rw [gcd_emod x y (by omega)]
          exact hg
      · have e1 : ¬ 0 < y := fun z => e (decide_eq_true z)
        have y0 : y = 0 := by omega
        subst y0
        have ex : x = (Int.gcd t u : Int) := by
          rw [← hg, Int.gcd_zero_right]
          omega
        subst ex
        have hgp := gcd_pos (t := t) hu
        have hg1 := g_le (t := t) hu hub
        refine ⟨.int u, rfl, _, _, rfl, rfl, _, rfl, ite2 (fun _ => ?_) (fun z => absurd (decide_eq_true hu) z)⟩
        refine ⟨_, rfl, .int t, rfl, _, _, rfl, rfl, .inl ⟨by decide, by decide⟩, _, rfl, _, _, rfl, rfl, wide_div (by omega) hg1 hb0 hb9, .int u, rfl, u, rfl, _, rfl, _, _, rfl, rfl, wide_div (by omega) hg1 hb0 hb9, (by decide : 2 ≤ sizeLine), fun p hp => ?_⟩
        refine q _ _ (same_upd hp) (dp_fr_mk (SqT.of ?_))
        rw [upd_same, if_neg (by omega), fr_num hu, fr_den hu, Int.one_mul]
end
abbrev sCommon : Stmt := topS 3
abbrev sFraction : Stmt := topS 4
theorem scCommon : FnScope ["one", "other"] ["one", "other"] (defScope sCommon) := ⟨rfl, rfl, rfl, by decide +kernel, rfl, by decide +kernel, by decide +kernel⟩
theorem scFraction : FnScope ["top", "bottom", "part"] ["top", "bottom"] (defScope sFraction) := ⟨rfl, rfl, rfl, by decide +kernel, rfl, by decide +kernel, by decide +kernel⟩
def spCommon : Sp := fun vs H Q _ => ∃ (t u : Int), vs = [.int t, .int u] ∧ Q (.int (Int.gcd t u : Int)) H
/-- of two FRACTIONs a third one, as a new pair: r says which, C what is asked, z how many bits it has -/
def spTwo (K : PySem.W.Frag) (r : Rat → Rat → Rat) (C : Rat → Prop) : Sp := fun vs H Q _ => ∃ (x y : V) (q1 q2 : Rat) (a b : Nat), vs = [x, y] ∧ Dp K H x (frD q1) ∧ Dp K H y (frD q2) ∧ Sz a q1 ∧ Sz b q2 ∧ a + b < 9000 ∧ C q2 ∧
  ∀ (v : V) (H' : Hp), Same H H' → Dp K H' v (frD (r q1 q2)) → Q v H'
section
variable {P : Program} {w : World} {K : PySem.W.Frag} {mg : Str → Option Value} {base : Heap}
theorem fmod_small (x : Int) {y : Int} (h : y ≠ 0) : (x.fmod y).natAbs < y.natAbs := by
  rw [Int.fmod_eq_emod]
  have a1 := Int.emod_nonneg x h
  have a2 := Int.emod_lt x h
  split
  · omega
  · rename_i z
    have z2 : ¬ y ∣ x := fun w => z (Or.inr w)
    have z3 : x % y ≠ 0 := fun w => z2 (Int.dvd_of_emod_eq_zero w)
    omega
theorem ok_common {f : Addr} {fd : FuncData} {k : Nat} (F : Fun K "common_part" "common_part" sCommon f fd) (ma : mg "abs" = none) : FnOk P w K mg base CX0 (k + 1) f fd ["one", "other"] spCommon := by
  refine F.ok scCommon (fun vs H Q E h => ?_) (fun cdv A outer s H vs Q E hr h => ?_)
  · obtain ⟨t, u, rfl, _⟩ := h
    rfl
  · obtain ⟨t, u, rfl, q⟩ := h
    refine ⟨_, pss_cons (ps_while PassesOwn.never (pt_truth (pv 1) (by intro _; rfl)) (pss_one (ps_par (by rfl) scCommon.nd (i := 0) (j := 1) rfl rfl (by decide) rfl rfl (pa_cons (pv 1) (pa_cons (pe_op op_modN (pv 0) (pv 1)) pa_nil)) (by rfl))))
      (pss_one (ps_ret (pe_callB call_abs (by rfl) ma (by decide +kernel) (pa_cons (pv 0) pa_nil)))), ?_⟩
    refine ⟨fun m σ H1 => ∃ x y : Int, σ = [some (.int x), some (.int y)] ∧ Int.gcd x y = Int.gcd t u ∧ H1 = H ∧ m = y.natAbs, ⟨_, t, u, rfl, rfl, rfl, rfl⟩, ?_⟩
    rintro m σ H1 ⟨x, y, rfl, hg, rfl, rfl⟩
    refine ⟨.int y, rfl, _, rfl, ite2 (fun e => ?_) (fun e => ?_)⟩
    · have y0 : y ≠ 0 := by simpa using e
      refine ⟨fun σ' H' => ∃ x' y' : Int, σ' = [some (.int x'), some (.int y')] ∧ Int.gcd x' y' = Int.gcd t u ∧ H' = H1 ∧ y'.natAbs < y.natAbs, fun σ' H' hN => ?_, ?_⟩
      · obtain ⟨x', y', e2, h1, h2, h3⟩ := hN
        exact ⟨_, h3, x', y', e2, h1, h2, rfl⟩
      · refine ⟨.int y, rfl, .int x, rfl, .int y, rfl, _, _, rfl, rfl, y0, _, _, rfl, y, x.fmod y, rfl, ?_, rfl, ?_⟩
        · rw [gcd_fmod x y y0]
          exact hg
        · exact fmod_small x y0
    · have y0 : y = 0 := by simpa using e
      subst y0
      refine ⟨.int x, rfl, x, rfl, ?_⟩
      have ex : (if x < 0 then -x else x) = (Int.gcd t u : Int) := by
        rw [← hg, Int.gcd_zero_right]
        split <;> omega
      rw [ex]
      exact q
theorem ok_fraction {f fC : Addr} {fd fdC : FuncData} {k : Nat} (F : Fun K "fraction" "fraction" sFraction f fd) (FC : Fun K "common_part" "common_part" sCommon fC fdC) (bC : Binds K fdC ["one", "other"] []) (gC : mg "common_part" = some (.ref fC))
    (ma : mg "abs" = none) : FnOk P w K mg base CX0 (k + 2) f fd ["top", "bottom"] (spFrac K) := by
  have GC : FnOk P w K mg base CX0 (k + 1) fC fdC ["one", "other"] spCommon := ok_common FC ma
  refine F.ok scFraction (fun vs H Q E h => ?_) (fun cdv A outer s H vs Q E hr h => ?_)
  · obtain ⟨t, u, b, rfl, _⟩ := h
    rfl
  · obtain ⟨t, u, b, rfl, hu, ht, hub, hb0, hb9, q⟩ := h
    refine ⟨_, pss_cons (ps_set (i := 2) scFraction.nd rfl (.inl rfl) (pe_call GC hr (by rfl) gC FC.kp bC .nil pass0 (pa_cons (pv 0) (pa_cons (pv 1) pa_nil))))
      (pss_cons (ps_if (pt_cmpR op_lt (pv 1) pe_int (nomark _)) (pss_one (ps_set (i := 2) scFraction.nd rfl (.inl rfl) (pe_un un_neg (pv 2)))) pss_nil)
      (pss_one (ps_ret (pe_tup (pa_cons (pe_op op_fdivW (pv 0) (pv 2)) (pa_cons (pe_op op_fdivW (pv 1) (pv 2)) pa_nil)))))), ?_⟩
    have hgp := gcd_pos (t := t) hu
    have hg1 := g_le (t := t) hu hub
    refine ⟨.int t, rfl, .int u, rfl, t, u, rfl, .int u, rfl, _, _, rfl, rfl, _, rfl, ite2 (fun e => ?_) (fun e => ?_)⟩
    · have e1 : u < 0 := of_decide_eq_true e
      omega
    · refine ⟨.int t, rfl, _, rfl, _, _, rfl, rfl, wide_div (by omega) hg1 hb0 hb9, .int u, rfl, _, rfl, _, _, rfl, rfl, wide_div (by omega) hg1 hb0 hb9, (by decide : 2 ≤ sizeLine), fun p hp => ?_⟩
      refine q _ _ (same_upd hp) (dp_fr_mk (SqT.of ?_))
      rw [upd_same, fr_num hu, fr_den hu]
end
section
variable {P : Program} {w : World} {K : PySem.W.Frag} {mg : Str → Option Value} {base : Heap}
abbrev s_plus : Stmt := topS 5
theorem sc_plus : FnScope ["one", "other"] ["one", "other"] (defScope s_plus) := ⟨rfl, rfl, rfl, by decide +kernel, rfl, by decide +kernel, by decide +kernel⟩
theorem ok_plus {f fC : Addr} {fd fdC : FuncData} {k : Nat} (F : Fun K "plus" "plus" s_plus f fd) (kp : PySem.W.keepIn K (.ref fC) = true) (G : FnOk P w K mg base CX0 k fC fdC ["top", "bottom"] (spFrac K)) (bC : Binds K fdC ["top", "bottom"] []) (gC : mg "fraction" = some (.ref fC)) :
    FnOk P w K mg base CX0 (k + 1) f fd ["one", "other"] (spTwo K (fun q1 q2 => q1 + q2) (fun r => True)) := by
  refine F.ok sc_plus (fun vs H Q E h => ?_) (fun cdv A outer s H vs Q E hr h => ?_)
  · obtain ⟨x, y, q1, q2, a, b, rfl, _⟩ := h
    rfl
  · obtain ⟨x, y, q1, q2, a, b, rfl, hx, hy, z1, z2, hz, hc, q⟩ := h
    obtain ⟨p1, rfl, h1⟩ := dp_fr hx
    obtain ⟨p2, rfl, h2⟩ := dp_fr hy
    refine ⟨_, pss_one (ps_ret (pe_call G hr (by rfl) gC kp bC .nil pass0 (pa_cons (pe_op op_add (pe_op op_mulW (pe_ix ix_tup (pv 0) pe_int (fun _ _ => rfl)) (pe_ix ix_tup (pv 1) pe_int (fun _ _ => rfl))) (pe_op op_mulW (pe_ix ix_tup (pv 1) pe_int (fun _ _ => rfl)) (pe_ix ix_tup (pv 0) pe_int (fun _ _ => rfl)))) (pa_cons (pe_op op_mulW (pe_ix ix_tup (pv 0) pe_int (fun _ _ => rfl)) (pe_ix ix_tup (pv 1) pe_int (fun _ _ => rfl))) pa_nil)))), ?_⟩
    refine ⟨.ref p1, rfl, p1, _, 0, _, rfl, rfl, h1, atI_nat (j := 0) rfl, .ref p2, rfl, p2, _, 1, _, rfl, rfl, h2, atI_nat (j := 1) rfl, _, _, rfl, rfl, wide_mul (up_lt z1.1 (Nat.le_add_right a 1)) (up_lt z2.den (Nat.le_add_right b 1)) (by omega) (by omega) (by omega), .ref p2, rfl, p2, _, 0, _, rfl, rfl, h2, atI_nat (j := 0) rfl, .ref p1, rfl, p1, _, 1, _, rfl, rfl, h1, atI_nat (j := 1) rfl, _, _, rfl, rfl, wide_mul (up_lt z2.1 (Nat.le_add_right b 1)) (up_lt z1.den (Nat.le_add_right a 1)) (by omega) (by omega) (by omega), _, _, rfl, rfl, .ref p1, rfl, p1, _, 1, _, rfl, rfl, h1, atI_nat (j := 1) rfl, .ref p2, rfl, p2, _, 1, _, rfl, rfl, h2, atI_nat (j := 1) rfl, _, _, rfl, rfl, wide_mul (up_lt z1.den (Nat.le_add_right a 1)) (up_lt z2.den (Nat.le_add_right b 1)) (by omega) (by omega) (by omega), _, _, a + b + 1, rfl, dd_pos q1 q2, up_lt (sz_add_t z1 z2) (Nat.le_refl _), up_lt (sz_dd z1 z2) (by omega), by omega, by omega, fun v H' sm d => q v H' sm ?_⟩
    rw [q_add] at d
    exact d
abbrev s_minus : Stmt := topS 6
theorem sc_minus : FnScope ["one", "other"] ["one", "other"] (defScope s_minus) := ⟨rfl, rfl, rfl, by decide +kernel, rfl, by decide +kernel, by decide +kernel⟩
theorem ok_minus {f fC : Addr} {fd fdC : FuncData} {k : Nat} (F : Fun K "minus" "minus" s_minus f fd) (kp : PySem.W.keepIn K (.ref fC) = true) (G : FnOk P w K mg base CX0 k fC fdC ["top", "bottom"] (spFrac K)) (bC : Binds K fdC ["top", "bottom"] []) (gC : mg "fraction" = some (.ref fC)) :
    FnOk P w K mg base CX0 (k + 1) f fd ["one", "other"] (spTwo K (fun q1 q2 => q1 - q2) (fun r => True)) := by
  refine F.ok sc_minus (fun vs H Q E h => ?_) (fun cdv A outer s H vs Q E hr h => ?_)
  · obtain ⟨x, y, q1, q2, a, b, rfl, _⟩ := h
    rfl
  · obtain ⟨x, y, q1, q2, a, b, rfl, hx, hy, z1, z2, hz, hc, q⟩ := h
    obtain ⟨p1, rfl, h1⟩ := dp_fr hx
    obtain ⟨p2, rfl, h2⟩ := dp_fr hy
    refine ⟨_, pss_one (ps_ret (pe_call G hr (by rfl) gC kp bC .nil pass0 (pa_cons (pe_op op_sub (pe_op op_mulW (pe_ix ix_tup (pv 0) pe_int (fun _ _ => rfl)) (pe_ix ix_tup (pv 1) pe_int (fun _ _ => rfl))) (pe_op op_mulW (pe_ix ix_tup (pv 1) pe_int (fun _ _ => rfl)) (pe_ix ix_tup (pv 0) pe_int (fun _ _ => rfl)))) (pa_cons (pe_op op_mulW (pe_ix ix_tup (pv 0) pe_int (fun _ _ => rfl)) (pe_ix ix_tup (pv 1) pe_int (fun _ _ => rfl))) pa_nil)))), ?_⟩
    refine ⟨.ref p1, rfl, p1, _, 0, _, rfl, rfl, h1, atI_nat (j := 0) rfl, .ref p2, rfl, p2, _, 1, _, rfl, rfl, h2, atI_nat (j := 1) rfl, _, _, rfl, rfl, wide_mul (up_lt z1.1 (Nat.le_add_right a 1)) (up_lt z2.den (Nat.le_add_right b 1)) (by omega) (by omega) (by omega), .ref p2, rfl, p2, _, 0, _, rfl, rfl, h2, atI_nat (j := 0) rfl, .ref p1, rfl, p1, _, 1, _, rfl, rfl, h1, atI_nat (j := 1) rfl, _, _, rfl, rfl, wide_mul (up_lt z2.1 (Nat.le_add_right b 1)) (up_lt z1.den (Nat.le_add_right a 1)) (by omega) (by omega) (by omega), _, _, rfl, rfl, .ref p1, rfl, p1, _, 1, _, rfl, rfl, h1, atI_nat (j := 1) rfl, .ref p2, rfl, p2, _, 1, _, rfl, rfl, h2, atI_nat (j := 1) rfl, _, _, rfl, rfl, wide_mul (up_lt z1.den (Nat.le_add_right a 1)) (up_lt z2.den (Nat.le_add_right b 1)) (by omega) (by omega) (by omega), _, _, a + b + 1, rfl, dd_pos q1 q2, up_lt (sz_sub_t z1 z2) (Nat.le_refl _), up_lt (sz_dd z1 z2) (by omega), by omega, by omega, fun v H' sm d => q v H' sm ?_⟩
    rw [q_sub] at d
    exact d
abbrev s_times : Stmt := topS 7
theorem sc_times : FnScope ["one", "other"] ["one", "other"] (defScope s_times) := ⟨rfl, rfl, rfl, by decide +kernel, rfl, by decide +kernel, by decide +kernel⟩
theorem ok_times {f fC : Addr} {fd fdC : FuncData} {k : Nat} (F : Fun K "times" "times" s_times f fd) (kp : PySem.W.keepIn K (.ref fC) = true) (G : FnOk P w K mg base CX0 k fC fdC ["top", "bottom"] (spFrac K)) (bC : Binds K fdC ["top", "bottom"] []) (gC : mg "fraction" = some (.ref fC)) :
    FnOk P w K mg base CX0 (k + 1) f fd ["one", "other"] (spTwo K (fun q1 q2 => q1 * q2) (fun r => True)) := by
  refine F.ok sc_times (fun vs H Q E h => ?_) (fun cdv A outer s H vs Q E hr h => ?_)
  · obtain ⟨x, y, q1, q2, a, b, rfl, _⟩ := h
    rfl
  · obtain ⟨x, y, q1, q2, a, b, rfl, hx, hy, z1, z2, hz, hc, q⟩ := h
    obtain ⟨p1, rfl, h1⟩ := dp_fr hx
    obtain ⟨p2, rfl, h2⟩ := dp_fr hy
    refine ⟨_, pss_one (ps_ret (pe_call G hr (by rfl) gC kp bC .nil pass0 (pa_cons (pe_op op_mulW (pe_ix ix_tup (pv 0) pe_int (fun _ _ => rfl)) (pe_ix ix_tup (pv 1) pe_int (fun _ _ => rfl))) (pa_cons (pe_op op_mulW (pe_ix ix_tup (pv 0) pe_int (fun _ _ => rfl)) (pe_ix ix_tup (pv 1) pe_int (fun _ _ => rfl))) pa_nil)))), ?_⟩
    refine ⟨.ref p1, rfl, p1, _, 0, _, rfl, rfl, h1, atI_nat (j := 0) rfl, .ref p2, rfl, p2, _, 0, _, rfl, rfl, h2, atI_nat (j := 0) rfl, _, _, rfl, rfl, wide_mul (up_lt z1.1 (Nat.le_add_right a 1)) (up_lt z2.1 (Nat.le_add_right b 1)) (by omega) (by omega) (by omega), .ref p1, rfl, p1, _, 1, _, rfl, rfl, h1, atI_nat (j := 1) rfl, .ref p2, rfl, p2, _, 1, _, rfl, rfl, h2, atI_nat (j := 1) rfl, _, _, rfl, rfl, wide_mul (up_lt z1.den (Nat.le_add_right a 1)) (up_lt z2.den (Nat.le_add_right b 1)) (by omega) (by omega) (by omega), _, _, a + b + 1, rfl, dd_pos q1 q2, up_lt (m_lt z1.1 z2.1) (by omega), up_lt (sz_dd z1 z2) (by omega), by omega, by omega, fun v H' sm d => q v H' sm ?_⟩
    rw [q_mul] at d
    exact d
abbrev s_over : Stmt := topS 8
theorem sc_over : FnScope ["one", "other"] ["one", "other"] (defScope s_over) := ⟨rfl, rfl, rfl, by decide +kernel, rfl, by decide +kernel, by decide +kernel⟩
theorem ok_over {f fC : Addr} {fd fdC : FuncData} {k : Nat} (F : Fun K "over" "over" s_over f fd) (kp : PySem.W.keepIn K (.ref fC) = true) (G : FnOk P w K mg base CX0 k fC fdC ["top", "bottom"] (spFrac K)) (bC : Binds K fdC ["top", "bottom"] []) (gC : mg "fraction" = some (.ref fC)) :
    FnOk P w K mg base CX0 (k + 1) f fd ["one", "other"] (spTwo K (fun q1 q2 => q1 / q2) (fun r => 0 < r)) := by
  refine F.ok sc_over (fun vs H Q E h => ?_) (fun cdv A outer s H vs Q E hr h => ?_)
  · obtain ⟨x, y, q1, q2, a, b, rfl, _⟩ := h
    rfl
  · obtain ⟨x, y, q1, q2, a, b, rfl, hx, hy, z1, z2, hz, hc, q⟩ := h
    obtain ⟨p1, rfl, h1⟩ := dp_fr hx
    obtain ⟨p2, rfl, h2⟩ := dp_fr hy
    refine ⟨_, pss_one (ps_ret (pe_call G hr (by rfl) gC kp bC .nil pass0 (pa_cons (pe_op op_mulW (pe_ix ix_tup (pv 0) pe_int (fun _ _ => rfl)) (pe_ix ix_tup (pv 1) pe_int (fun _ _ => rfl))) (pa_cons (pe_op op_mulW (pe_ix ix_tup (pv 0) pe_int (fun _ _ => rfl)) (pe_ix ix_tup (pv 1) pe_int (fun _ _ => rfl))) pa_nil)))), ?_⟩
    refine ⟨.ref p1, rfl, p1, _, 0, _, rfl, rfl, h1, atI_nat (j := 0) rfl, .ref p2, rfl, p2, _, 1, _, rfl, rfl, h2, atI_nat (j := 1) rfl, _, _, rfl, rfl, wide_mul (up_lt z1.1 (Nat.le_add_right a 1)) (up_lt z2.den (Nat.le_add_right b 1)) (by omega) (by omega) (by omega), .ref p1, rfl, p1, _, 1, _, rfl, rfl, h1, atI_nat (j := 1) rfl, .ref p2, rfl, p2, _, 0, _, rfl, rfl, h2, atI_nat (j := 0) rfl, _, _, rfl, rfl, wide_mul (up_lt z1.den (Nat.le_add_right a 1)) (up_lt z2.1 (Nat.le_add_right b 1)) (by omega) (by omega) (by omega), _, _, a + b + 1, rfl, dn_pos q1 q2 hc, up_lt (m_lt z1.1 z2.den) (by omega), up_lt (m_lt z1.den z2.1) (by omega), by omega, by omega, fun v H' sm d => q v H' sm ?_⟩
    rw [q_div] at d
    exact d
abbrev s__law_plus : Stmt := topS 25
theorem sc__law_plus : FnScope ["_law_one", "_law_other"] ["_law_one", "_law_other"] (defScope s__law_plus) := ⟨rfl, rfl, rfl, by decide +kernel, rfl, by decide +kernel, by decide +kernel⟩
theorem ok__law_plus {f fC : Addr} {fd fdC : FuncData} {k : Nat} (F : Fun K "_law_plus" "_law_plus" s__law_plus f fd) (kp : PySem.W.keepIn K (.ref fC) = true) (G : FnOk P w K mg base CX0 k fC fdC ["_law_top", "_law_under"] (spFrac K)) (bC : Binds K fdC ["_law_top", "_law_under"] []) (gC : mg "_law_frac" = some (.ref fC)) :
    FnOk P w K mg base CX0 (k + 1) f fd ["_law_one", "_law_other"] (spTwo K (fun q1 q2 => q1 + q2) (fun r => True)) := by
  refine F.ok sc__law_plus (fun vs H Q E h => ?_) (fun cdv A outer s H vs Q E hr h => ?_)
  · obtain ⟨x, y, q1, q2, a, b, rfl, _⟩ := h
    rfl
  · obtain ⟨x, y, q1, q2, a, b, rfl, hx, hy, z1, z2, hz, hc, q⟩ := h
    obtain ⟨p1, rfl, h1⟩ := dp_fr hx
    obtain ⟨p2, rfl, h2⟩ := dp_fr hy
    refine ⟨_, pss_one (ps_ret (pe_call G hr (by rfl) gC kp bC .nil pass0 (pa_cons (pe_op op_add (pe_op op_mulW (pe_ix ix_tup (pv 0) pe_int (fun _ _ => rfl)) (pe_ix ix_tup (pv 1) pe_int (fun _ _ => rfl))) (pe_op op_mulW (pe_ix ix_tup (pv 1) pe_int (fun _ _ => rfl)) (pe_ix ix_tup (pv 0) pe_int (fun _ _ => rfl)))) (pa_cons (pe_op op_mulW (pe_ix ix_tup (pv 0) pe_int (fun _ _ => rfl)) (pe_ix ix_tup (pv 1) pe_int (fun _ _ => rfl))) pa_nil)))), ?_⟩
    refine ⟨.ref p1, rfl, p1, _, 0, _, rfl, rfl, h1, atI_nat (j := 0) rfl, .ref p2, rfl, p2, _, 1, _, rfl, rfl, h2, atI_nat (j := 1) rfl, _, _, rfl, rfl, wide_mul (up_lt z1.1 (Nat.le_add_right a 1)) (up_lt z2.den (Nat.le_add_right b 1)) (by omega) (by omega) (by omega), .ref p2, rfl, p2, _, 0, _, rfl, rfl, h2, atI_nat (j := 0) rfl, .ref p1, rfl, p1, _, 1, _, rfl, rfl, h1, atI_nat (j := 1) rfl, _, _, rfl, rfl, wide_mul (up_lt z2.1 (Nat.le_add_right b 1)) (up_lt z1.den (Nat.le_add_right a 1)) (by omega) (by omega) (by omega), _, _, rfl, rfl, .ref p1, rfl, p1, _, 1, _, rfl, rfl, h1, atI_nat (j := 1) rfl, .ref p2, rfl, p2, _, 1, _, rfl, rfl, h2, atI_nat (j := 1) rfl, _, _, rfl, rfl, wide_mul (up_lt z1.den (Nat.le_add_right a 1)) (up_lt z2.den (Nat.le_add_right b 1)) (by omega) (by omega) (by omega), _, _, a + b + 1, rfl, dd_pos q1 q2, up_lt (sz_add_t z1 z2) (Nat.le_refl _), up_lt (sz_dd z1 z2) (by omega), by omega, by omega, fun v H' sm d => q v H' sm ?_⟩
    rw [q_add] at d
    exact d
abbrev s__law_less : Stmt := topS 26
theorem sc__law_less : FnScope ["_law_one", "_law_other"] ["_law_one", "_law_other"] (defScope s__law_less) := ⟨rfl, rfl, rfl, by decide +kernel, rfl, by decide +kernel, by decide +kernel⟩
theorem ok__law_less {f fC : Addr} {fd fdC : FuncData} {k : Nat} (F : Fun K "_law_less" "_law_less" s__law_less f fd) (kp : PySem.W.keepIn K (.ref fC) = true) (G : FnOk P w K mg base CX0 k fC fdC ["_law_top", "_law_under"] (spFrac K)) (bC : Binds K fdC ["_law_top", "_law_under"] []) (gC : mg "_law_frac" = some (.ref fC)) :
    FnOk P w K mg base CX0 (k + 1) f fd ["_law_one", "_law_other"] (spTwo K (fun q1 q2 => q1 - q2) (fun r => True)) := by
  refine F.ok sc__law_less (fun vs H Q E h => ?_) (fun cdv A outer s H vs Q E hr h => ?_)
  · obtain ⟨x, y, q1, q2, a, b, rfl, _⟩ := h
    rfl
  · obtain ⟨x, y, q1, q2, a, b, rfl, hx, hy, z1, z2, hz, hc, q⟩ := h
    obtain ⟨p1, rfl, h1⟩ := dp_fr hx
    obtain ⟨p2, rfl, h2⟩ := dp_fr hy
    refine ⟨_, pss_one (ps_ret (pe_call G hr (by rfl) gC kp bC .nil pass0 (pa_cons (pe_op op_sub (pe_op op_mulW (pe_ix ix_tup (pv 0) pe_int (fun _ _ => rfl)) (pe_ix ix_tup (pv 1) pe_int (fun _ _ => rfl))) (pe_op op_mulW (pe_ix ix_tup (pv 1) pe_int (fun _ _ => rfl)) (pe_ix ix_tup (pv 0) pe_int (fun _ _ => rfl)))) (pa_cons (pe_op op_mulW (pe_ix ix_tup (pv 0) pe_int (fun _ _ => rfl)) (pe_ix ix_tup (pv 1) pe_int (fun _ _ => rfl))) pa_nil)))), ?_⟩
    refine ⟨.ref p1, rfl, p1, _, 0, _, rfl, rfl, h1, atI_nat (j := 0) rfl, .ref p2, rfl, p2, _, 1, _, rfl, rfl, h2, atI_nat (j := 1) rfl, _, _, rfl, rfl, wide_mul (up_lt z1.1 (Nat.le_add_right a 1)) (up_lt z2.den (Nat.le_add_right b 1)) (by omega) (by omega) (by omega), .ref p2, rfl, p2, _, 0, _, rfl, rfl, h2, atI_nat (j := 0) rfl, .ref p1, rfl, p1, _, 1, _, rfl, rfl, h1, atI_nat (j := 1) rfl, _, _, rfl, rfl, wide_mul (up_lt z2.1 (Nat.le_add_right b 1)) (up_lt z1.den (Nat.le_add_right a 1)) (by omega) (by omega) (by omega), _, _, rfl, rfl, .ref p1, rfl, p1, _, 1, _, rfl, rfl, h1, atI_nat (j := 1) rfl, .ref p2, rfl, p2, _, 1, _, rfl, rfl, h2, atI_nat (j := 1) rfl, _, _, rfl, rfl, wide_mul (up_lt z1.den (Nat.le_add_right a 1)) (up_lt z2.den (Nat.le_add_right b 1)) (by omega) (by omega) (by omega), _, _, a + b + 1, rfl, dd_pos q1 q2, up_lt (sz_sub_t z1 z2) (Nat.le_refl _), up_lt (sz_dd z1 z2) (by omega), by omega, by omega, fun v H' sm d => q v H' sm ?_⟩
    rw [q_sub] at d
    exact d
abbrev s__law_times : Stmt := topS 27
theorem sc__law_times : FnScope ["_law_one", "_law_other"] ["_law_one", "_law_other"] (defScope s__law_times) := ⟨rfl, rfl, rfl, by decide +kernel, rfl, by decide +kernel, by decide +kernel⟩
theorem ok__law_times {f fC : Addr} {fd fdC : FuncData} {k : Nat} (F : Fun K "_law_times" "_law_times" s__law_times f fd) (kp : PySem.W.keepIn K (.ref fC) = true) (G : FnOk P w K mg base CX0 k fC fdC ["_law_top", "_law_under"] (spFrac K)) (bC : Binds K fdC ["_law_top", "_law_under"] []) (gC : mg "_law_frac" = some (.ref fC)) :
    FnOk P w K mg base CX0 (k + 1) f fd ["_law_one", "_law_other"] (spTwo K (fun q1 q2 => q1 * q2) (fun r => True)) := by
  refine F.ok sc__law_times (fun vs H Q E h => ?_) (fun cdv A outer s H vs Q E hr h => ?_)
  · obtain ⟨x, y, q1, q2, a, b, rfl, _⟩ := h
    rfl
  · obtain ⟨x, y, q1, q2, a, b, rfl, hx, hy, z1, z2, hz, hc, q⟩ := h
    obtain ⟨p1, rfl, h1⟩ := dp_fr hx
    obtain ⟨p2, rfl, h2⟩ := dp_fr hy
    refine ⟨_, pss_one (ps_ret (pe_call G hr (by rfl) gC kp bC .nil pass0 (pa_cons (pe_op op_mulW (pe_ix ix_tup (pv 0) pe_int (fun _ _ => rfl)) (pe_ix ix_tup (pv 1) pe_int (fun _ _ => rfl))) (pa_cons (pe_op op_mulW (pe_ix ix_tup (pv 0) pe_int (fun _ _ => rfl)) (pe_ix ix_tup (pv 1) pe_int (fun _ _ => rfl))) pa_nil)))), ?_⟩
    refine ⟨.ref p1, rfl, p1, _, 0, _, rfl, rfl, h1, atI_nat (j := 0) rfl, .ref p2, rfl, p2, _, 0, _, rfl, rfl, h2, atI_nat (j := 0) rfl, _, _, rfl, rfl, wide_mul (up_lt z1.1 (Nat.le_add_right a 1)) (up_lt z2.1 (Nat.le_add_right b 1)) (by omega) (by omega) (by omega), .ref p1, rfl, p1, _, 1, _, rfl, rfl, h1, atI_nat (j := 1) rfl, .ref p2, rfl, p2, _, 1, _, rfl, rfl, h2, atI_nat (j := 1) rfl, _, _, rfl, rfl, wide_mul (up_lt z1.den (Nat.le_add_right a 1)) (up_lt z2.den (Nat.le_add_right b 1)) (by omega) (by omega) (by omega), _, _, a + b + 1, rfl, dd_pos q1 q2, up_lt (m_lt z1.1 z2.1) (by omega), up_lt (sz_dd z1 z2) (by omega), by omega, by omega, fun v H' sm d => q v H' sm ?_⟩
    rw [q_mul] at d
    exact d
abbrev s__law_over : Stmt := topS 28
theorem sc__law_over : FnScope ["_law_one", "_law_other"] ["_law_one", "_law_other"] (defScope s__law_over) := ⟨rfl, rfl, rfl, by decide +kernel, rfl, by decide +kernel, by decide +kernel⟩
theorem ok__law_over {f fC : Addr} {fd fdC : FuncData} {k : Nat} (F : Fun K "_law_over" "_law_over" s__law_over f fd) (kp : PySem.W.keepIn K (.ref fC) = true) (G : FnOk P w K mg base CX0 k fC fdC ["_law_top", "_law_under"] (spFrac K)) (bC : Binds K fdC ["_law_top", "_law_under"] []) (gC : mg "_law_frac" = some (.ref fC)) :
    FnOk P w K mg base CX0 (k + 1) f fd ["_law_one", "_law_other"] (spTwo K (fun q1 q2 => q1 / q2) (fun r => 0 < r)) := by
  refine F.ok sc__law_over (fun vs H Q E h => ?_) (fun cdv A outer s H vs Q E hr h => ?_)
  · obtain ⟨x, y, q1, q2, a, b, rfl, _⟩ := h
    rfl
  · obtain ⟨x, y, q1, q2, a, b, rfl, hx, hy, z1, z2, hz, hc, q⟩ := h
    obtain ⟨p1, rfl, h1⟩ := dp_fr hx
    obtain ⟨p2, rfl, h2⟩ := dp_fr hy
    refine ⟨_, pss_one (ps_ret (pe_call G hr (by rfl) gC kp bC .nil pass0 (pa_cons (pe_op op_mulW (pe_ix ix_tup (pv 0) pe_int (fun _ _ => rfl)) (pe_ix ix_tup (pv 1) pe_int (fun _ _ => rfl))) (pa_cons (pe_op op_mulW (pe_ix ix_tup (pv 0) pe_int (fun _ _ => rfl)) (pe_ix ix_tup (pv 1) pe_int (fun _ _ => rfl))) pa_nil)))), ?_⟩
    refine ⟨.ref p1, rfl, p1, _, 0, _, rfl, rfl, h1, atI_nat (j := 0) rfl, .ref p2, rfl, p2, _, 1, _, rfl, rfl, h2, atI_nat (j := 1) rfl, _, _, rfl, rfl, wide_mul (up_lt z1.1 (Nat.le_add_right a 1)) (up_lt z2.den (Nat.le_add_right b 1)) (by omega) (by omega) (by omega), .ref p1, rfl, p1, _, 1, _, rfl, rfl, h1, atI_nat (j := 1) rfl, .ref p2, rfl, p2, _, 0, _, rfl, rfl, h2, atI_nat (j := 0) rfl, _, _, rfl, rfl, wide_mul (up_lt z1.den (Nat.le_add_right a 1)) (up_lt z2.1 (Nat.le_add_right b 1)) (by omega) (by omega) (by omega), _, _, a + b + 1, rfl, dn_pos q1 q2 hc, up_lt (m_lt z1.1 z2.den) (by omega), up_lt (m_lt z1.den z2.1) (by omega), by omega, by omega, fun v H' sm d => q v H' sm ?_⟩
    rw [q_div] at d
    exact d
end
/-! ### a drawn pane, a drawn row, a drawn weight -/
abbrev sPane : Stmt := topS 29
abbrev sRow : Stmt := topS 30
theorem scPane : FnScope ["_law_box_here", "_law_under", "_law_any_one"] ["_law_box_here"] (defScope sPane) := ⟨rfl, rfl, rfl, by decide +kernel, rfl, by decide +kernel, by decide +kernel⟩
theorem scRow : FnScope ["_law_box_here", "_law_most", "_law_panes", "_law_turn"] ["_law_box_here", "_law_most"] (defScope sRow) := ⟨rfl, rfl, rfl, by decide +kernel, rfl, by decide +kernel, by decide +kernel⟩
def spPane (K : PySem.W.Frag) : Sp := fun vs H Q _ => ∃ (p : Addr) (n : Nat), vs = [.ref p] ∧ Bx H p n ∧ n < 900000 ∧
  ∀ (v : V) (H' : Hp) (q : Rat), PaneQ q → Chg p H H' → Bx H' p (n + 4) → Dp K H' v (frD q) → Q v H'
def WallI (x : Int) : Prop := x = 0 ∨ x = 1 ∨ x = -1
def spRow (K : PySem.W.Frag) : Sp := fun vs H Q _ => ∃ (p : Addr) (m n : Nat), vs = [.ref p, .int m] ∧ Bx H p n ∧ n < 500000 ∧ m ≤ 100 ∧
  ∀ (v : V) (H' : Hp) (qs : List Rat) (x : Int), (∀ q ∈ qs, PaneQ q) → qs.length ≤ m → WallI x → Chg p H H' → Bx H' p (n + 4 * m + 2) → Dp K H' v (rowD qs x) → Q v H'
section
variable {P : Program} {w : World} {K : PySem.W.Frag} {mg : Str → Option Value} {base : Heap}
theorem mem8 {K : PySem.W.Frag} {H : Hp} {a b c d e f g h v : V} (i1 : IsPane K H a) (i2 : IsPane K H b) (i3 : IsPane K H c) (i4 : IsPane K H d) (i5 : IsPane K H e) (i6 : IsPane K H f) (i7 : IsPane K H g) (i8 : IsPane K H h) (hm : v ∈ [a, b, c, d, e, f, g, h]) : IsPane K H v := by
  simp only [List.mem_cons, List.not_mem_nil, or_false] at hm
  rcases hm with rfl | rfl | rfl | rfl | rfl | rfl | rfl | rfl <;> assumption
theorem ok_pane {f fT fO fC : Addr} {fd fdT fdO fdC : FuncData} {k : Nat} (F : Fun K "_law_pane" "_law_pane" sPane f fd)
    (FT : Fun K "_law_take" "_law_take" sTake fT fdT) (bT : Binds K fdT ["_law_box_here", "_law_size"] []) (gT : mg "_law_take" = some (.ref fT))
    (FO : Fun K "_law_of" "_law_of" sOf fO fdO) (bO : Binds K fdO ["_law_box_here", "_law_some"] []) (gO : mg "_law_of" = some (.ref fO))
    (FC : Fun K "_law_frac" "_law_frac" sFrac fC fdC) (bC : Binds K fdC ["_law_top", "_law_under"] []) (gC : mg "_law_frac" = some (.ref fC))
    (ml : mg "len" = none) (ma : mg "abs" = none) : FnOk P w K mg base CX0 (k + 3) f fd ["_law_box_here"] (spPane K) := by
  have GT : FnOk P w K mg base CX0 (k + 2) fT fdT ["_law_box_here", "_law_size"] spTake := ok_take FT
  have GO : FnOk P w K mg base CX0 (k + 2) fO fdO ["_law_box_here", "_law_some"] (spOf K) := ok_of FO FT bT gT ml
  have GC : FnOk P w K mg base CX0 (k + 2) fC fdC ["_law_top", "_law_under"] (spFrac K) := ok_frac FC ma
  refine F.ok scPane (fun vs H Q E h => ?_) (fun cdv A outer s H vs Q E hr h => ?_)
  · obtain ⟨p, n, rfl, _⟩ := h
    rfl
  · obtain ⟨p, n, rfl, hb, hn, q⟩ := h
    refine ⟨_, pss_cons (ps_set (i := 1) scPane.nd rfl (.inl rfl) (pe_op op_add pe_int (pe_call GT hr (by rfl) gT FT.kp bT .nil pass0 (pa_cons (pv 0) (pa_cons (pe_ix ix_list (pe_lst (pa_cons pe_int (pa_cons pe_int (pa_cons pe_int pa_nil)))) (pe_call GT hr (by rfl) gT FT.kp bT .nil pass0 (pa_cons (pv 0) (pa_cons pe_int pa_nil))) (fun _ _ => rfl)) pa_nil)))))
      (pss_cons (ps_set (i := 2) scPane.nd rfl (.inl rfl) (pe_call GC hr (by rfl) gC FC.kp bC .nil pass0 (pa_cons (pe_op op_add (pe_op op_sub (pe_call GT hr (by rfl) gT FT.kp bT .nil pass0 (pa_cons (pv 0) (pa_cons (pe_op op_sub (pe_op op_mul pe_int (pv 1)) pe_int) pa_nil))) (pv 1)) pe_int) (pa_cons (pv 1) pa_nil))))
      (pss_one (ps_ret (pe_call GO hr (by rfl) gO FO.kp bO .nil pass0 (pa_cons (pv 0) (pa_cons (pe_lst (pa_cons (pv 2) (pa_cons (pv 2) (pa_cons (pv 2) (pa_cons (pe_tup (pa_cons pe_int (pa_cons pe_int pa_nil))) (pa_cons (pe_tup (pa_cons (pe_un un_neg pe_int) (pa_cons pe_int pa_nil))) (pa_cons (pe_tup (pa_cons pe_int (pa_cons pe_int pa_nil))) (pa_cons (pe_tup (pa_cons pe_int (pa_cons pe_int pa_nil))) (pa_cons (pe_tup (pa_cons (pe_op op_sub pe_int (pv 1)) (pa_cons (pv 1) pa_nil))) pa_nil))))))))) pa_nil)))))), ?_⟩
    -- under
    refine ⟨.ref p, rfl, (by decide : 3 ≤ sizeLine), fun l hl => ?_⟩
    have b0 := hb.same (same_upd (o := .lst [.int 3, .int 8, .int 59]) hl)
    have nlp : l ≠ p := by
      obtain ⟨x, e⟩ := hb.at
      exact (ne_of_none e hl).symm
    refine ⟨.ref p, rfl, p, 3, n, rfl, b0, by omega, by decide, by decide, fun r H1 h0 h3 c1 b1 => ?_⟩
    obtain ⟨z, hz, hz1, hz2⟩ := pick3 h0 h3
    refine ⟨l, _, _, _, rfl, rfl, SqL.of (c1 _ _ nlp upd_same), hz, p, z, n + 1, rfl, b1, by omega, hz1, by omega, fun r2 H2 h20 h2z c2 b2 => ?_⟩
    have C2 : Chg p H H2 := (Chg.of_same (same_upd hl)).trans (c1.trans c2)
    refine ⟨_, _, rfl, rfl, ?_⟩
    -- any one
    refine ⟨.ref p, rfl, _, rfl, _, _, rfl, rfl, .inl ⟨by decide, by decide⟩, _, _, rfl, rfl, p, _, n + 2, rfl, b2, by omega, by omega, by omega, fun r3 H3 h30 h3z c3 b3 => ?_⟩
    refine ⟨_, rfl, _, _, rfl, rfl, _, _, rfl, rfl, _, rfl, _, _, 6, rfl, by omega, by omega, by omega, by decide, by decide, fun v H4 s4 d4 => ?_⟩
    have P0 : PaneQ (Rat.divInt (r3 - (2 + r2) + 1) (2 + r2)) := pane_fr (by omega) (by omega) (by omega)
    have i0 : IsPane K H4 v := ⟨_, P0, d4⟩
    have b4 : Bx H4 p (n + 3) := b3.same s4
    have C4 : Chg p H H4 := C2.trans (c3.trans (Chg.of_same s4))
    -- the menu
    refine ⟨.ref p, rfl, v, rfl, v, rfl, v, rfl, (by decide : 2 ≤ sizeLine), fun a1 n1 => ⟨1, rfl, (by decide : 2 ≤ sizeLine), fun a2 n2 => ⟨(by decide : 2 ≤ sizeLine), fun a3 n3 => ⟨(by decide : 2 ≤ sizeLine), fun a4 n4 => ⟨_, rfl, _, _, rfl, rfl, _, rfl, (by decide : 2 ≤ sizeLine), fun a5 n5 => ⟨(by decide : 8 ≤ sizeLine), fun l2 nl2 => ?_⟩⟩⟩⟩⟩⟩
    have S1 := same_upd (o := .tup [.int 1, .int 2]) n1
    have S2 := same_upd (o := .tup [.int (-1), .int 2]) n2
    have S3 := same_upd (o := .tup [.int 1, .int 3]) n3
    have S4 := same_upd (o := .tup [.int 0, .int 1]) n4
    have S5 := same_upd (o := .tup [.int (1 - (2 + r2)), .int (2 + r2)]) n5
    have S6 := same_upd (o := .lst [v, v, v, .ref a1, .ref a2, .ref a3, .ref a4, .ref a5]) nl2
    have i1 := (((((pane_lit (K := K) (by decide) (by decide) (by decide) (by decide) (SqT.of (upd_same (H := H4) (a := a1) (o := .tup [.int 1, .int 2])))).same S2).same S3).same S4).same S5).same S6
    have i2 := ((((pane_lit (K := K) (by decide) (by decide) (by decide) (by decide) (SqT.of (upd_same (a := a2) (o := .tup [.int (-1), .int 2])))).same S3).same S4).same S5).same S6
    have i3 := (((pane_lit (K := K) (by decide) (by decide) (by decide) (by decide) (SqT.of (upd_same (a := a3) (o := .tup [.int 1, .int 3])))).same S4).same S5).same S6
    have i4 := ((pane_lit (K := K) (by decide) (by decide) (by decide) (by decide) (SqT.of (upd_same (a := a4) (o := .tup [.int 0, .int 1])))).same S5).same S6
    have i5 := (pane_lit (K := K) (gcd_one_less (2 + r2)) (by omega) (by omega) (by omega) (SqT.of (upd_same (a := a5) (o := .tup [.int (1 - (2 + r2)), .int (2 + r2)])))).same S6
    have SS := ((((S1.trans S2).trans S3).trans S4).trans S5).trans S6
    have i0' := i0.same SS
    have b5 := b4.same SS
    have nl2p : l2 ≠ p := by
      obtain ⟨x, e⟩ := (b4.same ((((S1.trans S2).trans S3).trans S4).trans S5)).at
      exact (ne_of_none e nl2).symm
    refine ⟨p, l2, _, n + 3, rfl, b5, by omega, upd_same, nl2p, by simp, (by decide : 8 < 1000), fun v2 H5 hm c5 b6 => ?_⟩
    obtain ⟨q2, pq, dq⟩ := mem8 i0' i0' i0' i1 i2 i3 i4 i5 hm
    exact q v2 H5 q2 pq (C4.trans ((Chg.of_same SS).trans c5)) b6 (b5.dp c5 dq (noL_fr q2))
theorem ok_row {f fT fO fP : Addr} {fd fdT fdO fdP : FuncData} {k : Nat} (F : Fun K "_law_row" "_law_row" sRow f fd)
    (kT : PySem.W.keepIn K (.ref fT) = true) (GT : FnOk P w K mg base CX0 (k + 3) fT fdT ["_law_box_here", "_law_size"] spTake) (bT : Binds K fdT ["_law_box_here", "_law_size"] []) (gT : mg "_law_take" = some (.ref fT))
    (kO : PySem.W.keepIn K (.ref fO) = true) (GO : FnOk P w K mg base CX0 (k + 3) fO fdO ["_law_box_here", "_law_some"] (spOf K)) (bO : Binds K fdO ["_law_box_here", "_law_some"] []) (gO : mg "_law_of" = some (.ref fO))
    (kP : PySem.W.keepIn K (.ref fP) = true) (GP : FnOk P w K mg base CX0 (k + 3) fP fdP ["_law_box_here"] (spPane K)) (bP : Binds K fdP ["_law_box_here"] []) (gP : mg "_law_pane" = some (.ref fP))
    (mr : mg "range" = none) (mt : mg "tuple" = none) : FnOk P w K mg base CX0 (k + 4) f fd ["_law_box_here", "_law_most"] (spRow K) := by
  refine F.ok scRow (fun vs H Q E h => ?_) (fun cdv A outer s H vs Q E hr h => ?_)
  · obtain ⟨p, m, n, rfl, _⟩ := h
    rfl
  · obtain ⟨p, m, n, rfl, hb, hn, hm, q⟩ := h
    refine ⟨_, pss_cons (ps_set (i := 2) scRow.nd rfl (.inl rfl) (pe_callTy call_tuple_of (by rfl) mt PyProof.Rows.boot_tuple (pa_cons
        (pe_lc (own := [("_law_turn", 3)]) (g := gName 3) (tt := tYes) rfl scRow.nd (pi_range1 (by rfl) mr (pa_cons (pe_call GT hr (by rfl) gT kT bT .nil pass0 (pa_cons (pv 0) (pa_cons (pe_op op_add (pv 1) pe_int) pa_nil))) pa_nil))
          (blkOk_by (N := ["_law_box_here", "_law_most", "_law_panes", "_law_turn"]) (sc := defScope sRow) (by decide +kernel)) (fun _ _ _ _ _ => pg_name (i := 3) scRow.nd rfl (Or.inl rfl)) (fun _ _ _ _ _ => pts_nil)
          (fun _ _ _ _ _ => pe_call GP hr (by rfl) gP kP bP .nil pass0 (pa_cons (pv 0) pa_nil))) pa_nil)))
      (pss_one (ps_ret (pe_tup (pa_cons (pv 2) (pa_cons (pe_call GO hr (by rfl) gO kO bO .nil pass0 (pa_cons (pv 0) (pa_cons (pe_lst (pa_cons pe_int (pa_cons pe_int (pa_cons pe_int (pa_cons pe_int (pa_cons pe_int (pa_cons (pe_un un_neg pe_int) pa_nil))))))) pa_nil))) pa_nil))))), ?_⟩
    refine ⟨.ref p, rfl, _, rfl, _, _, rfl, rfl, p, _, n, rfl, hb, by omega, by omega, by omega, fun r H1 h0 h1 c1 b1 => ?_⟩
    refine ⟨r, rfl, by omega, by omega, fun D nD => lc_it walk_range (fun i H2 => ∃ (vs : List V) (qs : List Rat), Chg p H H2 ∧ Bx H2 p (n + 1 + 4 * i) ∧ H2 D = some (.lst vs) ∧ DpAll K H2 vs (frs qs) ∧ (∀ q ∈ qs, PaneQ q) ∧ qs.length = i) ?_ (fun _ _ _ _ => trivial) ?_ ?_⟩
    · refine ⟨[], [], c1.trans (Chg.of_same (same_upd nD)), b1.same (same_upd nD), upd_same, .nil, by simp, rfl⟩
    · rintro i x H2 H2' hi ⟨vs, qs, C2, B2, hD, dD, pq, hl⟩ ⟨rfl, rfl⟩
      refine ⟨rfl, .ref p, rfl, p, _, rfl, B2, by omega, fun v H3 q2 pq2 c3 b3 d3 => ?_⟩
      have nDp : D ≠ p := by
        obtain ⟨x, e⟩ := b1.at
        exact (ne_of_none e nD).symm
      have nDH : H D = none := c1.free nDp nD
      have hD3 : H3 D = some (.lst vs) := c3 _ _ nDp hD
      refine ⟨vs, hD3, ?_, vs ++ [v], qs ++ [q2], (C2.trans c3).new_upd nDH, (b3.other nDp.symm).mono (by omega), upd_same, ?_, ?_, ?_⟩
      · rw [dps_len dD]
        unfold frs
        rw [List.length_map]
        exact small1000 (by omega)
      · refine dps_put hD3 (noL_frs _) (dps_snoc (B2.dps c3 dD (noL_frs _)) d3)
      · intro q5 h5
        rcases List.mem_append.mp h5 with h5 | h5
        · exact pq _ h5
        · rw [List.mem_singleton.mp h5]
          exact pq2
      · rw [List.length_append, hl]
        rfl
    · rintro H2 ⟨vs, qs, C2, B2, hD, dD, pq, hl⟩
      refine ⟨D, vs, rfl, .inl ⟨SqL.of hD, fun t nt => ?_⟩⟩
      have St := same_upd (o := .tup vs) nt
      -- (panes, a drawn wall)
      refine ⟨_, rfl, .ref p, rfl, 1, rfl, (by decide : 6 ≤ sizeLine), fun l nl => ?_⟩
      have Sl := same_upd (o := .lst [.int 0, .int 0, .int 0, .int 0, .int 1, .int (-1)]) nl
      have b5 := B2.same (St.trans Sl)
      have nlp : l ≠ p := by
        obtain ⟨x, e⟩ := (B2.same St).at
        exact (ne_of_none e nl).symm
      refine ⟨p, l, _, _, rfl, b5, by omega, upd_same, nlp, by simp, by decide, fun v H5 hv c5 b6 => ?_⟩
      have hw : ∃ x : Int, v = .int x ∧ WallI x := by
        simp only [List.mem_cons, List.not_mem_nil, or_false] at hv
        rcases hv with rfl | rfl | rfl | rfl | rfl | rfl
        · exact ⟨_, rfl, .inl rfl⟩
        · exact ⟨_, rfl, .inl rfl⟩
        · exact ⟨_, rfl, .inl rfl⟩
        · exact ⟨_, rfl, .inl rfl⟩
        · exact ⟨_, rfl, .inr (.inl rfl)⟩
        · exact ⟨_, rfl, .inr (.inr rfl)⟩
      obtain ⟨x, rfl, hx⟩ := hw
      have dT : Dp K _ (.ref t) (.tuple (frs qs)) := .tup (SqT.of (upd_same (H := H2) (a := t) (o := .tup vs))) (dps_same St _ _ dD)
      have dT5 := b5.dp c5 (dp_same Sl _ _ dT) (show noL (.tuple (frs qs)) = true from noL_frs qs)
      refine ⟨(by decide : 2 ≤ sizeLine), fun t2 nt2 => ?_⟩
      have S6 := same_upd (o := .tup [.ref t, .int x]) nt2
      refine q _ _ qs x pq (by omega) hx (C2.trans ((Chg.of_same (St.trans Sl)).trans (c5.trans (Chg.of_same S6)))) ((b6.same S6).mono (by omega)) ?_
      exact .tup (SqT.of upd_same) (.cons (dp_same S6 _ _ dT5) (.cons (.int x) .nil))
end
/-! ### what is alike is told so -/
abbrev sSame : Stmt := topS 23
theorem scSame : FnScope ["_law_found", "_law_due", "_law_one", "_law_two"] ["_law_found", "_law_due"] (defScope sSame) := ⟨rfl, rfl, rfl, by decide +kernel, rfl, by decide +kernel, by decide +kernel⟩
/-- data less than d deep, no list or tuple of more than 1000 -/
def okD : Nat → PyData → Bool
  | 0, _ => false
  | d + 1, .list ds => decide (ds.length ≤ 1000) && ds.all (okD d)
  | d + 1, .tuple ds => decide (ds.length ≤ 1000) && ds.all (okD d)
  | _ + 1, .dict _ => false
  | _ + 1, _ => true
/-- two things that are the same data: True -/
def spSame (K : PySem.W.Frag) (d : Nat) : Sp := fun vs H Q _ => ∃ (x y : V) (D : PyData), vs = [x, y] ∧ Dp K H x D ∧ Dp K H y D ∧ okD d D = true ∧ ∀ H' : Hp, Same H H' → Q (.bl true) H'
theorem ok_list {d : Nat} {ds : List PyData} (h : okD (d + 1) (.list ds) = true) : ds.length ≤ 1000 ∧ ∀ x ∈ ds, okD d x = true := by
  unfold okD at h
  simpa using h
theorem ok_tuple {d : Nat} {ds : List PyData} (h : okD (d + 1) (.tuple ds) = true) : ds.length ≤ 1000 ∧ ∀ x ∈ ds, okD d x = true := by
  unfold okD at h
  simpa using h
theorem all_true (n : Nat) : (List.replicate n true).all id = true := by
  induction n with
  | zero => rfl
  | succ n ih =>
    rw [List.replicate_succ, List.all_cons, ih]
    rfl
theorem rep_snoc (n : Nat) : (List.replicate n true).map V.bl ++ [V.bl true] = (List.replicate (n + 1) true).map V.bl := by
  rw [List.replicate_succ', List.map_append]
  rfl
section
variable {P : Program} {w : World} {K : PySem.W.Frag} {mg : Str → Option Value} {base : Heap}
theorem ok_same {f : Addr} {fd : FuncData} (F : Fun K "_law_same" "_law_same" sSame f fd) (b : Binds K fd ["_law_found", "_law_due"] []) (g : mg "_law_same" = some (.ref f))
    (mI : mg "isinstance" = none) (mdict : mg "dict" = none) (mlist : mg "list" = none) (mtuple : mg "tuple" = none) (ml : mg "len" = none) (mall : mg "all" = none) (mz : mg "zip" = none) (mbool : mg "bool" = none) (mstr : mg "str" = none) (mint : mg "int" = none) :
    ∀ d : Nat, FnOk P w K mg base CX0 d f fd ["_law_found", "_law_due"] (spSame K d)
  | 0 => ⟨fun vs H Q E h => by obtain ⟨x, y, D, rfl, _⟩ := h; rfl, fun A outer s H args us vs Q E _ _ _ _ h => by
      obtain ⟨x, y, D, _, _, _, h0, _⟩ := h
      cases h0⟩
  | d + 1 => by
    have G := ok_same F b g mI mdict mlist mtuple ml mall mz mbool mstr mint d
    refine F.ok scSame (fun vs H Q E h => ?_) (fun cdv A outer s H vs Q E hr h => ?_)
    · obtain ⟨x, y, D, rfl, _⟩ := h
      rfl
    · obtain ⟨x, y, D, rfl, hx, hy, hd, q⟩ := h
      refine ⟨_, pss_cons (ps_if (pt_val (pe_callB call_isi (by rfl) mI PyProof.Rows.boot_isinstance (pa_cons (pv 1) (pa_cons (pe_bltn (v := .ty "dict") (by rfl) mdict PyProof.Rows.boot_dict rfl) pa_nil)))) pss_never pss_nil)
        (pss_cons (ps_if (pt_val (pe_callB call_isiT (by rfl) mI PyProof.Rows.boot_isinstance (pa_cons (pv 1) (pa_cons (pe_tup (pa_cons (pe_bltn (v := .ty "list") (by rfl) mlist PyProof.Rows.boot_list rfl) (pa_cons (pe_bltn (v := .ty "tuple") (by rfl) mtuple PyProof.Rows.boot_tuple rfl) pa_nil))) pa_nil))))
          (pss_cons (ps_if (PW.pt (pw_or (pt_cmpR op_ne (pe_callB call_isi (by rfl) mI PyProof.Rows.boot_isinstance (pa_cons (pv 0) (pa_cons (pe_bltn (v := .ty "list") (by rfl) mlist PyProof.Rows.boot_list rfl) pa_nil))) (pe_callB call_isi (by rfl) mI PyProof.Rows.boot_isinstance (pa_cons (pv 1) (pa_cons (pe_bltn (v := .ty "list") (by rfl) mlist PyProof.Rows.boot_list rfl) pa_nil))) (nomark _))
              (pw_or1 (pt_cmpR op_ne (pe_callB call_isi (by rfl) mI PyProof.Rows.boot_isinstance (pa_cons (pv 0) (pa_cons (pe_bltn (v := .ty "tuple") (by rfl) mtuple PyProof.Rows.boot_tuple rfl) pa_nil))) (pe_callB call_isi (by rfl) mI PyProof.Rows.boot_isinstance (pa_cons (pv 1) (pa_cons (pe_bltn (v := .ty "tuple") (by rfl) mtuple PyProof.Rows.boot_tuple rfl) pa_nil))) (nomark _))))) pss_never pss_nil)
          (pss_one (ps_ret (pe_and (pe_cmpR op_eq (pe_callB call_len_seq (by rfl) ml PySem.boot_len (pa_cons (pv 0) pa_nil)) (pe_callB call_len_seq (by rfl) ml PySem.boot_len (pa_cons (pv 1) pa_nil)) (nomark _))
            (pe_one (pe_callB (cr_all rfl) (by rfl) mall (by decide +kernel) (pa_cons
              (pe_lc (own := [("_law_one", 2), ("_law_two", 3)]) (g := gTup K 2 (gCons (gName 2) (gCons (gName 3) gNil))) (tt := tYes) rfl scSame.nd (RZ.pi_zipA (by rfl) mz (pa_cons (pv 0) (pa_cons (pv 1) pa_nil)))
                (blkOk_by (N := ["_law_found", "_law_due", "_law_one", "_law_two"]) (sc := defScope sSame) (by decide +kernel))
                (fun _ _ _ _ _ => pg_tup rfl (pgs_cons (pg_name (i := 2) scSame.nd rfl (.inl rfl)) (pgs_cons (pg_name (i := 3) scSame.nd rfl (.inl rfl)) pgs_nil))) (fun _ _ _ _ _ => pts_nil)
                (fun _ _ _ _ _ => pe_call G hr (by rfl) g F.kp b .nil pass0 (pa_cons (pv 2) (pa_cons (pv 3) pa_nil)))) pa_nil))))))) pss_nil)
        (pss_cons (ps_if (PW.pt (pw_or (pt_cmpR op_isN (pv 1) pe_non (nomark _)) (pw_or1 (pt_val (pe_callB call_isiT (by rfl) mI PyProof.Rows.boot_isinstance (pa_cons (pv 1) (pa_cons (pe_tup (pa_cons (pe_bltn (v := .ty "bool") (by rfl) mbool PyProof.Rows.boot_bool rfl) (pa_cons (pe_bltn (v := .ty "str") (by rfl) mstr PyProof.Rows.boot_str rfl) pa_nil))) pa_nil)))))))
          (pss_one (ps_ret (pe_and (pe_cmpR op_eq (pv 0) (pv 1) (nomark _)) (pe_and (pe_cmpR op_eq (pe_callB call_isi (by rfl) mI PyProof.Rows.boot_isinstance (pa_cons (pv 0) (pa_cons (pe_bltn (v := .ty "bool") (by rfl) mbool PyProof.Rows.boot_bool rfl) pa_nil))) (pe_callB call_isi (by rfl) mI PyProof.Rows.boot_isinstance (pa_cons (pv 1) (pa_cons (pe_bltn (v := .ty "bool") (by rfl) mbool PyProof.Rows.boot_bool rfl) pa_nil))) (nomark _))
            (pe_one (pe_cmpR op_eq (pe_cmpR op_isN (pv 0) pe_non (nomark _)) (pe_cmpR op_isN (pv 1) pe_non (nomark _)) (nomark _))))))) pss_nil)
        (pss_one (ps_ret (pe_and (pe_callB call_isi (by rfl) mI PyProof.Rows.boot_isinstance (pa_cons (pv 0) (pa_cons (pe_bltn (v := .ty "int") (by rfl) mint PyProof.Rows.boot_int rfl) pa_nil)))
          (pe_and (pe_not (pe_callB call_isi (by rfl) mI PyProof.Rows.boot_isinstance (pa_cons (pv 0) (pa_cons (pe_bltn (v := .ty "bool") (by rfl) mbool PyProof.Rows.boot_bool rfl) pa_nil)))) (pe_one (pe_cmpR op_eq (pv 0) (pv 1) (nomark _))))))))), ?_⟩
      cases D with
      | dict kvs => cases hx
      | none =>
        cases hx
        cases hy
        refine ⟨_, rfl, _, _, _, _, _, rfl, .ty _, .base .non, kit_ty (by decide +kernel), _, rfl, iteF ?_⟩
        refine ⟨_, rfl, (by decide : 2 ≤ sizeLine), fun t nt => ⟨_, t, _, _, _, _, rfl, upd_same, .cons (.ty _) (.cons (.ty _) .nil), .base .non, kitAny_cons (kit_ty (r := false) (by decide +kernel)) (fun _ => kitAny_cons (kit_ty (r := false) (by decide +kernel)) (fun _ => kitAny_nil) (fun z => nomatch z)) (fun z => nomatch z), _, rfl, iteF ?_⟩⟩
        refine ⟨_, rfl, rfl, _, rfl, iteT (iteT ?_)⟩
        refine ⟨_, rfl, _, rfl, rfl, _, rfl, iteT ?_⟩
        refine ⟨_, rfl, _, _, _, _, _, rfl, .ty _, .base .non, kit_ty (r := false) (by decide +kernel), _, rfl, _, _, _, _, _, rfl, .ty _, .base .non, kit_ty (r := false) (by decide +kernel), rfl, _, rfl, iteT ?_⟩
        exact ⟨_, rfl, rfl, _, rfl, rfl, rfl, q _ (same_upd nt)⟩
      | bool v =>
        cases hx
        cases hy
        refine ⟨_, rfl, _, _, _, _, _, rfl, .ty _, .base (.bl v), kit_ty (by decide +kernel), _, rfl, iteF ?_⟩
        refine ⟨_, rfl, (by decide : 2 ≤ sizeLine), fun t nt => ⟨_, t, _, _, _, _, rfl, upd_same, .cons (.ty _) (.cons (.ty _) .nil), .base (.bl v), kitAny_cons (kit_ty (r := false) (by decide +kernel)) (fun _ => kitAny_cons (kit_ty (r := false) (by decide +kernel)) (fun _ => kitAny_nil) (fun z => nomatch z)) (fun z => nomatch z), _, rfl, iteF ?_⟩⟩
        refine ⟨_, rfl, rfl, _, rfl, iteF ?_⟩
        refine ⟨_, rfl, (by decide : 2 ≤ sizeLine), fun t2 nt2 => ⟨_, t2, _, _, _, _, rfl, upd_same, .cons (.ty _) (.cons (.ty _) .nil), .base (.bl v), kitAny_cons (r := true) (kit_ty (r := true) (by decide +kernel)) (fun z => nomatch z) (fun z => rfl), _, rfl, iteT ?_⟩⟩
        refine ⟨_, rfl, _, rfl, rfl, _, congrArg V.bl (decide_eq_true rfl), iteT ?_⟩
        refine ⟨_, rfl, _, _, _, _, _, rfl, .ty _, .base (.bl v), kit_ty (r := true) (by decide +kernel), _, rfl, _, _, _, _, _, rfl, .ty _, .base (.bl v), kit_ty (r := true) (by decide +kernel), rfl, _, rfl, iteT ?_⟩
        exact ⟨_, rfl, rfl, _, rfl, rfl, rfl, q _ ((same_upd nt).trans (same_upd nt2))⟩
      | str v =>
        cases hx
        cases hy
        refine ⟨_, rfl, _, _, _, _, _, rfl, .ty _, .base (.str v), kit_ty (by decide +kernel), _, rfl, iteF ?_⟩
        refine ⟨_, rfl, (by decide : 2 ≤ sizeLine), fun t nt => ⟨_, t, _, _, _, _, rfl, upd_same, .cons (.ty _) (.cons (.ty _) .nil), .base (.str v), kitAny_cons (kit_ty (r := false) (by decide +kernel)) (fun _ => kitAny_cons (kit_ty (r := false) (by decide +kernel)) (fun _ => kitAny_nil) (fun z => nomatch z)) (fun z => nomatch z), _, rfl, iteF ?_⟩⟩
        refine ⟨_, rfl, rfl, _, rfl, iteF ?_⟩
        refine ⟨_, rfl, (by decide : 2 ≤ sizeLine), fun t2 nt2 => ⟨_, t2, _, _, _, _, rfl, upd_same, .cons (.ty _) (.cons (.ty _) .nil), .base (.str v), kitAny_cons (r := true) (kit_ty (r := false) (by decide +kernel)) (fun _ => kitAny_cons (kit_ty (r := true) (by decide +kernel)) (fun z => nomatch z) (fun _ => rfl)) (fun z => nomatch z), _, rfl, iteT ?_⟩⟩
        refine ⟨_, rfl, _, rfl, rfl, _, congrArg V.bl (decide_eq_true rfl), iteT ?_⟩
        refine ⟨_, rfl, _, _, _, _, _, rfl, .ty _, .base (.str v), kit_ty (r := false) (by decide +kernel), _, rfl, _, _, _, _, _, rfl, .ty _, .base (.str v), kit_ty (r := false) (by decide +kernel), rfl, _, rfl, iteT ?_⟩
        exact ⟨_, rfl, rfl, _, rfl, rfl, rfl, q _ ((same_upd nt).trans (same_upd nt2))⟩
      | int v =>
        cases hx
        cases hy
        refine ⟨_, rfl, _, _, _, _, _, rfl, .ty _, .base (.int v), kit_ty (by decide +kernel), _, rfl, iteF ?_⟩
        refine ⟨_, rfl, (by decide : 2 ≤ sizeLine), fun t nt => ⟨_, t, _, _, _, _, rfl, upd_same, .cons (.ty _) (.cons (.ty _) .nil), .base (.int v), kitAny_cons (kit_ty (r := false) (by decide +kernel)) (fun _ => kitAny_cons (kit_ty (r := false) (by decide +kernel)) (fun _ => kitAny_nil) (fun z => nomatch z)) (fun z => nomatch z), _, rfl, iteF ?_⟩⟩
        refine ⟨_, rfl, rfl, _, rfl, iteF ?_⟩
        refine ⟨_, rfl, (by decide : 2 ≤ sizeLine), fun t2 nt2 => ⟨_, t2, _, _, _, _, rfl, upd_same, .cons (.ty _) (.cons (.ty _) .nil), .base (.int v), kitAny_cons (kit_ty (r := false) (by decide +kernel)) (fun _ => kitAny_cons (kit_ty (r := false) (by decide +kernel)) (fun _ => kitAny_nil) (fun z => nomatch z)) (fun z => nomatch z), _, rfl, iteF ?_⟩⟩
        refine ⟨_, rfl, _, _, _, _, _, rfl, .ty _, .base (.int v), kit_ty (by decide +kernel), _, rfl, iteT ?_⟩
        refine ⟨_, rfl, _, _, _, _, _, rfl, .ty _, .base (.int v), kit_ty (r := false) (by decide +kernel), _, rfl, _, rfl, iteT ?_⟩
        refine ⟨_, rfl, _, rfl, rfl, ?_⟩
        rw [decide_eq_true rfl]
        exact q _ ((same_upd nt).trans (same_upd nt2))
      | list ds =>
        obtain ⟨a1, xs, rfl, h1, e1⟩ := dp_lst hx
        obtain ⟨a2, ys, rfl, h2, e2⟩ := dp_lst hy
        obtain ⟨hlen, hmem⟩ := ok_list hd
        refine ⟨_, rfl, _, _, _, _, _, rfl, .ty _, ty_lst h2, kit_ty (by decide +kernel), _, rfl, iteF ?_⟩
        refine ⟨_, rfl, (by decide : 2 ≤ sizeLine), fun t nt => ?_⟩
        have S := same_upd (o := .tup [V.ty "list", V.ty "tuple"]) nt
        have g1 := S.seq h1
        have g2 := S.seq h2
        refine ⟨_, t, _, _, _, _, rfl, upd_same, .cons (.ty _) (.cons (.ty _) .nil), ty_lst g2, kitAny_cons (r := true) (kit_ty (r := true) (by decide +kernel)) (fun z => nomatch z) (fun _ => rfl), _, rfl, iteT ?_⟩
        refine ⟨_, rfl, _, _, _, _, _, rfl, .ty _, ty_lst g1, kit_ty (r := true) (by decide +kernel), _, rfl, _, _, _, _, _, rfl, .ty _, ty_lst g2, kit_ty (r := true) (by decide +kernel), rfl, _, rfl, iteF ?_⟩
        refine ⟨_, rfl, _, _, _, _, _, rfl, .ty _, ty_lst g1, kit_ty (r := false) (by decide +kernel), _, rfl, _, _, _, _, _, rfl, .ty _, ty_lst g2, kit_ty (r := false) (by decide +kernel), rfl, _, rfl, iteF ?_⟩
        have hl : xs.length = ys.length := (dps_len e1).trans (dps_len e2).symm
        have hx9 : xs.length ≤ 1000 := by
          rw [dps_len e1]
          exact hlen
        refine ⟨_, rfl, _, _, rfl, (.inl g1), _, rfl, _, _, rfl, (.inl g2), rfl, _, congrArg V.bl (decide_eq_true (congrArg V.int (congrArg Int.ofNat hl))), iteT ?_⟩
        refine ⟨_, rfl, _, rfl, _, _, xs, ys, rfl, .inl ⟨g1, g2, fun L nL => lc_it (walk_zip (xs := xs) (ys := ys) (n := xs.length) (by omega)) (fun i H2 => Same H H2 ∧ H2 L = some (.lst ((List.replicate i true).map V.bl))) ⟨S.trans (same_upd nL), upd_same⟩ (fun i H2 _ p => ⟨Same.seq p.1 h1, Same.seq p.1 h2⟩) ?_ ?_⟩⟩
        · rintro i v H2 H3 hi ⟨s2, hL⟩ ⟨T, x, y, rfl, nT, rfl, ex, ey⟩
          refine ⟨T, _, rfl, SqT.of upd_same, rfl, x, [y], rfl, y, [], rfl, rfl, rfl, x, rfl, y, rfl, ?_⟩
          obtain ⟨D1, f1, k1⟩ := dps_get e1 ex
          obtain ⟨D2, f2, k2⟩ := dps_get e2 ey
          have eD : D1 = D2 := Option.some.inj (f1.symm.trans f2)
          subst eD
          have S3 := s2.trans (same_upd (o := .tup [x, y]) nT)
          refine ⟨x, y, D1, rfl, dp_same S3 _ _ k1, dp_same S3 _ _ k2, hmem _ (List.mem_of_getElem? f1), fun H4 s4 => ?_⟩
          have hL4 : H4 L = some (.lst ((List.replicate i true).map V.bl)) := s4 _ _ (same_upd nT _ _ hL)
          have nLH : H L = none := S.free nL
          refine ⟨_, hL4, ?_, Same.new_upd (S3.trans s4) nLH, ?_⟩
          · rw [List.length_map, List.length_replicate]
            exact small1000 (by omega)
          · rw [upd_same, rep_snoc]
        · rintro H2 ⟨s2, hL⟩
          refine ⟨L, List.replicate xs.length true, rfl, SqL.of hL, ?_⟩
          rw [all_true]
          exact q _ s2
      | tuple ds =>
        obtain ⟨a1, xs, rfl, h1, e1⟩ := dp_tup hx
        obtain ⟨a2, ys, rfl, h2, e2⟩ := dp_tup hy
        obtain ⟨hlen, hmem⟩ := ok_tuple hd
        refine ⟨_, rfl, _, _, _, _, _, rfl, .ty _, ty_tup h2, kit_ty (by decide +kernel), _, rfl, iteF ?_⟩
        refine ⟨_, rfl, (by decide : 2 ≤ sizeLine), fun t nt => ?_⟩
        have S := same_upd (o := .tup [V.ty "list", V.ty "tuple"]) nt
        have g1 := Same.tup S h1
        have g2 := Same.tup S h2
        refine ⟨_, t, _, _, _, _, rfl, upd_same, .cons (.ty _) (.cons (.ty _) .nil), ty_tup g2, kitAny_cons (r := true) (kit_ty (r := false) (by decide +kernel)) (fun _ => kitAny_cons (kit_ty (r := true) (by decide +kernel)) (fun z => nomatch z) (fun _ => rfl)) (fun z => nomatch z), _, rfl, iteT ?_⟩
        refine ⟨_, rfl, _, _, _, _, _, rfl, .ty _, ty_tup g1, kit_ty (r := false) (by decide +kernel), _, rfl, _, _, _, _, _, rfl, .ty _, ty_tup g2, kit_ty (r := false) (by decide +kernel), rfl, _, rfl, iteF ?_⟩
        refine ⟨_, rfl, _, _, _, _, _, rfl, .ty _, ty_tup g1, kit_ty (r := true) (by decide +kernel), _, rfl, _, _, _, _, _, rfl, .ty _, ty_tup g2, kit_ty (r := true) (by decide +kernel), rfl, _, rfl, iteF ?_⟩
        have hl : xs.length = ys.length := (dps_len e1).trans (dps_len e2).symm
        have hx9 : xs.length ≤ 1000 := by
          rw [dps_len e1]
          exact hlen
        refine ⟨_, rfl, _, _, rfl, (.inr g1), _, rfl, _, _, rfl, (.inr g2), rfl, _, congrArg V.bl (decide_eq_true (congrArg V.int (congrArg Int.ofNat hl))), iteT ?_⟩
        refine ⟨_, rfl, _, rfl, _, _, xs, ys, rfl, .inr ⟨g1, g2, fun L nL => lc_it (walk_zipT (xs := xs) (ys := ys) (n := xs.length) (by omega)) (fun i H2 => Same H H2 ∧ H2 L = some (.lst ((List.replicate i true).map V.bl))) ⟨S.trans (same_upd nL), upd_same⟩ (fun i H2 _ p => ⟨Same.tup p.1 h1, Same.tup p.1 h2⟩) ?_ ?_⟩⟩
        · rintro i v H2 H3 hi ⟨s2, hL⟩ ⟨T, x, y, rfl, nT, rfl, ex, ey⟩
          refine ⟨T, _, rfl, SqT.of upd_same, rfl, x, [y], rfl, y, [], rfl, rfl, rfl, x, rfl, y, rfl, ?_⟩
          obtain ⟨D1, f1, k1⟩ := dps_get e1 ex
          obtain ⟨D2, f2, k2⟩ := dps_get e2 ey
          have eD : D1 = D2 := Option.some.inj (f1.symm.trans f2)
          subst eD
          have S3 := s2.trans (same_upd (o := .tup [x, y]) nT)
          refine ⟨x, y, D1, rfl, dp_same S3 _ _ k1, dp_same S3 _ _ k2, hmem _ (List.mem_of_getElem? f1), fun H4 s4 => ?_⟩
          have hL4 : H4 L = some (.lst ((List.replicate i true).map V.bl)) := s4 _ _ (same_upd nT _ _ hL)
          have nLH : H L = none := S.free nL
          refine ⟨_, hL4, ?_, Same.new_upd (S3.trans s4) nLH, ?_⟩
          · rw [List.length_map, List.length_replicate]
            exact small1000 (by omega)
          · rw [upd_same, rep_snoc]
        · rintro H2 ⟨s2, hL⟩
          refine ⟨L, List.replicate xs.length true, rfl, SqL.of hL, ?_⟩
          rw [all_true]
          exact q _ s2
end
/-! ### the program's rooms -/
abbrev sRoomsOf : Stmt := topS 10
abbrev sRowOf : Stmt := topS 11
theorem scRoomsOf : FnScope ["row", "first", "weights", "pane", "share"] ["row", "first"] (defScope sRoomsOf) := ⟨rfl, rfl, rfl, by decide +kernel, rfl, by decide +kernel, by decide +kernel⟩
theorem scRowOf : FnScope ["rooms", "wall", "panes", "one", "other"] ["rooms", "wall"] (defScope sRowOf) := ⟨rfl, rfl, rfl, by decide +kernel, rfl, by decide +kernel, by decide +kernel⟩
/-- the rooms' weights are told, as a new list -/
def spRoomsOf (K : PySem.W.Frag) : Sp := fun vs H Q _ => ∃ (r v : V) (qs : List Rat) (x : Int) (q0 : Rat) (b c : Nat), vs = [r, v] ∧ Dp K H r (rowD qs x) ∧ Dp K H v (frD q0) ∧ 0 < q0 ∧ Sz b q0 ∧ (∀ q ∈ qs, PaneZ c q) ∧ qs.length ≤ 100 ∧ b + (2 * c + 4) * (qs.length + 1) < 9000 ∧
  ∀ (L : Addr) (us : List V) (H' : Hp), Same H H' → H L = none → H' L = some (.lst us) → DpAll K H' us (frs (roomsQ q0 qs)) → Q (.ref L) H'
def spRowOf (K : PySem.W.Frag) : Sp := fun vs H Q _ => ∃ (r : V) (ws : List Rat) (x : Int) (b : Nat), vs = [r, .int x] ∧ (Dp K H r (.list (frs ws)) ∨ Dp K H r (.tuple (frs ws))) ∧ (∀ q ∈ ws, 0 < q ∧ Sz b q) ∧ ws.length ≤ 100 ∧ 4 * b + 2 < 9000 ∧
  ∀ (v : V) (H' : Hp), Same H H' → Dp K H' v (rowD (panesQ ws) x) → Q v H'
theorem frs_len (qs : List Rat) : (frs qs).length = qs.length := List.length_map ..
theorem frs_get {qs : List Rat} {i : Nat} {d : PyData} (h : (frs qs)[i]? = some d) : ∃ q, qs[i]? = some q ∧ d = frD q := by
  unfold frs at h
  rw [List.getElem?_map] at h
  cases e : qs[i]? with
  | none =>
    rw [e] at h
    cases h
  | some q =>
    rw [e] at h
    exact ⟨q, rfl, (Option.some.inj h).symm⟩
section
variable {P : Program} {w : World} {K : PySem.W.Frag} {mg : Str → Option Value} {base : Heap}
theorem ok_roomsOf {f fO fM fP fT aO : Addr} {fd fdO fdM fdP fdT : FuncData} {kws : List (Str × V)} {k : Nat} (F : FunD K "rooms_of" "rooms_of" (defArgs sRoomsOf) (defBody sRoomsOf) (defScope sRoomsOf) [] kws f fd)
    (kO : PySem.W.keepIn K (.ref fO) = true) (GO : FnOk P w K mg base CX0 k fO fdO ["one", "other"] (spTwo K (fun q1 q2 => q1 / q2) (fun r => 0 < r))) (bO : Binds K fdO ["one", "other"] []) (gO : mg "over" = some (.ref fO))
    (kM : PySem.W.keepIn K (.ref fM) = true) (GM : FnOk P w K mg base CX0 k fM fdM ["one", "other"] (spTwo K (fun q1 q2 => q1 - q2) (fun r => True))) (bM : Binds K fdM ["one", "other"] []) (gM : mg "minus" = some (.ref fM))
    (kP : PySem.W.keepIn K (.ref fP) = true) (GP : FnOk P w K mg base CX0 k fP fdP ["one", "other"] (spTwo K (fun q1 q2 => q1 + q2) (fun r => True))) (bP : Binds K fdP ["one", "other"] []) (gP : mg "plus" = some (.ref fP))
    (kT : PySem.W.keepIn K (.ref fT) = true) (GT : FnOk P w K mg base CX0 k fT fdT ["one", "other"] (spTwo K (fun q1 q2 => q1 * q2) (fun r => True))) (bT : Binds K fdT ["one", "other"] []) (gT : mg "times" = some (.ref fT))
    (g1 : mg "ONE" = some (.ref aO)) (t1 : ∀ H : Hp, Dp K H (.ref aO) (frD 1)) : FnOk P w K mg base CX0 (k + 1) f fd ["row", "first"] (spRoomsOf K) := by
  refine F.ok scRoomsOf (fun vs H Q E h => ?_) (fun cdv A outer s H vs Q E hr h => ?_)
  · obtain ⟨r, v, qs, x, q0, b, c, rfl, _⟩ := h
    rfl
  · obtain ⟨r, v, qs, x, q0, b, c, rfl, hR, hV, hq0, hz0, hp, hlen, hbits, q⟩ := h
    obtain ⟨a, a2, xs, rfl, ha, ha2, hxs⟩ := dp_row hR
    refine ⟨_, PSs.nox (pss_cons (ps_set (i := 2) scRoomsOf.nd rfl (.inl rfl) (pe_lst (pa_cons (pv 1) pa_nil)))
      (pss_cons (ps_for PassesOwn.never rfl (pi_tup (pe_ix ix_tup (pv 0) pe_int (fun _ _ => rfl))) (pg_name (i := 3) scRoomsOf.nd rfl (.inl rfl))
        (pss_cons (ps_set (i := 4) scRoomsOf.nd rfl (.inl rfl) (pe_call GO hr (by rfl) gO kO bO .nil pass0 (pa_cons (pe_call GM hr (by rfl) gM kM bM .nil pass0 (pa_cons (pe_glob (v := .ref aO) (by rfl) g1 rfl) (pa_cons (pv 3) pa_nil))) (pa_cons (pe_call GP hr (by rfl) gP kP bP .nil pass0 (pa_cons (pe_glob (v := .ref aO) (by rfl) g1 rfl) (pa_cons (pv 3) pa_nil))) pa_nil))))
        (pss_one (ps_expr (pe_bm PySem.F.plainAttrs_list PySem.F.slot_list_append PySem.F.type_list_append mt_append (pv 2) (pa_cons (pe_call GT hr (by rfl) gT kT bT .nil pass0 (pa_cons (pe_ix ix_list (pv 2) (pe_un un_neg pe_int) (fun _ _ => rfl)) (pa_cons (pv 4) pa_nil))) pa_nil))))))
      (pss_one (ps_ret (pv 2))))), ?_⟩
    refine ⟨v, rfl, (by decide : 1 ≤ sizeLine), fun L nL => ?_⟩
    have S0 := same_upd (o := .lst [v]) nL
    refine ⟨.ref a, rfl, a, _, 0, .ref a2, rfl, rfl, Same.tup S0 ha, atI_nat (j := 0) rfl, a2, rfl, ⟨_, Same.tup S0 ha2⟩, ?_⟩
    refine for_it (walk_tup (xs := xs)) (fun i σ H2 => ∃ (us : List V) (u : V) (e1 e2 : Option V) (ls : List Rat), σ = [some (.ref a), some v, some (.ref L), e1, e2] ∧ Same H H2 ∧ H2 L = some (.lst (us ++ [u])) ∧ DpAll K H2 us (frs ls) ∧ Dp K H2 u (frD (lastQ q0 (qs.take i))) ∧ ls ++ [lastQ q0 (qs.take i)] = roomsQ q0 (qs.take i))
      ⟨[], v, none, none, [], rfl, S0, upd_same, .nil, dp_same S0 _ _ hV, rfl⟩ (fun i σ H2 _ hW => ?_) ?_ ?_
    · obtain ⟨us, u, e1, e2, ls, rfl, s2, _⟩ := hW
      exact Same.tup s2 ha2
    · rintro i y σ H2 H2' hi ⟨us, u, e1, e2, ls, rfl, s2, hL, dU, du, hls⟩ ⟨rfl, hy⟩
      obtain ⟨d, hd, dy⟩ := dps_get hxs hy
      obtain ⟨r, hr1, rfl⟩ := frs_get hd
      have hiq : i < qs.length := by
        rw [dps_len hxs, frs_len] at hi
        exact hi
      have pr := hp r (List.mem_of_getElem? hr1)
      have tk : qs.take (i + 1) = qs.take i ++ [r] := by rw [List.take_add_one, hr1]; rfl
      have lk := lastQ_ok (c := c) (qs.take i) q0 b hq0 hz0 (fun z hz => hp z (List.mem_of_mem_take hz))
      have ltk : (qs.take i).length = i := by rw [List.length_take]; omega
      rw [ltk] at lk
      have hmul : (2 * c + 4) * (i + 1) ≤ (2 * c + 4) * (qs.length + 1) := Nat.mul_le_mul_left _ (by omega)
      have hmul2 : (2 * c + 4) * (i + 1) = (2 * c + 4) * i + (2 * c + 4) := by rw [Nat.mul_add, Nat.mul_one]
      refine ⟨_, rfl, ⟨.ref aO, y, 1, r, 1, c, rfl, t1 _, dp_same s2 _ _ dy, sz_one, pr.sz, by omega, trivial, fun m H3 s3 dm => ?_⟩⟩
      refine ⟨_, rfl, ⟨.ref aO, y, 1, r, 1, c, rfl, t1 _, dp_same (s2.trans s3) _ _ dy, sz_one, pr.sz, by omega, trivial, fun n H4 s4 dn => ?_⟩⟩
      refine ⟨m, n, _, _, c + 2, c + 2, rfl, dp_same s4 _ _ dm, dn, pr.sm, pr.sp, by omega, pr.p1, fun z H5 s5 dz => ?_⟩
      have S5 := s2.trans (s3.trans (s4.trans s5))
      have hL5 : H5 L = some (.lst (us ++ [u])) := (s3.trans (s4.trans s5)) _ _ hL
      refine ⟨.ref L, rfl, .inl ⟨rfl, _, SqL.of hL5⟩, .ref L, rfl, 1, rfl, L, _, -1, u, rfl, rfl, SqL.of hL5, atI_last _ _, z, rfl, ⟨u, z, _, shareQ r, b + (2 * c + 4) * i, 2 * c + 4, rfl, dp_same (s3.trans (s4.trans s5)) _ _ du, dz, lk.2, pr.share.2, by omega, trivial, fun t H6 s6 dt => ?_⟩⟩
      have hL6 : H6 L = some (.lst (us ++ [u])) := s6 _ _ hL5
      refine ⟨L, _, t, rfl, rfl, hL6, ?_, us ++ [u], t, some y, some z, ls ++ [lastQ q0 (qs.take i)], rfl, ?_, upd_same, ?_, ?_, ?_⟩
      · rw [List.length_append, dps_len dU, frs_len]
        have := congrArg List.length hls
        rw [List.length_append, roomsQ_len, ltk] at this
        exact small1000 (by simp at this ⊢; omega)
      · exact Same.new_upd (S5.trans s6) nL
      · exact dps_put hL6 (noL_frs _) (dps_snoc (dps_same (s3.trans (s4.trans (s5.trans s6))) _ _ dU) (dp_same (s3.trans (s4.trans (s5.trans s6))) _ _ du))
      · rw [tk, lastQ_snoc]
        exact dp_put hL6 (noL_fr _) dt
      · rw [tk, lastQ_snoc, roomsQ_snoc, hls]
    · rintro σ H2 ⟨us, u, e1, e2, ls, rfl, s2, hL, dU, du, hls⟩
      have e : xs.length = qs.length := by rw [dps_len hxs, frs_len]
      rw [e, List.take_length] at du hls
      refine ⟨_, rfl, q L (us ++ [u]) H2 s2 nL hL ?_⟩
      rw [← hls]
      exact dps_snoc dU du
theorem cut_one (xs : List V) : cutV xs (some 1) none = xs.drop 1 := by
  unfold cutV
  rw [show HT.sIx xs.length 0 (some 1) = min 1 xs.length from HT.sIx_nat xs.length 0 1, HT.sIx_none]
  cases xs with
  | nil => rfl
  | cons x r =>
    rw [show min 1 (x :: r).length = 1 by
      rw [List.length_cons]
      omega]
    show (List.take ((x :: r).length - 1) r) = r
    rw [List.length_cons, Nat.add_sub_cancel]
    exact List.take_length
end
section
variable {P : Program} {w : World} {K : PySem.W.Frag} {mg : Str → Option Value} {base : Heap}
theorem frs_at {qs : List Rat} {i : Nat} {q : Rat} (h : qs[i]? = some q) : (frs qs)[i]? = some (frD q) := by
  unfold frs
  rw [List.getElem?_map, h]
  rfl
theorem panes_take {ws : List Rat} {i : Nat} {x y : Rat} (h1 : ws[i]? = some x) (h2 : ws[i + 1]? = some y) : (panesQ ws).take (i + 1) = (panesQ ws).take i ++ [(x - y) / (x + y)] := by
  rw [List.take_add_one, panesQ_get ws i x y h1 h2]
  rfl
theorem ok_rowOf {f fO fM fP : Addr} {fd fdO fdM fdP : FuncData} {kws : List (Str × V)} {k : Nat} (F : FunD K "row_of" "row_of" (defArgs sRowOf) (defBody sRowOf) (defScope sRowOf) [] kws f fd)
    (kO : PySem.W.keepIn K (.ref fO) = true) (GO : FnOk P w K mg base CX0 k fO fdO ["one", "other"] (spTwo K (fun q1 q2 => q1 / q2) (fun r => 0 < r))) (bO : Binds K fdO ["one", "other"] []) (gO : mg "over" = some (.ref fO))
    (kM : PySem.W.keepIn K (.ref fM) = true) (GM : FnOk P w K mg base CX0 k fM fdM ["one", "other"] (spTwo K (fun q1 q2 => q1 - q2) (fun r => True))) (bM : Binds K fdM ["one", "other"] []) (gM : mg "minus" = some (.ref fM))
    (kP : PySem.W.keepIn K (.ref fP) = true) (GP : FnOk P w K mg base CX0 k fP fdP ["one", "other"] (spTwo K (fun q1 q2 => q1 + q2) (fun r => True))) (bP : Binds K fdP ["one", "other"] []) (gP : mg "plus" = some (.ref fP))
    (mz : mg "zip" = none) (mt : mg "tuple" = none) : FnOk P w K mg base CX0 (k + 1) f fd ["rooms", "wall"] (spRowOf K) := by
  refine F.ok scRowOf (fun vs H Q E h => ?_) (fun cdv A outer s H vs Q E hr h => ?_)
  · obtain ⟨r, ws, x, b, rfl, _⟩ := h
    rfl
  · obtain ⟨r, ws, x, b, rfl, hR, hp, hlen, hbits, q⟩ := h
    -- one turn of the comprehension, whatever is walked
    have turn : ∀ (B : Hp) (i : Nat) (L : Addr) (H2 : Hp) (vs : List V) (u1 u2 : V) (T : Addr) (q1 q2 : Rat) (Qd : V → Hp → Prop), i < 100 → B L = none → Same B H2 → H2 L = some (.lst vs) → DpAll K H2 vs (frs ((panesQ ws).take i)) → vs.length = i → H2 T = none → ws[i]? = some q1 → ws[i + 1]? = some q2 → Dp K B u1 (frD q1) → Dp K B u2 (frD q2) →
        (∀ (v : V) (H3 : Hp), H3 L = some (.lst vs) → DpAll K (upd H3 L (.lst (vs ++ [v]))) (vs ++ [v]) (frs ((panesQ ws).take (i + 1))) → Same B (upd H3 L (.lst (vs ++ [v]))) → Qd v H3) →
        tCall (spTwo K (fun q1 q2 => q1 / q2) (fun r => 0 < r)) [] E0 (tCons (tCall (spTwo K (fun q1 q2 => q1 - q2) (fun r => True)) [] E0 (tCons (tVar 3) (tCons (tVar 4) tNil))) (tCons (tCall (spTwo K (fun q1 q2 => q1 + q2) (fun r => True)) [] E0 (tCons (tVar 3) (tCons (tVar 4) tNil))) tNil))
          [some r, some (.int x), none, some u1, some u2] (upd H2 T (.tup [u1, u2])) Qd := by
      intro B i L H2 vs u1 u2 T q1 q2 Qd hi nL s2 hL dD hl nT e1 e2 d1 d2 done
      have S3 := s2.trans (same_upd (o := .tup [u1, u2]) nT)
      have p1 := hp q1 (List.mem_of_getElem? e1)
      have p2 := hp q2 (List.mem_of_getElem? e2)
      have pos : 0 < q1 + q2 := by
        have a1 := p1.1
        have a2 := p2.1
        grind
      refine ⟨u1, rfl, u2, rfl, ⟨u1, u2, q1, q2, b, b, rfl, dp_same S3 _ _ d1, dp_same S3 _ _ d2, p1.2, p2.2, by omega, trivial, fun m H4 s4 dm => ?_⟩⟩
      refine ⟨u1, rfl, u2, rfl, ⟨u1, u2, q1, q2, b, b, rfl, dp_same (S3.trans s4) _ _ d1, dp_same (S3.trans s4) _ _ d2, p1.2, p2.2, by omega, trivial, fun n H5 s5 dn => ?_⟩⟩
      refine ⟨m, n, _, _, b + b + 1, b + b + 1, rfl, dp_same s5 _ _ dm, dn, sz_sub p1.2 p2.2, sz_add p1.2 p2.2, by omega, pos, fun v H6 s6 dv => ?_⟩
      have S6 := S3.trans (s4.trans (s5.trans s6))
      have t6 := (same_upd (o := .tup [u1, u2]) nT).trans (s4.trans (s5.trans s6))
      have hL6 : H6 L = some (.lst vs) := t6 _ _ hL
      refine done v H6 hL6 ?_ (Same.new_upd S6 nL)
      rw [panes_take e1 e2]
      exact dps_put hL6 (noL_frs _) (dps_snoc (dps_same t6 _ _ dD) dv)
    rcases hR with hR | hR
    · obtain ⟨a, us, rfl, ha, hu⟩ := dp_lst hR
      have hul : us.length = ws.length := by rw [dps_len hu, frs_len]
      refine ⟨_, PSs.nox (pss_cons (ps_setLc (i := 2) (own := [("one", 3), ("other", 4)]) (g := gTup K 2 (gCons (gName 3) (gCons (gName 4) gNil))) (tt := tYes) rfl scRowOf.nd rfl rfl (sw_true rfl rfl rfl (by decide +kernel))
          (RZ.pi_zipA (by rfl) mz (pa_cons (pv 0) (pa_cons (pe_slice sl_list (pv 0) (po_some pe_int) po_none) pa_nil)))
          (blkOk_by (N := ["rooms", "wall", "panes", "one", "other"]) (sc := defScope sRowOf) (by decide +kernel))
          (fun _ _ _ _ _ => pg_tup rfl (pgs_cons (pg_name (i := 3) scRowOf.nd rfl (.inl rfl)) (pgs_cons (pg_name (i := 4) scRowOf.nd rfl (.inl rfl)) pgs_nil))) (fun _ _ _ _ _ => pts_nil)
          (fun _ _ _ _ _ => pe_call GO hr (by rfl) gO kO bO .nil pass0 (pa_cons (pe_call GM hr (by rfl) gM kM bM .nil pass0 (pa_cons (pv 3) (pa_cons (pv 4) pa_nil))) (pa_cons (pe_call GP hr (by rfl) gP kP bP .nil pass0 (pa_cons (pv 3) (pa_cons (pv 4) pa_nil))) pa_nil))))
        (pss_one (ps_ret (pe_tup (pa_cons (pe_callTy call_tuple_of (by rfl) mt PyProof.Rows.boot_tuple (pa_cons (pv 2) pa_nil)) (pa_cons (pv 1) pa_nil)))))), ?_⟩
      refine ⟨.ref a, rfl, .ref a, rfl, 1, rfl, a, us, rfl, ha, fun c nc => ?_⟩
      rw [cut_one]
      have S1 := same_upd (o := .lst (us.drop 1)) nc
      refine ⟨a, c, us, us.drop 1, rfl, .inl ⟨Same.seq S1 ha, (SqL.of upd_same), fun L nL => lc_it (walk_zip (xs := us) (ys := us.drop 1) (n := ws.length - 1) (by rw [List.length_drop]; omega)) (fun i H2 => ∃ vs : List V, Same _ H2 ∧ H2 L = some (.lst vs) ∧ DpAll K H2 vs (frs ((panesQ ws).take i)) ∧ vs.length = i) ⟨[], same_upd nL, upd_same, .nil, rfl⟩ ?_ ?_ ?_⟩⟩
      · rintro i H2 _ ⟨vs, s2, _⟩
        exact ⟨Same.seq s2 (Same.seq S1 ha), Same.seq s2 (SqL.of upd_same)⟩
      · rintro i y H2 H2' hi ⟨vs, s2, hL, dD, hl⟩ ⟨T, u1, u2, rfl, nT, rfl, e1, e2⟩
        replace e2 : (us.drop 1)[i]? = some u2 := e2
        rw [List.getElem?_drop, Nat.add_comm 1 i] at e2
        obtain ⟨D1, f1, k1⟩ := dps_get hu e1
        obtain ⟨q1, g1, rfl⟩ := frs_get f1
        obtain ⟨D2, f2, k2⟩ := dps_get hu e2
        obtain ⟨q2, g2, rfl⟩ := frs_get f2
        refine ⟨T, _, rfl, SqT.of upd_same, rfl, u1, [u2], rfl, u2, [], rfl, rfl, rfl, ?_⟩
        refine turn _ i L H2 vs u1 u2 T q1 q2 _ (by omega) nL s2 hL dD hl nT g1 g2 (dp_same S1 _ _ k1) (dp_same S1 _ _ k2) (fun v H3 hL3 dv sv => ?_)
        exact ⟨vs, hL3, small1000 (by omega), vs ++ [v], sv, upd_same, dv, by rw [List.length_append, hl]; rfl⟩
      · rintro H2 ⟨vs, s2, hL, dD, hl⟩
        rw [show (panesQ ws).take (ws.length - 1) = panesQ ws from List.take_of_length_le (by rw [panesQ_len]; exact Nat.le_refl _)] at dD
        refine ⟨_, rfl, L, vs, rfl, .inl ⟨SqL.of hL, fun t nt => ⟨_, rfl, (by decide : 2 ≤ sizeLine), fun t2 nt2 => ?_⟩⟩⟩
        have St := same_upd (o := .tup vs) nt
        have St2 := same_upd (o := .tup [.ref t, .int x]) nt2
        refine q _ _ (Same.trans S1 (s2.trans (St.trans St2))) (dp_row_mk (SqT.of upd_same) (Same.tup St2 (SqT.of upd_same)) (dps_same (St.trans St2) _ _ dD))
    · obtain ⟨a, us, rfl, ha, hu⟩ := dp_tup hR
      have hul : us.length = ws.length := by rw [dps_len hu, frs_len]
      refine ⟨_, PSs.nox (pss_cons (ps_setLc (i := 2) (own := [("one", 3), ("other", 4)]) (g := gTup K 2 (gCons (gName 3) (gCons (gName 4) gNil))) (tt := tYes) rfl scRowOf.nd rfl rfl (sw_true rfl rfl rfl (by decide +kernel))
          (RZ.pi_zipA (by rfl) mz (pa_cons (pv 0) (pa_cons (pe_slice sl_tupA (pv 0) (po_some pe_int) po_none) pa_nil)))
          (blkOk_by (N := ["rooms", "wall", "panes", "one", "other"]) (sc := defScope sRowOf) (by decide +kernel))
          (fun _ _ _ _ _ => pg_tup rfl (pgs_cons (pg_name (i := 3) scRowOf.nd rfl (.inl rfl)) (pgs_cons (pg_name (i := 4) scRowOf.nd rfl (.inl rfl)) pgs_nil))) (fun _ _ _ _ _ => pts_nil)
          (fun _ _ _ _ _ => pe_call GO hr (by rfl) gO kO bO .nil pass0 (pa_cons (pe_call GM hr (by rfl) gM kM bM .nil pass0 (pa_cons (pv 3) (pa_cons (pv 4) pa_nil))) (pa_cons (pe_call GP hr (by rfl) gP kP bP .nil pass0 (pa_cons (pv 3) (pa_cons (pv 4) pa_nil))) pa_nil))))
        (pss_one (ps_ret (pe_tup (pa_cons (pe_callTy call_tuple_of (by rfl) mt PyProof.Rows.boot_tuple (pa_cons (pv 2) pa_nil)) (pa_cons (pv 1) pa_nil)))))), ?_⟩
      refine ⟨.ref a, rfl, .ref a, rfl, 1, rfl, a, us, rfl, ha, fun hw => ?_, fun hw c nc => ?_⟩
      · have h0 : us = [] := by
          have e := hw.1
          rw [show HT.sIx us.length 0 (some 1) = min 1 us.length from HT.sIx_nat us.length 0 1] at e
          exact List.eq_nil_of_length_eq_zero (by omega)
        have hd : SqT K H a (us.drop 1) := by
          rw [h0]
          rw [h0] at ha
          exact ha
        have S1 := Same.refl H
        refine ⟨a, a, us, us.drop 1, rfl, .inr ⟨Same.tup S1 ha, hd, fun L nL => lc_it (walk_zipT (xs := us) (ys := us.drop 1) (n := ws.length - 1) (by rw [List.length_drop]; omega)) (fun i H2 => ∃ vs : List V, Same _ H2 ∧ H2 L = some (.lst vs) ∧ DpAll K H2 vs (frs ((panesQ ws).take i)) ∧ vs.length = i) ⟨[], same_upd nL, upd_same, .nil, rfl⟩ ?_ ?_ ?_⟩⟩
        · rintro i H2 _ ⟨vs, s2, _⟩
          exact ⟨Same.tup s2 (Same.tup S1 ha), Same.tup s2 hd⟩
        · rintro i y H2 H2' hi ⟨vs, s2, hL, dD, hl⟩ ⟨T, u1, u2, rfl, nT, rfl, e1, e2⟩
          replace e2 : (us.drop 1)[i]? = some u2 := e2
          rw [List.getElem?_drop, Nat.add_comm 1 i] at e2
          obtain ⟨D1, f1, k1⟩ := dps_get hu e1
          obtain ⟨q1, g1, rfl⟩ := frs_get f1
          obtain ⟨D2, f2, k2⟩ := dps_get hu e2
          obtain ⟨q2, g2, rfl⟩ := frs_get f2
          refine ⟨T, _, rfl, SqT.of upd_same, rfl, u1, [u2], rfl, u2, [], rfl, rfl, rfl, ?_⟩
          refine turn _ i L H2 vs u1 u2 T q1 q2 _ (by omega) nL s2 hL dD hl nT g1 g2 (dp_same S1 _ _ k1) (dp_same S1 _ _ k2) (fun v H3 hL3 dv sv => ?_)
          exact ⟨vs, hL3, small1000 (by omega), vs ++ [v], sv, upd_same, dv, by rw [List.length_append, hl]; rfl⟩
        · rintro H2 ⟨vs, s2, hL, dD, hl⟩
          rw [show (panesQ ws).take (ws.length - 1) = panesQ ws from List.take_of_length_le (by rw [panesQ_len]; exact Nat.le_refl _)] at dD
          refine ⟨_, rfl, L, vs, rfl, .inl ⟨SqL.of hL, fun t nt => ⟨_, rfl, (by decide : 2 ≤ sizeLine), fun t2 nt2 => ?_⟩⟩⟩
          have St := same_upd (o := .tup vs) nt
          have St2 := same_upd (o := .tup [.ref t, .int x]) nt2
          refine q _ _ (Same.trans S1 (s2.trans (St.trans St2))) (dp_row_mk (SqT.of upd_same) (Same.tup St2 (SqT.of upd_same)) (dps_same (St.trans St2) _ _ dD))
      · rw [cut_one]
        have S1 := same_upd (o := .tup (us.drop 1)) nc
        refine ⟨a, c, us, us.drop 1, rfl, .inr ⟨Same.tup S1 ha, (SqT.of upd_same), fun L nL => lc_it (walk_zipT (xs := us) (ys := us.drop 1) (n := ws.length - 1) (by rw [List.length_drop]; omega)) (fun i H2 => ∃ vs : List V, Same _ H2 ∧ H2 L = some (.lst vs) ∧ DpAll K H2 vs (frs ((panesQ ws).take i)) ∧ vs.length = i) ⟨[], same_upd nL, upd_same, .nil, rfl⟩ ?_ ?_ ?_⟩⟩
        · rintro i H2 _ ⟨vs, s2, _⟩
          exact ⟨Same.tup s2 (Same.tup S1 ha), Same.tup s2 (SqT.of upd_same)⟩
        · rintro i y H2 H2' hi ⟨vs, s2, hL, dD, hl⟩ ⟨T, u1, u2, rfl, nT, rfl, e1, e2⟩
          replace e2 : (us.drop 1)[i]? = some u2 := e2
          rw [List.getElem?_drop, Nat.add_comm 1 i] at e2
          obtain ⟨D1, f1, k1⟩ := dps_get hu e1
          obtain ⟨q1, g1, rfl⟩ := frs_get f1
          obtain ⟨D2, f2, k2⟩ := dps_get hu e2
          obtain ⟨q2, g2, rfl⟩ := frs_get f2
          refine ⟨T, _, rfl, SqT.of upd_same, rfl, u1, [u2], rfl, u2, [], rfl, rfl, rfl, ?_⟩
          refine turn _ i L H2 vs u1 u2 T q1 q2 _ (by omega) nL s2 hL dD hl nT g1 g2 (dp_same S1 _ _ k1) (dp_same S1 _ _ k2) (fun v H3 hL3 dv sv => ?_)
          exact ⟨vs, hL3, small1000 (by omega), vs ++ [v], sv, upd_same, dv, by rw [List.length_append, hl]; rfl⟩
        · rintro H2 ⟨vs, s2, hL, dD, hl⟩
          rw [show (panesQ ws).take (ws.length - 1) = panesQ ws from List.take_of_length_le (by rw [panesQ_len]; exact Nat.le_refl _)] at dD
          refine ⟨_, rfl, L, vs, rfl, .inl ⟨SqL.of hL, fun t nt => ⟨_, rfl, (by decide : 2 ≤ sizeLine), fun t2 nt2 => ?_⟩⟩⟩
          have St := same_upd (o := .tup vs) nt
          have St2 := same_upd (o := .tup [.ref t, .int x]) nt2
          refine q _ _ (Same.trans S1 (s2.trans (St.trans St2))) (dp_row_mk (SqT.of upd_same) (Same.tup St2 (SqT.of upd_same)) (dps_same (St.trans St2) _ _ dD))
end
/-! ### drawn weights -/
abbrev sWeight : Stmt := topS 31
theorem scWeight : FnScope ["_law_box_here"] ["_law_box_here"] (defScope sWeight) := ⟨rfl, rfl, rfl, by decide +kernel, rfl, by decide +kernel, by decide +kernel⟩
/-- a weight of at most b bits -/
structure WtQ (b : Nat) (q : Rat) : Prop where
  pos : 0 < q
  sz : Sz b q
theorem wt_fr {t u : Int} {b : Nat} (ht : 0 < t) (hu : 0 < u) (h1 : t.natAbs < 2 ^ b) (h2 : u.natAbs < 2 ^ b) : WtQ b (Rat.divInt t u) := by
  refine ⟨?_, sz_fr hu h1 h2⟩
  have hq : (0 : Rat) < (u : Rat) := Rat.intCast_pos.mpr hu
  rw [Rat.divInt_eq_div, Rat.lt_div_iff hq, Rat.zero_mul]
  exact Rat.intCast_pos.mpr ht
def spWeight (K : PySem.W.Frag) : Sp := fun vs H Q _ => ∃ (p : Addr) (n : Nat), vs = [.ref p] ∧ Bx H p n ∧ n < 900000 ∧
  ∀ (v : V) (H' : Hp) (q : Rat), WtQ 4 q → Chg p H H' → Bx H' p (n + 2) → Dp K H' v (frD q) → Q v H'
section
variable {P : Program} {w : World} {K : PySem.W.Frag} {mg : Str → Option Value} {base : Heap}
theorem ok_weight {f fT fC : Addr} {fd fdT fdC : FuncData} {k : Nat} (F : Fun K "_law_weight" "_law_weight" sWeight f fd)
    (kT : PySem.W.keepIn K (.ref fT) = true) (GT : FnOk P w K mg base CX0 k fT fdT ["_law_box_here", "_law_size"] spTake) (bT : Binds K fdT ["_law_box_here", "_law_size"] []) (gT : mg "_law_take" = some (.ref fT))
    (kC : PySem.W.keepIn K (.ref fC) = true) (GC : FnOk P w K mg base CX0 k fC fdC ["_law_top", "_law_under"] (spFrac K)) (bC : Binds K fdC ["_law_top", "_law_under"] []) (gC : mg "_law_frac" = some (.ref fC)) :
    FnOk P w K mg base CX0 (k + 1) f fd ["_law_box_here"] (spWeight K) := by
  refine F.ok scWeight (fun vs H Q E h => ?_) (fun cdv A outer s H vs Q E hr h => ?_)
  · obtain ⟨p, n, rfl, _⟩ := h
    rfl
  · obtain ⟨p, n, rfl, hb, hn, q⟩ := h
    refine ⟨_, pss_one (ps_ret (pe_call GC hr (by rfl) gC kC bC .nil pass0 (pa_cons (pe_op op_add pe_int (pe_call GT hr (by rfl) gT kT bT .nil pass0 (pa_cons (pv 0) (pa_cons pe_int pa_nil)))) (pa_cons (pe_op op_add pe_int (pe_call GT hr (by rfl) gT kT bT .nil pass0 (pa_cons (pv 0) (pa_cons pe_int pa_nil)))) pa_nil)))), ?_⟩
    refine ⟨.ref p, rfl, p, 12, n, rfl, hb, by omega, by decide, by decide, fun r H1 h0 h1 c1 b1 => ?_⟩
    refine ⟨_, _, rfl, rfl, .ref p, rfl, p, 12, n + 1, rfl, b1, by omega, by decide, by decide, fun r2 H2 h20 h21 c2 b2 => ?_⟩
    refine ⟨_, _, rfl, rfl, _, _, 4, rfl, by omega, by omega, by omega, by decide, by decide, fun v H3 s3 d3 => ?_⟩
    exact q v H3 _ (wt_fr (by omega) (by omega) (by omega) (by omega)) (c1.trans (c2.trans (Chg.of_same s3))) (b2.same s3) d3
end
/-! ### rows trimmed, turned about, joined -/
abbrev s_trimmed : Stmt := topS 15
theorem sc_trimmed : FnScope ["row", "panes", "wall", "end"] ["row"] (defScope s_trimmed) := ⟨rfl, rfl, rfl, by decide +kernel, rfl, by decide +kernel, by decide +kernel⟩
abbrev s_mirrored : Stmt := topS 16
theorem sc_mirrored : FnScope ["row", "panes", "wall", "pane"] ["row"] (defScope s_mirrored) := ⟨rfl, rfl, rfl, by decide +kernel, rfl, by decide +kernel, by decide +kernel⟩
abbrev s_joined : Stmt := topS 17
theorem sc_joined : FnScope ["one", "other"] ["one", "other"] (defScope s_joined) := ⟨rfl, rfl, rfl, by decide +kernel, rfl, by decide +kernel, by decide +kernel⟩
structure Frees (mg : Str → Option Value) : Prop where
  mlen : mg "len" = none
  mtuple : mg "tuple" = none
  mreversed : mg "reversed" = none
  mrange : mg "range" = none
  mlist : mg "list" = none
  mmin : mg "min" = none
def spTrim (K : PySem.W.Frag) : Sp := fun vs H Q _ => ∃ (r : V) (qs : List Rat) (x : Int), vs = [r] ∧ Dp K H r (rowD qs x) ∧ ∀ (v : V) (H' : Hp), Same H H' → Dp K H' v (rowD (trimR qs x) x) → Q v H'
def spMir (K : PySem.W.Frag) : Sp := fun vs H Q _ => ∃ (r : V) (qs : List Rat) (c : Nat), vs = [r] ∧ Dp K H r (rowD qs 0) ∧ (∀ q ∈ qs, Sz c q) ∧ c < 4000 ∧ qs.length ≤ 100 ∧ ∀ (v : V) (H' : Hp), Same H H' → Dp K H' v (rowD (mirQ qs) 0) → Q v H'
def spJoin (K : PySem.W.Frag) : Sp := fun vs H Q _ => ∃ (r1 r2 : V) (q1 q2 : List Rat) (x : Int), vs = [r1, r2] ∧ Dp K H r1 (rowD q1 0) ∧ Dp K H r2 (rowD q2 x) ∧ q1.length + q2.length ≤ 1000 ∧ ∀ (v : V) (H' : Hp), Same H H' → Dp K H' v (rowD (q1 ++ q2) x) → Q v H'
theorem cut_to (xs : List V) (m : Nat) (h : m ≤ xs.length) : cutV xs none (some (m : Int)) = xs.take m := by
  unfold cutV
  rw [HT.sIx_none, HT.sIx_nat]
  rw [show min m xs.length = m by omega]
  simp
theorem sz_zero : Sz 1 0 := ⟨by decide, by decide⟩
theorem mir_take {qs : List Rat} {i : Nat} {q : Rat} (h : qs[qs.length - 1 - i]? = some q) (hi : i < qs.length) : (mirQ qs).take (i + 1) = (mirQ qs).take i ++ [-q] := by
  rw [List.take_add_one]
  have e : (mirQ qs)[i]? = some (-q) := by
    unfold mirQ
    rw [List.getElem?_reverse (by rw [List.length_map]; exact hi), List.length_map, List.getElem?_map, h]
    rfl
  rw [e]
  rfl
section
variable {P : Program} {w : World} {K : PySem.W.Frag} {mg : Str → Option Value} {base : Heap}
theorem ok_trimmed {f aN : Addr} {fd : FuncData} {k : Nat} (F : Fun K "trimmed" "trimmed" s_trimmed f fd) (T : Frees mg) (gN : mg "NOUGHT" = some (.ref aN)) (dN : ∀ H : Hp, Dp K H (.ref aN) (frD 0)) : FnOk P w K mg base CX0 (k + 1) f fd ["row"] (spTrim K) := by
  refine F.ok sc_trimmed (fun vs H Q E h => ?_) (fun cdv A outer s H vs Q E hr h => ?_)
  · obtain ⟨r, qs, x, rfl, _⟩ := h
    rfl
  · obtain ⟨r, qs, x, rfl, hR, q⟩ := h
    obtain ⟨a, b, xs, rfl, ha, hb, hxs⟩ := dp_row hR
    have hlx : xs.length = qs.length := by rw [dps_len hxs, frs_len]
    refine ⟨_, (pss_cons (ps_asg (pv 0) (pg_tup rfl (pgs_cons (pg_name (i := 1) sc_trimmed.nd rfl (.inl rfl)) (pgs_cons (pg_name (i := 2) sc_trimmed.nd rfl (.inl rfl)) pgs_nil))))
      (pss_cons (ps_if (pt_cmpR op_ne (pv 2) pe_int (nomark _)) (pss_one (ps_ret (pv 0))) pss_nil)
      (pss_cons (ps_set (i := 3) sc_trimmed.nd rfl (.inl rfl) (pe_callB call_len_seq (by rfl) T.mlen PySem.boot_len (pa_cons (pv 1) pa_nil)))
      (pss_cons (ps_while PassesOwn.never (PW.pt (pw_and (pt_cmpR op_gt (pv 3) pe_int (nomark _)) (pw_and1 (pt_cmpR (op_eqD hr.units) (pe_ix ix_tup (pv 1) (pe_op op_sub (pv 3) pe_int) (fun _ _ => rfl)) (pe_glob (v := .ref aN) (by rfl) gN rfl) (nomark _))))) (pss_one (ps_aug (i := 3) sc_trimmed.nd rfl (.inl rfl) pe_int ip_sub)))
      (pss_one (ps_ret (pe_tup (pa_cons (pe_slice sl_tupA (pv 1) po_none (po_some (pv 3))) (pa_cons (pv 2) pa_nil))))))))), ?_⟩
    refine ⟨.ref a, rfl, a, _, rfl, ha, rfl, .ref b, [.int x], rfl, .int x, [], rfl, rfl, .int x, rfl, rfl, _, rfl, ite2 (fun e => ?_) (fun e => ?_)⟩
    · have hx : x ≠ 0 := fun z => by
        subst z
        simp at e
      refine ⟨_, rfl, q _ _ (Same.refl H) ?_⟩
      unfold trimR
      rw [if_neg hx]
      exact hR
    · have hx : x = 0 := by simpa using e
      subst hx
      refine ⟨.ref b, rfl, b, _, rfl, .inr hb, ?_⟩
      refine ⟨fun m σ H2 => σ = [some (.ref a), some (.ref b), some (.int 0), some (.int (m : Int))] ∧ m ≤ qs.length ∧ (∀ z ∈ qs.drop m, z = 0) ∧ H2 = H, ⟨xs.length, rfl, by omega, ?_, rfl⟩, ?_⟩
      · intro z hz
        rw [List.drop_of_length_le (by omega)] at hz
        cases hz
      · rintro m σ H2 ⟨rfl, hm, hz, rfl⟩
        have fin : (m = 0 ∨ ∃ z, qs[m - 1]? = some z ∧ z ≠ 0) → Q = Q → ∀ (v : V) (H' : Hp), Same H2 H' → Dp K H' v (rowD (qs.take m) 0) → Q v H' := by
          intro h1 _ v H' s' d'
          refine q v H' s' ?_
          unfold trimR
          rw [if_pos rfl, trimL_take hm hz h1]
          exact d'
        have out : (m = 0 ∨ ∃ z, qs[m - 1]? = some z ∧ z ≠ 0) → tRet (tTup (tCons (tSl (rSlA K) (tVar 1) tNoPart (tPart (tVar 3))) (tCons (tVar 2) tNil))) { nx := fun _ H' => Q .non H', rt := Q } [some (.ref a), some (.ref b), some (.int 0), some (.int (m : Int))] H2 := by
          intro h1
          have key : ∀ (t : Addr) (H3 : Hp), Same H2 H3 → SqT K H3 t (xs.take m) → ∀ p, H3 p = none → Q (.ref p) (upd H3 p (.tup [.ref t, .int 0])) := fun t H3 s3 ht p np => by
            refine fin h1 rfl _ _ (s3.trans (same_upd np)) (new_row np ht ?_)
            have d := dps_take m (dps_same s3 _ _ hxs)
            unfold frs at d ⊢
            rw [List.map_take]
            exact d
          refine ⟨.ref b, rfl, _, rfl, m, rfl, b, xs, rfl, hb, fun hw => ?_, fun hw p np => ?_⟩
          · have e2 : xs.take m = xs := by
              have e3 := hw.2
              rw [show HT.sIx xs.length xs.length (some (m : Int)) = min m xs.length from HT.sIx_nat xs.length xs.length m] at e3
              exact List.take_of_length_le (by omega)
            refine ⟨_, rfl, (by decide : 2 ≤ sizeLine), key b H2 (Same.refl _) ?_⟩
            rw [e2]
            exact hb
          · rw [cut_to xs m (by omega)]
            exact ⟨_, rfl, (by decide : 2 ≤ sizeLine), key p _ (same_upd np) (SqT.of upd_same)⟩
        refine ⟨_, rfl, _, _, rfl, rfl, _, rfl, ?_⟩
        by_cases h0 : m = 0
        · subst h0
          exact iteF (iteF (out (.inl rfl)))
        · have h1 : (0 : Int) < (m : Int) := by omega
          obtain ⟨j, rfl⟩ : ∃ j, m = j + 1 := ⟨m - 1, by omega⟩
          have hj : j < qs.length := by omega
          have ex : xs[j]? = some (xs[j]'(by omega)) := List.getElem?_eq_getElem _
          obtain ⟨d, hd, dx⟩ := dps_get hxs ex
          obtain ⟨z, hz1, rfl⟩ := frs_get hd
          rw [decide_eq_true h1]
          refine iteT ⟨.ref b, rfl, _, rfl, _, _, rfl, rfl, b, _, _, _, rfl, rfl, hb, at_of (j := j) (by omega) ex, frD z, frD 0, dx, dN _, sh_fr z, sh_fr 0, _, rfl, ?_⟩
          rw [eqv_fr]
          by_cases hz0 : z = 0
          · rw [decide_eq_true hz0]
            refine iteT ⟨fun σ' H' => σ' = [some (.ref a), some (.ref b), some (.int 0), some (.int (j : Int))] ∧ H' = H2, fun σ' H' hN => ⟨j, by omega, hN.1, by omega, ?_, hN.2⟩, ?_⟩
            · intro y hy
              rw [List.drop_eq_getElem_cons hj] at hy
              rcases List.mem_cons.mp hy with rfl | hy
              · rw [List.getElem?_eq_getElem hj] at hz1
                exact (Option.some.inj hz1).trans hz0
              · exact hz y hy
            · refine ⟨_, rfl, _, _, rfl, rfl, ?_, rfl⟩
              have e4 : ((j + 1 : Nat) : Int) - 1 = (j : Int) := by omega
              show [some (V.ref a), some (V.ref b), some (V.int 0), some (V.int (((j + 1 : Nat) : Int) - 1))] = _
              rw [e4]
          · rw [decide_eq_false hz0]
            exact iteF (out (.inr ⟨z, hz1, hz0⟩))
theorem ok_mirrored {f aN fM : Addr} {fd fdM : FuncData} {k : Nat} (F : Fun K "mirrored" "mirrored" s_mirrored f fd) (T : Frees mg) (cM : Cal P w K mg base k "minus" ["one", "other"] (spTwo K (fun q1 q2 => q1 - q2) (fun r => True)) fM fdM)
    (gN : mg "NOUGHT" = some (.ref aN)) (dN : ∀ H : Hp, Dp K H (.ref aN) (frD 0)) : FnOk P w K mg base CX0 (k + 1) f fd ["row"] (spMir K) := by
  refine F.ok sc_mirrored (fun vs H Q E h => ?_) (fun cdv A outer s H vs Q E hr h => ?_)
  · obtain ⟨r, qs, c, rfl, _⟩ := h
    rfl
  · obtain ⟨r, qs, c, rfl, hR, hz, hc, hlen, q⟩ := h
    obtain ⟨a, b, xs, rfl, ha, hb, hxs⟩ := dp_row hR
    have hlx : xs.length = qs.length := by rw [dps_len hxs, frs_len]
    refine ⟨_, (pss_cons (ps_asg (pv 0) (pg_tup rfl (pgs_cons (pg_name (i := 1) sc_mirrored.nd rfl (.inl rfl)) (pgs_cons (pg_name (i := 2) sc_mirrored.nd rfl (.inl rfl)) pgs_nil))))
      (pss_cons (ps_if (pt_cmpR op_ne (pv 2) pe_int (nomark _)) (pss_one ps_never) pss_nil)
      (pss_one (ps_ret (pe_tup (pa_cons (pe_callTy call_tuple_of (by rfl) T.mtuple PyProof.Rows.boot_tuple (pa_cons (pe_lc (own := [("pane", 3)]) (g := (gName 3)) (tt := tYes) rfl sc_mirrored.nd (RT.pi_revA (by rfl) T.mreversed (pv 1)) (blkOk_by (N := ["row", "panes", "wall", "pane"]) (sc := defScope s_mirrored) (by decide +kernel)) (fun _ _ _ _ _ => pg_name (i := 3) sc_mirrored.nd rfl (.inl rfl)) (fun _ _ _ _ _ => pts_nil) (fun _ _ _ _ _ => (pe_c cM hr (by rfl) (pa_cons (pe_glob (v := .ref aN) (by rfl) gN rfl) (pa_cons (pv 3) pa_nil))))) pa_nil)) (pa_cons (pv 2) pa_nil))))))), ?_⟩
    refine ⟨.ref a, rfl, a, _, rfl, ha, rfl, .ref b, [.int 0], rfl, .int 0, [], rfl, rfl, .int 0, rfl, rfl, _, rfl, iteF ?_⟩
    refine ⟨.ref b, rfl, b, xs, rfl, .inr ⟨hb, fun D nD => lc_it walk_revT (fun i H2 => ∃ vs : List V, Same H H2 ∧ H2 D = some (.lst vs) ∧ DpAll K H2 vs (frs ((mirQ qs).take i)) ∧ vs.length = i) ⟨[], same_upd nD, upd_same, .nil, rfl⟩ ?_ ?_ ?_⟩⟩
    · rintro i H2 _ ⟨vs, s2, _⟩
      exact Same.tup s2 hb
    · rintro i y H2 H2' hi ⟨vs, s2, hD, dD, hl⟩ ⟨rfl, hy⟩
      obtain ⟨d, hd, dy⟩ := dps_get hxs hy
      obtain ⟨z, hz1, rfl⟩ := frs_get hd
      rw [hlx] at hz1 hi
      refine ⟨rfl, y, rfl, .ref aN, y, 0, z, 1, c, rfl, dN _, dp_same s2 _ _ dy, sz_zero, hz z (List.mem_of_getElem? hz1), by omega, trivial, fun v H3 s3 dv => ?_⟩
      have hD3 := s3 _ _ hD
      refine ⟨vs, hD3, small1000 (by omega), vs ++ [v], Same.new_upd (s2.trans s3) nD, upd_same, ?_, by rw [List.length_append, hl]; rfl⟩
      replace dv : Dp K H3 v (frD (0 - z)) := dv
      rw [show (0 : Rat) - z = -z by grind] at dv
      rw [mir_take hz1 hi]
      exact dps_put hD3 (noL_frs _) (dps_snoc (dps_same s3 _ _ dD) dv)
    · rintro H2 ⟨vs, s2, hD, dD, hl⟩
      rw [show (mirQ qs).take xs.length = mirQ qs from List.take_of_length_le (by rw [mir_len]; omega)] at dD
      refine ⟨D, vs, rfl, .inl ⟨SqL.of hD, fun t nt => ⟨_, rfl, (by decide : 2 ≤ sizeLine), fun t2 nt2 => ?_⟩⟩⟩
      exact q _ _ (s2.trans (same2 nt nt2)) (new_rowD nt2 (new_tup nt dD))
theorem ok_joined {f : Addr} {fd : FuncData} {k : Nat} (F : Fun K "joined" "joined" s_joined f fd) : FnOk P w K mg base CX0 (k + 1) f fd ["one", "other"] (spJoin K) := by
  refine F.ok sc_joined (fun vs H Q E h => ?_) (fun cdv A outer s H vs Q E hr h => ?_)
  · obtain ⟨r1, r2, q1, q2, x, rfl, _⟩ := h
    rfl
  · obtain ⟨r1, r2, q1, q2, x, rfl, h1, h2, hlen, q⟩ := h
    obtain ⟨a1, b1, xs1, rfl, ha1, hb1, hxs1⟩ := dp_row h1
    obtain ⟨a2, b2, xs2, rfl, ha2, hb2, hxs2⟩ := dp_row h2
    have hl1 : xs1.length = q1.length := by rw [dps_len hxs1, frs_len]
    have hl2 : xs2.length = q2.length := by rw [dps_len hxs2, frs_len]
    refine ⟨_, (pss_cons (ps_if (pt_cmpR op_ne (pe_ix ix_tup (pv 0) pe_int (fun _ _ => rfl)) pe_int (nomark _)) (pss_one ps_never) pss_nil)
      (pss_one (ps_ret (pe_tup (pa_cons (pe_op op_catA (pe_ix ix_tup (pv 0) pe_int (fun _ _ => rfl)) (pe_ix ix_tup (pv 1) pe_int (fun _ _ => rfl))) (pa_cons (pe_ix ix_tup (pv 1) pe_int (fun _ _ => rfl)) pa_nil)))))), ?_⟩
    refine ⟨.ref a1, rfl, a1, _, 1, _, rfl, rfl, ha1, atI_nat (j := 1) rfl, rfl, _, rfl, iteF ?_⟩
    have key : ∀ (t : Addr) (H3 : Hp), Same H H3 → SqT K H3 t (xs1 ++ xs2) → ∀ p, H3 p = none → Q (.ref p) (upd H3 p (.tup [.ref t, .int x])) := fun t H3 s3 ht p np => by
      refine q _ _ (s3.trans (same_upd np)) (new_row np ht ?_)
      rw [frs_app]
      exact dps_same s3 _ _ (dps_app hxs1 hxs2)
    refine ⟨.ref a1, rfl, a1, _, 0, _, rfl, rfl, ha1, atI_nat (j := 0) rfl, .ref a2, rfl, a2, _, 0, _, rfl, rfl, ha2, atI_nat (j := 0) rfl, b1, b2, xs1, xs2, rfl, rfl, hb1, hb2, ?_, fun e => ?_, fun e1 e2 => ?_, fun e1 e2 p np => ?_⟩
    · exact Nat.le_of_lt (Nat.lt_of_le_of_lt (by omega) (by decide : 1000 < sizeLine))
    · subst e
      exact ⟨.ref a2, rfl, a2, _, 1, _, rfl, rfl, ha2, atI_nat (j := 1) rfl, (by decide : 2 ≤ sizeLine), key b2 H (Same.refl H) hb2⟩
    · subst e2
      refine ⟨.ref a2, rfl, a2, _, 1, _, rfl, rfl, ha2, atI_nat (j := 1) rfl, (by decide : 2 ≤ sizeLine), key b1 H (Same.refl H) ?_⟩
      rw [List.append_nil]
      exact hb1
    · exact ⟨.ref a2, rfl, a2, _, 1, _, rfl, rfl, Same.tup (same_upd np) ha2, atI_nat (j := 1) rfl, (by decide : 2 ≤ sizeLine), key p _ (same_upd np) (SqT.of upd_same)⟩
end
/-! ### a row's share; a row strewn -/
abbrev s__law_share : Stmt := topS 32
theorem sc__law_share : FnScope ["_law_panes", "_law_found", "_law_pane_here"] ["_law_panes"] (defScope s__law_share) := ⟨rfl, rfl, rfl, by decide +kernel, rfl, by decide +kernel, by decide +kernel⟩
abbrev s__law_strewn : Stmt := topS 33
theorem sc__law_strewn : FnScope ["_law_box_here", "_law_some", "_law_left", "_law_turn"] ["_law_box_here", "_law_some"] (defScope s__law_strewn) := ⟨rfl, rfl, rfl, by decide +kernel, rfl, by decide +kernel, by decide +kernel⟩
def spShare (K : PySem.W.Frag) : Sp := fun vs H Q _ => ∃ (r : V) (qs : List Rat) (c : Nat), vs = [r] ∧ Dp K H r (.tuple (frs qs)) ∧ (∀ q ∈ qs, PaneZ c q) ∧ 1 + (2 * c + 4) * (qs.length + 1) < 9000 ∧ ∀ (v : V) (H' : Hp), Same H H' → Dp K H' v (frD (lastQ 1 qs)) → Q v H'
def spStrewn (K : PySem.W.Frag) : Sp := fun vs H Q _ => ∃ (p : Addr) (r : V) (qs : List Rat) (n : Nat), vs = [.ref p, r] ∧ Bx H p n ∧ n < 500000 ∧ Dp K H r (.tuple (frs qs)) ∧ qs.length ≤ 100 ∧
  ∀ (v : V) (H' : Hp) (zs : List Rat), zs.Perm qs → Chg p H H' → Bx H' p (n + qs.length) → Dp K H' v (.tuple (frs zs)) → Q v H'
theorem frs_erase : ∀ (qs : List Rat) (k : Nat), (frs qs).eraseIdx k = frs (qs.eraseIdx k)
  | [], _ => rfl
  | _ :: _, 0 => rfl
  | q :: qs, k + 1 => by
    show frD q :: (frs qs).eraseIdx k = frD q :: frs (qs.eraseIdx k)
    rw [frs_erase qs k]
section
variable {P : Program} {w : World} {K : PySem.W.Frag} {mg : Str → Option Value} {base : Heap}
theorem ok_share {f fO fM fP fT : Addr} {fd fdO fdM fdP fdT : FuncData} {k : Nat} (F : Fun K "_law_share" "_law_share" s__law_share f fd)
    (cO : Cal P w K mg base k "_law_over" ["_law_one", "_law_other"] (spTwo K (fun q1 q2 => q1 / q2) (fun r => 0 < r)) fO fdO)
    (cM : Cal P w K mg base k "_law_less" ["_law_one", "_law_other"] (spTwo K (fun q1 q2 => q1 - q2) (fun r => True)) fM fdM)
    (cP : Cal P w K mg base k "_law_plus" ["_law_one", "_law_other"] (spTwo K (fun q1 q2 => q1 + q2) (fun r => True)) fP fdP)
    (cT : Cal P w K mg base k "_law_times" ["_law_one", "_law_other"] (spTwo K (fun q1 q2 => q1 * q2) (fun r => True)) fT fdT) :
    FnOk P w K mg base CX0 (k + 1) f fd ["_law_panes"] (spShare K) := by
  refine F.ok sc__law_share (fun vs H Q E h => ?_) (fun cdv A outer s H vs Q E hr h => ?_)
  · obtain ⟨r, qs, c, rfl, _⟩ := h
    rfl
  · obtain ⟨r, qs, c, rfl, hR, hp, hbits, q⟩ := h
    obtain ⟨a, xs, rfl, ha, hxs⟩ := dp_tup hR
    have hlx : xs.length = qs.length := by rw [dps_len hxs, frs_len]
    refine ⟨_, (pss_cons (ps_set (i := 1) sc__law_share.nd rfl (.inl rfl) (pe_tup (pa_cons pe_int (pa_cons pe_int pa_nil))))
      (pss_cons (ps_for PassesOwn.never rfl (pi_tup (pv 0)) (pg_name (i := 2) sc__law_share.nd rfl (.inl rfl))
      (pss_one (ps_set (i := 1) sc__law_share.nd rfl (.inl rfl) (pe_c cT hr (by rfl) (pa_cons (pv 1) (pa_cons (pe_c cO hr (by rfl) (pa_cons (pe_c cM hr (by rfl) (pa_cons (pe_tup (pa_cons pe_int (pa_cons pe_int pa_nil))) (pa_cons (pv 2) pa_nil))) (pa_cons (pe_c cP hr (by rfl) (pa_cons (pe_tup (pa_cons pe_int (pa_cons pe_int pa_nil))) (pa_cons (pv 2) pa_nil))) pa_nil))) pa_nil))))))
      (pss_one (ps_ret (pv 1))))), ?_⟩
    refine ⟨(by decide : 2 ≤ sizeLine), fun o no => ?_⟩
    have s0 := same_upd (o := .tup [.int 1, .int 1]) no
    refine ⟨.ref a, rfl, a, rfl, ⟨_, Same.tup s0 ha⟩, ?_⟩
    refine for_it (walk_tup (xs := xs)) (fun i σ H2 => ∃ (u : V) (e1 : Option V), σ = [some (.ref a), some u, e1] ∧ Same H H2 ∧ Dp K H2 u (frD (lastQ 1 (qs.take i)))) ⟨.ref o, none, rfl, s0, new_q no 1 rfl rfl⟩ (fun i σ H2 _ hW => ?_) ?_ ?_
    · obtain ⟨u, e1, rfl, s2, _⟩ := hW
      exact Same.tup s2 ha
    · rintro i y σ H2 H2' hi ⟨u, e1, rfl, s2, du⟩ ⟨rfl, hy⟩
      obtain ⟨d, hd, dy⟩ := dps_get hxs hy
      obtain ⟨r, hr1, rfl⟩ := frs_get hd
      have pr := hp r (List.mem_of_getElem? hr1)
      have tk : qs.take (i + 1) = qs.take i ++ [r] := by rw [List.take_add_one, hr1]; rfl
      have lk := lastQ_ok (c := c) (qs.take i) 1 1 (by decide) sz_one (fun z hz => hp z (List.mem_of_mem_take hz))
      have ltk : (qs.take i).length = i := by rw [List.length_take]; omega
      rw [ltk] at lk
      have hmul : (2 * c + 4) * (i + 1) ≤ (2 * c + 4) * (qs.length + 1) := Nat.mul_le_mul_left _ (by omega)
      have hmul2 : (2 * c + 4) * (i + 1) = (2 * c + 4) * i + (2 * c + 4) := by rw [Nat.mul_add, Nat.mul_one]
      refine ⟨u, rfl, (by decide : 2 ≤ sizeLine), fun o1 no1 => ?_⟩
      have s3 := same_upd (o := .tup [.int 1, .int 1]) no1
      refine ⟨y, rfl, ⟨.ref o1, y, 1, r, 1, c, rfl, new_q no1 1 rfl rfl, dp_same (s2.trans s3) _ _ dy, sz_one, pr.sz, by omega, trivial, fun m H4 s4 dm => ?_⟩⟩
      refine ⟨(by decide : 2 ≤ sizeLine), fun o2 no2 => ?_⟩
      have s5 := same_upd (o := .tup [.int 1, .int 1]) no2
      have t5 := s3.trans (s4.trans s5)
      refine ⟨y, rfl, ⟨.ref o2, y, 1, r, 1, c, rfl, new_q no2 1 rfl rfl, dp_same (s2.trans t5) _ _ dy, sz_one, pr.sz, by omega, trivial, fun z H6 s6 dz => ?_⟩⟩
      refine ⟨m, z, _, _, c + 2, c + 2, rfl, dp_same (s5.trans s6) _ _ dm, dz, pr.sm, pr.sp, by omega, pr.p1, fun t H7 s7 dt => ?_⟩
      have t7 := t5.trans (s6.trans s7)
      refine ⟨u, t, _, shareQ r, 1 + (2 * c + 4) * i, 2 * c + 4, rfl, dp_same t7 _ _ du, dt, lk.2, pr.share.2, by omega, trivial, fun v H8 s8 dv => ?_⟩
      refine ⟨v, some y, rfl, s2.trans (t7.trans s8), ?_⟩
      rw [tk, lastQ_snoc]
      exact dv
    · rintro σ H2 ⟨u, e1, rfl, s2, du⟩
      rw [hlx, List.take_length] at du
      exact ⟨_, rfl, q _ _ s2 du⟩
theorem ok_strewn {f fK : Addr} {fd fdK : FuncData} {k : Nat} (F : Fun K "_law_strewn" "_law_strewn" s__law_strewn f fd) (T : Frees mg)
    (cK : Cal P w K mg base k "_law_take" ["_law_box_here", "_law_size"] spTake fK fdK) : FnOk P w K mg base CX0 (k + 1) f fd ["_law_box_here", "_law_some"] (spStrewn K) := by
  refine F.ok sc__law_strewn (fun vs H Q E h => ?_) (fun cdv A outer s H vs Q E hr h => ?_)
  · obtain ⟨p, r, qs, n, rfl, _⟩ := h
    rfl
  · obtain ⟨p, r, qs, n, rfl, hb, hn, hR, hlen, q⟩ := h
    obtain ⟨a, xs, rfl, ha, hxs⟩ := dp_tup hR
    have hlx : xs.length = qs.length := by rw [dps_len hxs, frs_len]
    refine ⟨_, (pss_cons (ps_set (i := 2) sc__law_strewn.nd rfl (.inr rfl) (pe_callTy call_list_of (by rfl) T.mlist PyProof.Rows.boot_list (pa_cons (pv 1) pa_nil)))
      (pss_one (ps_ret (pe_callTy call_tuple_of (by rfl) T.mtuple PyProof.Rows.boot_tuple (pa_cons (pe_lc (own := [("_law_turn", 3)]) (g := (gName 3)) (tt := tYes) (te := (tBM K "list" rPopAt (tVar 2) (tCons (tCall spTake [] E0 (tCons (tVar 0) (tCons (tCB (fun xs H Q => ∃ p ys, xs = [.ref p] ∧ (SqL K H p ys ∨ SqT K H p ys) ∧ Q (.int ys.length) H) (tCons (tVar 2) tNil)) tNil))) tNil))) rfl sc__law_strewn.nd (pi_range1 (by rfl) T.mrange (pa_cons (pe_callB call_len_seq (by rfl) T.mlen PySem.boot_len (pa_cons (pv 1) pa_nil)) pa_nil)) (blkOk_by (N := ["_law_box_here", "_law_some", "_law_left", "_law_turn"]) (sc := defScope s__law_strewn) (by decide +kernel)) (fun _ _ _ _ _ => pg_name (i := 3) sc__law_strewn.nd rfl (.inl rfl)) (fun _ _ _ _ _ => pts_nil) (fun _ _ _ _ _ => (pe_bm PySem.F.plainAttrs_list PySem.F.slot_list_pop PySem.F.type_list_pop mt_popAt (pv 2) (pa_cons (pe_c cK hr (by rfl) (pa_cons (pv 0) (pa_cons (pe_callB call_len_seq (by rfl) T.mlen PySem.boot_len (pa_cons (pv 2) pa_nil)) pa_nil))) pa_nil)))) pa_nil))))), ?_⟩
    refine ⟨.ref a, rfl, a, xs, rfl, .inr ha, fun L nL => ?_⟩
    have s0 := same_upd (o := .lst xs) nL
    have nLp : L ≠ p := hb.ne nL
    refine ⟨.ref a, rfl, a, xs, rfl, .inr (Same.tup s0 ha), _, rfl, by omega, by omega, fun D nD => ?_⟩
    have s1 := same_upd (o := .lst []) nD
    have nDp : D ≠ p := (hb.same s0).ne nD
    have nDL : D ≠ L := fun e => by
      rw [e, upd_same] at nD
      cases nD
    have nDH : H D = none := Same.free s0 nD
    refine lc_it walk_range (fun i H2 => ∃ (ls acc : List V) (lq aq : List Rat), Chg p H H2 ∧ Bx H2 p (n + i) ∧ H2 L = some (.lst ls) ∧ DpAll K H2 ls (frs lq) ∧ H2 D = some (.lst acc) ∧ DpAll K H2 acc (frs aq) ∧ (aq ++ lq).Perm qs ∧ aq.length = i)
      ⟨xs, [], qs, [], Chg.of_same (s0.trans s1), (hb.same (s0.trans s1)).mono (by omega), s1 _ _ upd_same, dps_same (s0.trans s1) _ _ hxs, upd_same, .nil, List.Perm.refl _, rfl⟩ (fun _ _ _ _ => trivial) ?_ ?_
    · rintro i y H2 H2' hi ⟨ls, acc, lq, aq, C2, B2, hL, dL, hD, dA, perm, hl⟩ ⟨rfl, rfl⟩
      have hll : ls.length = lq.length := by rw [dps_len dL, frs_len]
      have hpl := perm.length_eq
      rw [List.length_append] at hpl
      refine ⟨rfl, .ref L, rfl, .inl ⟨rfl, _, SqL.of hL⟩, .ref p, rfl, .ref L, rfl, L, ls, rfl, .inl (SqL.of hL), p, _, _, rfl, B2, by omega, by omega, by omega, fun r3 H3 h30 h31 c3 b3 => ?_⟩
      have hL3 : H3 L = some (.lst ls) := c3 _ _ nLp hL
      have hD3 : H3 D = some (.lst acc) := c3 _ _ nDp hD
      have dL3 := B2.dps c3 dL (noL_frs _)
      have dA3 := B2.dps c3 dA (noL_frs _)
      have hk : r3.toNat < ls.length := by omega
      have hk2 : r3.toNat < lq.length := by omega
      have ey : ls[r3.toNat]? = some ls[r3.toNat] := List.getElem?_eq_getElem hk
      obtain ⟨d, hd, dy⟩ := dps_get dL3 ey
      obtain ⟨z, hz, rfl⟩ := frs_get hd
      refine ⟨L, ls, r3, r3.toNat, ls[r3.toNat], rfl, rfl, hL3, by omega, by omega, seqIx h30 h31, ey, ?_⟩
      have cL : Chg L H3 (upd H3 L (.lst (ls.eraseIdx r3.toNat))) := chg_upd
      have hD4 := cL _ _ nDL hD3
      refine ⟨acc, hD4, ?_, ls.eraseIdx r3.toNat, acc ++ [ls[r3.toNat]], lq.eraseIdx r3.toNat, aq ++ [z], ((C2.trans c3).new_upd nL).new_upd nDH, ((b3.other nLp.symm).other nDp.symm).mono (by omega), ?_, ?_, upd_same, ?_, ?_, ?_⟩
      · rw [dps_len dA, frs_len]
        exact small1000 (by omega)
      · rw [upd_ne nDL.symm, upd_same]
      · have := dps_erase r3.toNat (dps_chg cL hL3 _ _ (noL_frs _) dL3)
        rw [frs_erase] at this
        exact dps_put hD4 (noL_frs _) this
      · exact dps_put hD4 (noL_frs _) (dps_snoc (dps_chg cL hL3 _ _ (noL_frs _) dA3) (dp_chg cL hL3 _ _ (noL_fr _) dy))
      · have e : z = lq[r3.toNat] := by
          rw [List.getElem?_eq_getElem hk2] at hz
          exact (Option.some.inj hz).symm
        rw [List.append_assoc]
        refine List.Perm.trans (List.Perm.append_left aq ?_) perm
        rw [e]
        exact erase_perm lq r3.toNat hk2
      · rw [List.length_append, hl]
        rfl
    · rintro H2 ⟨ls, acc, lq, aq, C2, B2, hL, dL, hD, dA, perm, hl⟩
      have hpl := perm.length_eq
      rw [List.length_append] at hpl
      have l0 : lq = [] := List.eq_nil_of_length_eq_zero (by simp at hl; omega)
      subst l0
      rw [List.append_nil] at perm
      refine ⟨D, acc, rfl, .inl ⟨SqL.of hD, fun t nt => ?_⟩⟩
      exact q _ _ aq perm (C2.trans (Chg.of_same (same_upd nt))) ((B2.same (same_upd nt)).mono (by simp; omega)) (new_tup nt dA)
end
/-! ### rooms of rows joined, met from the right, strewn -/
abbrev s__law_joined_right : Stmt := topS 34
theorem sc__law_joined_right : FnScope ["_law_box_here", "_law_one", "_law_two", "_law_start", "_law_ahead", "_law_both", "_law_rooms", "_law_back", "_law_shares", "_law_short"] ["_law_box_here", "_law_one", "_law_two", "_law_start"] (defScope s__law_joined_right) := ⟨rfl, rfl, rfl, by decide +kernel, rfl, by decide +kernel, by decide +kernel⟩
def spJR (K : PySem.W.Frag) : Sp := fun vs H Q _ => ∃ (p : Addr) (r1 r2 v : V) (q1 q2 : List Rat) (x : Int) (q0 : Rat) (n : Nat), vs = [.ref p, r1, r2, v] ∧ Bx H p n ∧ n < 400000 ∧ Dp K H r1 (rowD q1 0) ∧ Dp K H r2 (rowD q2 x) ∧ Dp K H v (frD q0) ∧ WtQ 4 q0 ∧
  (∀ q ∈ q1, PaneZ 6 q) ∧ (∀ q ∈ q2, PaneZ 6 q) ∧ q1.length ≤ 6 ∧ q2.length ≤ 6 ∧ ∀ H' : Hp, Chg p H H' → Bx H' p (n + 10) → Q (.bl true) H'
/-- rooms_of as it's called: by its place, by names, the first left out -/
structure Rof (P : Program) (w : World) (K : PySem.W.Frag) (mg : Str → Option Value) (base : Heap) (k : Nat) (f : Addr) (fd : FuncData) : Prop where
  kp : PySem.W.keepIn K (.ref f) = true
  ok : FnOk P w K mg base CX0 k f fd ["row", "first"] (spRoomsOf K)
  at_ : mg "rooms_of" = some (.ref f)
  k1 : KBn K fd ["row", "first"] 1 ["first"] (fun us ws => us ++ ws) (fun vs zs => vs ++ zs)
structure Row (P : Program) (w : World) (K : PySem.W.Frag) (mg : Str → Option Value) (base : Heap) (k : Nat) (f : Addr) (fd : FuncData) (ds : List Value) : Prop where
  kp : PySem.W.keepIn K (.ref f) = true
  ok : FnOk P w K mg base CX0 k f fd ["rooms", "wall"] (spRowOf K)
  at_ : mg "row_of" = some (.ref f)
  bd : Binds K fd ["rooms", "wall"] ds
  vd : Vals [.int 0] ds
  k1 : KBn K fd ["rooms", "wall"] 1 ["wall"] (fun us ws => us ++ ws) (fun vs zs => vs ++ zs)
theorem okD_fr (d : Nat) (q : Rat) : okD (d + 2) (frD q) = true := rfl
theorem okD_frs (d : Nat) (qs : List Rat) (h : qs.length ≤ 1000) : okD (d + 3) (.list (frs qs)) = true := by
  unfold okD
  rw [Bool.and_eq_true, frs_len]
  refine ⟨decide_eq_true h, List.all_eq_true.mpr fun x hx => ?_⟩
  obtain ⟨q, _, rfl⟩ := List.mem_map.mp hx
  exact okD_fr d q
theorem okD_frt (d : Nat) (qs : List Rat) (h : qs.length ≤ 1000) : okD (d + 3) (.tuple (frs qs)) = true := by
  unfold okD
  rw [Bool.and_eq_true, frs_len]
  refine ⟨decide_eq_true h, List.all_eq_true.mpr fun x hx => ?_⟩
  obtain ⟨q, _, rfl⟩ := List.mem_map.mp hx
  exact okD_fr d q
theorem okD_row (d : Nat) (qs : List Rat) (x : Int) (h : qs.length ≤ 1000) : okD (d + 4) (rowD qs x) = true := by
  unfold rowD okD
  rw [Bool.and_eq_true, List.all_cons, okD_frt d qs h]
  exact ⟨rfl, rfl⟩
section
variable {P : Program} {w : World} {K : PySem.W.Frag} {mg : Str → Option Value} {base : Heap}
theorem ok_jr {f fR fW fJ fMi fS fSh fSt fO fTr : Addr} {fd fdR fdW fdJ fdMi fdS fdSh fdSt fdO fdTr : FuncData} {ds : List Value} {k : Nat} (F : Fun K "_law_joined_right" "_law_joined_right" s__law_joined_right f fd) (T : Frees mg) (R : Rof P w K mg base k fR fdR) (W : Row P w K mg base k fW fdW ds)
    (cJ : Cal P w K mg base k "joined" ["one", "other"] (spJoin K) fJ fdJ) (cMi : Cal P w K mg base k "mirrored" ["row"] (spMir K) fMi fdMi) (cS : Cal P w K mg base k "_law_same" ["_law_found", "_law_due"] (spSame K 6) fS fdS)
    (cSh : Cal P w K mg base k "_law_share" ["_law_panes"] (spShare K) fSh fdSh) (cSt : Cal P w K mg base k "_law_strewn" ["_law_box_here", "_law_some"] (spStrewn K) fSt fdSt)
    (cO : Cal P w K mg base k "_law_over" ["_law_one", "_law_other"] (spTwo K (fun q1 q2 => q1 / q2) (fun r => 0 < r)) fO fdO) (cTr : Cal P w K mg base k "trimmed" ["row"] (spTrim K) fTr fdTr) :
    FnOk P w K mg base CX0 (k + 1) f fd ["_law_box_here", "_law_one", "_law_two", "_law_start"] (spJR K) := by
  refine F.ok sc__law_joined_right (fun vs H Q E h => ?_) (fun cdv A outer s H vs Q E hr h => ?_)
  · obtain ⟨p, r1, r2, v, q1, q2, x, q0, n, rfl, _⟩ := h
    rfl
  · obtain ⟨p, r1, r2, v, q1, q2, x, q0, n, rfl, hb, hn, d1, d2, dv, wq, pz1, pz2, hl1, hl2, q⟩ := h
    obtain ⟨ls, els, lls⟩ := roomsQ_last q1 q0
    have pz12 : ∀ z ∈ q1 ++ q2, PaneZ 6 z := fun z hz => (List.mem_append.mp hz).elim (pz1 z) (pz2 z)
    have lk := lastQ_ok (c := 6) q1 q0 4 wq.pos wq.sz pz1
    have lz : Sz 100 (lastQ q0 q1) := lk.2.mono (by omega)
    refine ⟨_, (pss_cons (ps_par (by rfl) sc__law_joined_right.nd (i := 4) (j := 5) rfl rfl (by decide) rfl rfl (pa_cons (pe_callN R.ok hr (by rfl) R.at_ R.kp R.k1 pass0 (pa_cons (pv 1) pa_nil) (pk_cons (pv 3) pk_nil)) (pa_cons (pe_c cJ hr (by rfl) (pa_cons (pv 1) (pa_cons (pv 2) pa_nil))) pa_nil)) (by rfl))
      (pss_cons (ps_set (i := 6) sc__law_joined_right.nd rfl (.inl rfl) (pe_callN R.ok hr (by rfl) R.at_ R.kp R.k1 pass0 (pa_cons (pv 5) pa_nil) (pk_cons (pv 3) pk_nil)))
      (pss_cons (ps_if (pt_not (pt_val (pe_c cS hr (by rfl) (pa_cons (pv 6) (pa_cons (pe_op op_catLq (pe_slice sl_lq (pv 4) po_none (po_some (pe_un un_neg pe_int))) (pe_callN R.ok hr (by rfl) R.at_ R.kp R.k1 pass0 (pa_cons (pv 2) pa_nil) (pk_cons (pe_ix ix_list (pv 4) (pe_un un_neg pe_int) (fun _ _ => rfl)) pk_nil))) pa_nil))))) pss_never pss_nil)
      (pss_cons (ps_set (i := 7) sc__law_joined_right.nd rfl (.inl rfl) (pe_callN R.ok hr (by rfl) R.at_ R.kp R.k1 pass0 (pa_cons (pe_c cMi hr (by rfl) (pa_cons (pv 1) pa_nil)) pa_nil) (pk_cons (pe_ix ix_list (pv 4) (pe_un un_neg pe_int) (fun _ _ => rfl)) pk_nil)))
      (pss_cons (ps_if (PW.pt (pw_or (pt_not (pt_val (pe_c cS hr (by rfl) (pa_cons (pe_revL (pv 7)) (pa_cons (pv 4) pa_nil))))) (pw_or1 (pt_not (pt_val (pe_c cS hr (by rfl) (pa_cons (pe_call W.ok hr (by rfl) W.at_ W.kp W.bd W.vd pass0 (pa_cons (pe_revL (pv 4)) pa_nil)) (pa_cons (pe_c cMi hr (by rfl) (pa_cons (pv 1) pa_nil)) pa_nil)))))))) pss_never pss_nil)
      (pss_cons (ps_set (i := 8) sc__law_joined_right.nd rfl (.inl rfl) (pe_lst (pa_cons (pe_c cSh hr (by rfl) (pa_cons (pe_ix ix_tup (pv 1) pe_int (fun _ _ => rfl)) pa_nil)) (pa_cons (pe_c cSh hr (by rfl) (pa_cons (pe_c cSt hr (by rfl) (pa_cons (pv 0) (pa_cons (pe_ix ix_tup (pv 1) pe_int (fun _ _ => rfl)) pa_nil))) pa_nil)) (pa_cons (pe_c cO hr (by rfl) (pa_cons (pe_ix ix_list (pv 4) (pe_un un_neg pe_int) (fun _ _ => rfl)) (pa_cons (pv 3) pa_nil))) pa_nil)))))
      (pss_cons (ps_if (pt_not (pt_val (pe_c cS hr (by rfl) (pa_cons (pv 8) (pa_cons (pe_op op_rep (pe_lst (pa_cons (pe_ix ix_list (pv 8) pe_int (fun _ _ => rfl)) pa_nil)) pe_int) pa_nil))))) pss_never pss_nil)
      (pss_cons (ps_set (i := 9) sc__law_joined_right.nd rfl (.inl rfl) (pe_c cTr hr (by rfl) (pa_cons (pe_tup (pa_cons (pe_op op_catD (pe_ix ix_tup (pv 1) pe_int (fun _ _ => rfl)) (pe_op op_repT (pe_tup (pa_cons (pe_tup (pa_cons pe_int (pa_cons pe_int pa_nil))) pa_nil)) pe_int)) (pa_cons pe_int pa_nil))) pa_nil)))
      (pss_one (ps_ret (pe_and (pe_c cS hr (by rfl) (pa_cons (pe_callN R.ok hr (by rfl) R.at_ R.kp R.k1 pass0 (pa_cons (pv 9) pa_nil) (pk_cons (pv 3) pk_nil)) (pa_cons (pe_slice sl_lq (pv 4) po_none (po_some (pe_op op_add (pe_callB call_len_seq (by rfl) T.mlen PySem.boot_len (pa_cons (pe_ix ix_tup (pv 9) pe_int (fun _ _ => rfl)) pa_nil)) pe_int))) pa_nil))) (pe_one (pe_cmpR (op_eqD hr.units) (pe_callN W.ok hr (by rfl) W.at_ W.kp W.k1 pass0 (pa_cons (pv 6) pa_nil) (pk_cons (pe_ix ix_tup (pv 2) pe_int (fun _ _ => rfl)) pk_nil)) (pv 5) (nomark _)))))))))))))), ?_⟩
    -- ahead, both
    refine ⟨r1, rfl, v, rfl, rfl, rfl, r1, v, q1, 0, q0, 4, 6, rfl, d1, dv, wq.pos, wq.sz, pz1, by omega, by omega, fun L1 us1 H1 s1 nL1 hL1 dL1 => ?_⟩
    have la1 : Lq K H1 L1 (roomsQ q0 q1) := ⟨us1, hL1, dL1⟩
    refine ⟨r1, rfl, r2, rfl, r1, r2, q1, q2, x, rfl, dp_same s1 _ _ d1, dp_same s1 _ _ d2, by omega, fun vb H2 s2 db => ⟨_, _, rfl, ?_⟩⟩
    -- rooms
    have t2 := s1.trans s2
    refine ⟨vb, rfl, v, rfl, rfl, rfl, vb, v, q1 ++ q2, x, q0, 4, 6, rfl, db, dp_same t2 _ _ dv, wq.pos, wq.sz, pz12, by rw [List.length_append]; omega, by rw [List.length_append]; omega, fun L2 us2 H3 s3 nL2 hL2 dL2 => ?_⟩
    have lr3 : Lq K H3 L2 (roomsQ q0 (q1 ++ q2)) := ⟨us2, hL2, dL2⟩
    have la3 := la1.same (s2.trans s3)
    have t3 := t2.trans s3
    -- the first test
    refine ⟨.ref L2, rfl, .ref L1, rfl, 1, rfl, -1, rfl, L1, _, rfl, la3, fun M1 H4 s4 nM1 lM1 => ?_⟩
    rw [els, cutG_last] at lM1
    have la4 := la3.same s4
    obtain ⟨ua, u, hu4, du4⟩ := Lq.last (els ▸ la4)
    refine ⟨r2, rfl, .ref L1, rfl, 1, rfl, L1, _, -1, u, rfl, rfl, SqL.of hu4, atI_last _ _, rfl, rfl, r2, u, q2, x, lastQ q0 q1, 100, 6, rfl, dp_same (t3.trans s4) _ _ d2, du4, lk.1, lz, pz2, by omega, by omega, fun L3 us3 H5 s5 nL3 hL3 dL3 => ?_⟩
    refine ⟨M1, L3, ls, _, rfl, rfl, lM1.same s5, ⟨us3, hL3, dL3⟩, by rw [roomsQ_len]; omega, fun N1 H6 s6 nN1 lN1 => ?_⟩
    rw [← rooms_join q1 q0 q2 ls els] at lN1
    refine ⟨.ref L2, .ref N1, _, rfl, (lr3.same (s4.trans (s5.trans s6))).dp, lN1.dp, okD_frs 3 _ (by rw [roomsQ_len, List.length_append]; omega), fun H7 s7 => ⟨true, rfl, iteF ?_⟩⟩
    have t7 := t3.trans (s4.trans (s5.trans (s6.trans s7)))
    have la7 := la4.same (s5.trans (s6.trans s7))
    have lr7 := lr3.same (s4.trans (s5.trans (s6.trans s7)))
    have db7 := dp_same (s3.trans (s4.trans (s5.trans (s6.trans s7)))) _ _ db
    -- back
    refine ⟨r1, rfl, r1, q1, 6, rfl, dp_same t7 _ _ d1, fun z hz => (pz1 z hz).sz, by decide, by omega, fun vm H8 s8 dm => ?_⟩
    have la8 := la7.same s8
    obtain ⟨ub, u8, hu8, du8⟩ := Lq.last (els ▸ la8)
    refine ⟨.ref L1, rfl, 1, rfl, L1, _, -1, u8, rfl, rfl, SqL.of hu8, atI_last _ _, rfl, rfl, vm, u8, mirQ q1, 0, lastQ q0 q1, 100, 6, rfl, dm, du8, lk.1, lz, mir_pane pz1, by rw [mir_len]; omega, by rw [mir_len]; omega, fun L4 us4 H9 s9 nL4 hL4 dL4 => ?_⟩
    have mir := rooms_mir (c := 6) q1 q0 pz1
    rw [mir.1] at dL4
    have t9 := t7.trans (s8.trans s9)
    have la9 := la8.same s9
    show tSeq _ _ _ [some (.ref p), some r1, some r2, some v, some (.ref L1), some vb, some (.ref L2), some (.ref L4), none, none] _
    refine ⟨.ref L4, rfl, L4, us4, rfl, SqL.of hL4, fun M2 nM2 => ?_⟩
    have s10 := same_upd (o := .lst us4.reverse) nM2
    have lM2 : Lq K _ M2 (roomsQ q0 q1) := Lq.new nM2 (by
      have := dps_rev dL4
      rw [show (frs (roomsQ q0 q1).reverse).reverse = frs (roomsQ q0 q1) by unfold frs; rw [List.map_reverse, List.reverse_reverse]] at this
      exact this)
    have la10 := la9.same s10
    refine ⟨.ref L1, rfl, .ref M2, .ref L1, _, rfl, lM2.dp, la10.dp, okD_frs 3 _ (by rw [roomsQ_len]; omega), fun H11 s11 => ⟨true, rfl, iteF ?_⟩⟩
    have la11 := la10.same s11
    have t11 := t9.trans (s10.trans s11)
    obtain ⟨uc, huc, luc, duc⟩ := la11.len
    refine ⟨.ref L1, rfl, L1, uc, rfl, SqL.of huc, fun M3 nM3 => ?_⟩
    have s12 := same_upd (o := .lst uc.reverse) nM3
    have lM3 : Lq K _ M3 (roomsQ (lastQ q0 q1) (mirQ q1)) := Lq.new nM3 (by
      have := dps_rev duc
      rw [mir.1]
      rw [show (frs (roomsQ q0 q1)).reverse = frs (roomsQ q0 q1).reverse by unfold frs; rw [List.map_reverse]] at this
      exact this)
    have wz : ∀ z ∈ roomsQ (lastQ q0 q1) (mirQ q1), 0 < z ∧ Sz 100 z := fun z hz => by
      rw [mir.1, List.mem_reverse] at hz
      have r := roomsQ_ok (c := 6) q1 q0 4 wq.pos wq.sz pz1 z hz
      exact ⟨r.1, r.2.mono (by omega)⟩
    refine ⟨.ref M3, _, 0, 100, rfl, .inl lM3.dp, wz, by rw [roomsQ_len, mir_len]; omega, by decide, fun vr H13 s13 dr => ?_⟩
    rw [panes_rooms (c := 6) (mirQ q1) _ lk.1 (mir_pane pz1)] at dr
    have t13 := t11.trans (s12.trans s13)
    refine ⟨r1, rfl, r1, q1, 6, rfl, dp_same t13 _ _ d1, fun z hz => (pz1 z hz).sz, by decide, by omega, fun vm2 H14 s14 dm2 => ?_⟩
    refine ⟨vr, vm2, _, rfl, dp_same s14 _ _ dr, dm2, okD_row 2 _ _ (by rw [mir_len]; omega), fun H15 s15 => ⟨true, rfl, iteF ?_⟩⟩
    have t15 := t13.trans (s14.trans s15)
    have la15 := la11.same (s12.trans (s13.trans (s14.trans s15)))
    have lr15 := lr7.same (s8.trans (s9.trans (s10.trans (s11.trans (s12.trans (s13.trans (s14.trans s15)))))))
    have db15 := dp_same (s8.trans (s9.trans (s10.trans (s11.trans (s12.trans (s13.trans (s14.trans s15))))))) _ _ db7
    -- shares
    obtain ⟨a1, b1, xs1, rfl, ha1, hb1, hxs1⟩ := dp_row (dp_same t15 _ _ d1)
    have bits : 1 + (2 * 6 + 4) * (q1.length + 1) < 9000 := by omega
    refine ⟨.ref a1, rfl, a1, _, 0, _, rfl, rfl, ha1, atI_nat (j := 0) rfl, .ref b1, q1, 6, rfl, .tup hb1 hxs1, pz1, bits, fun h1 H16 s16 dh1 => ?_⟩
    have b16 := hb.same (t15.trans s16)
    refine ⟨.ref p, rfl, .ref a1, rfl, a1, _, 0, _, rfl, rfl, Same.tup s16 ha1, atI_nat (j := 0) rfl, p, .ref b1, q1, n, rfl, b16, by omega, .tup (Same.tup s16 hb1) (dps_same s16 _ _ hxs1), by omega, fun vz H17 zs perm c17 b17 dz => ?_⟩
    have pzz : ∀ z ∈ zs, PaneZ 6 z := fun z hz => pz1 z (perm.mem_iff.mp hz)
    refine ⟨vz, zs, 6, rfl, dz, pzz, by rw [perm.length_eq]; exact bits, fun h2 H18 s18 dh2 => ?_⟩
    rw [lastQ_perm perm] at dh2
    have C18 : Chg p H H18 := (Chg.of_same (t15.trans s16)).trans (c17.trans (Chg.of_same s18))
    have b18 := b17.same s18
    have nLp1 : L1 ≠ p := hb.ne nL1
    have nLp2 : L2 ≠ p := hb.ne (t2.free nL2)
    have la18 := (b16.lq c17 (la15.same s16) nLp1).same s18
    have lr18 := (b16.lq c17 (lr15.same s16) nLp2).same s18
    have db18 := dp_same s18 _ _ (b16.dp c17 (dp_same s16 _ _ db15) (noL_row _ _))
    have dh18 := dp_same s18 _ _ (b16.dp c17 dh1 (noL_fr _))
    have dv18 := dp_same s18 _ _ (b16.dp c17 (dp_same (t15.trans s16) _ _ dv) (noL_fr _))
    have dr1 := dp_same s18 _ _ (b16.dp c17 (dp_same (t15.trans s16) _ _ d1) (noL_row _ _))
    have dr2 := dp_same s18 _ _ (b16.dp c17 (dp_same (t15.trans s16) _ _ d2) (noL_row _ _))
    obtain ⟨ud, u18, hu18, du18⟩ := Lq.last (els ▸ la18)
    refine ⟨.ref L1, rfl, 1, rfl, L1, _, -1, u18, rfl, rfl, SqL.of hu18, atI_last _ _, v, rfl, u18, v, lastQ q0 q1, q0, 100, 4, rfl, du18, dv18, lz, wq.sz, by decide, wq.pos, fun h3 H19 s19 dh3 => ?_⟩
    replace dh3 : Dp K H19 h3 (frD (lastQ q0 q1 / q0)) := dh3
    rw [lastQ_over q1 wq.pos] at dh3
    refine ⟨(by decide : 3 ≤ sizeLine), fun M4 nM4 => ?_⟩
    have s20 := same_upd (o := .lst [h1, h2, h3]) nM4
    have hM4 : (upd H19 M4 (.lst [h1, h2, h3])) M4 = some (.lst [h1, h2, h3]) := upd_same
    have e1 := dp_same (s19.trans s20) _ _ dh18
    have e2 := dp_same (s19.trans s20) _ _ dh2
    have e3 := dp_same s20 _ _ dh3
    show tSeq _ _ _ [some (.ref p), some (.ref a1), some r2, some v, some (.ref L1), some vb, some (.ref L2), some (.ref L4), some (.ref M4), none] _
    refine ⟨.ref M4, rfl, .ref M4, rfl, M4, _, 0, h1, rfl, rfl, SqL.of hM4, atI_nat (j := 0) rfl, (by decide : 1 ≤ sizeLine), fun M5 nM5 => ?_⟩
    have s21 := same_upd (o := .lst [h1]) nM5
    refine ⟨M5, 3, [h1], rfl, rfl, upd_same, by decide, by decide, (by decide : 1 * 3 ≤ sizeLine), fun M6 nM6 => ?_⟩
    have s22 := same_upd (o := .lst [h1, h1, h1]) nM6
    have t22 := s21.trans s22
    refine ⟨.ref M4, .ref M6, .list [frD (lastQ 1 q1), frD (lastQ 1 q1), frD (lastQ 1 q1)], rfl, .lst (SqL.of (t22 _ _ hM4)) (.cons (dp_same t22 _ _ e1) (.cons (dp_same t22 _ _ e2) (.cons (dp_same t22 _ _ e3) .nil))),
      .lst (SqL.of upd_same) (.cons (dp_same t22 _ _ e1) (.cons (dp_same t22 _ _ e1) (.cons (dp_same t22 _ _ e1) .nil))), rfl, fun H23 s23 => ⟨true, rfl, iteF ?_⟩⟩
    have t23 := s19.trans (s20.trans (t22.trans s23))
    have la23 := la18.same t23
    have lr23 := lr18.same t23
    have db23 := dp_same t23 _ _ db18
    have dv23 := dp_same t23 _ _ dv18
    have dr23 := dp_same t23 _ _ dr1
    have C23 := C18.trans (Chg.of_same t23)
    have b23 := b18.same t23
    -- short
    obtain ⟨a4, b4, xs4, ea4, ha4, hb4, hxs4⟩ := dp_row dr23
    cases ea4
    refine ⟨.ref a1, rfl, a1, _, 0, _, rfl, rfl, ha4, atI_nat (j := 0) rfl, (by decide : 2 ≤ sizeLine), fun o1 no1 => ⟨(by decide : 1 ≤ sizeLine), fun o2 no2 => ?_⟩⟩
    have s24 := same_upd (o := .tup [.int 0, .int 1]) no1
    have s25 := same_upd (o := .tup [.ref o1]) no2
    have ho2 : SqT K _ o2 [.ref o1] := SqT.of (upd_same (H := upd H23 o1 (.tup [.int 0, .int 1])) (a := o2) (o := .tup [.ref o1]))
    refine ⟨o2, 2, [.ref o1], rfl, rfl, ho2, by simp, by decide, by decide, (by decide : 1 ≤ 1000), fun o3 no3 => ?_⟩
    have s26 := same_upd (o := .tup [.ref o1, .ref o1]) no3
    have z1 : Dp K _ (.ref o1) (frD 0) := new_q no1 0 rfl rfl
    have z3 : Dp K _ (.ref o3) (.tuple (frs [0, 0])) := new_tup (xs := [.ref o1, .ref o1]) no3 (.cons (dp_same s25 _ _ z1) (.cons (dp_same s25 _ _ z1) .nil))
    have t26 := s24.trans (s25.trans s26)
    refine ⟨frs q1, frs [0, 0], .tup (Same.tup t26 hb4) (dps_same t26 _ _ hxs4), z3, by rw [frs_len, frs_len]; simp; omega, fun vc H27 s27 dc => ?_⟩
    rw [← frs_app] at dc
    refine ⟨(by decide : 2 ≤ sizeLine), fun o4 no4 => ?_⟩
    have s28 := same_upd (o := .tup [vc, .int 0]) no4
    refine ⟨.ref o4, q1 ++ [0, 0], 0, rfl, new_rowD no4 dc, fun vt H29 s29 dt => ?_⟩
    have et : trimR (q1 ++ [0, 0]) 0 = trimL q1 := by
      unfold trimR
      rw [if_pos rfl]
      exact trimL_app q1 [0, 0] (fun z hz => by simpa using hz)
    rw [et] at dt
    obtain ⟨m, hm, em⟩ := trimL_is q1
    rw [em] at dt
    have t29 := t26.trans (s27.trans (s28.trans s29))
    have la29 := la23.same t29
    have pzt : ∀ z ∈ q1.take m, PaneZ 6 z := fun z hz => pz1 z (List.mem_of_mem_take hz)
    have lt : (q1.take m).length = m := by rw [List.length_take]; omega
    refine ⟨vt, rfl, v, rfl, rfl, rfl, vt, v, q1.take m, 0, q0, 4, 6, rfl, dt, dp_same t29 _ _ dv23, wq.pos, wq.sz, pzt, by omega, by omega, fun L5 us5 H30 s30 nL5 hL5 dL5 => ?_⟩
    obtain ⟨a5, b5, xs5, rfl, ha5, hb5, hxs5⟩ := dp_row (dp_same s30 _ _ dt)
    refine ⟨.ref L1, rfl, .ref a5, rfl, a5, _, 0, _, rfl, rfl, ha5, atI_nat (j := 0) rfl, b5, _, rfl, .inr hb5, _, _, rfl, rfl, _, rfl, L1, _, rfl, la29.same s30, fun M7 H31 s31 nM7 lM7 => ?_⟩
    have lx5 : xs5.length = m := by rw [dps_len hxs5, frs_len, lt]
    have ec : cutG (roomsQ q0 q1) none (some ((xs5.length : Int) + 1)) = roomsQ q0 (q1.take m) := by
      rw [rooms_take q1 q0 m hm, lx5]
      exact cutG_to _ (m + 1)
    rw [ec] at lM7
    refine ⟨.ref L5, .ref M7, _, rfl, (Lq.same ⟨us5, hL5, dL5⟩ s31).dp, lM7.dp, okD_frs 3 _ (by rw [roomsQ_len]; omega), fun H32 s32 => ⟨true, rfl, iteT ?_⟩⟩
    have t32 := t29.trans (s30.trans (s31.trans s32))
    obtain ⟨a6, b6, xs6, rfl, ha6, hb6, hxs6⟩ := dp_row (dp_same (t23.trans t32) _ _ dr2)
    have wz12 : ∀ z ∈ roomsQ q0 (q1 ++ q2), 0 < z ∧ Sz 200 z := fun z hz => by
      have r := roomsQ_ok (c := 6) (q1 ++ q2) q0 4 wq.pos wq.sz pz12 z hz
      rw [List.length_append] at r
      exact ⟨r.1, r.2.mono (by omega)⟩
    refine ⟨.ref L2, rfl, .ref a6, rfl, a6, _, 1, _, rfl, rfl, ha6, atI_nat (j := 1) rfl, rfl, rfl, .ref L2, _, x, 200, rfl, .inl (lr23.same t32).dp, wz12, by rw [roomsQ_len, List.length_append]; omega, by decide, fun vw H33 s33 dw => ?_⟩
    rw [panes_rooms (c := 6) _ _ wq.pos pz12] at dw
    refine ⟨vb, rfl, _, _, dw, dp_same (t32.trans s33) _ _ db23, sh_row _ _, sh_row _ _, ?_⟩
    rw [eqv_self (sh_row _ _)]
    exact q _ (C23.trans (Chg.of_same (t32.trans s33))) ((b23.same (t32.trans s33)).mono (by omega))
end
/-! ### a room put in between two -/
abbrev s__law_between_right : Stmt := topS 35
theorem sc__law_between_right : FnScope ["_law_box_here", "_law_rooms", "_law_at", "_law_weight_here", "_law_panes", "_law_some", "_law_alike", "_law_turn"] ["_law_box_here"] (defScope s__law_between_right) := ⟨rfl, rfl, rfl, by decide +kernel, rfl, by decide +kernel, by decide +kernel⟩
def spBR : Sp := fun vs H Q _ => ∃ (p : Addr) (n : Nat), vs = [.ref p] ∧ Bx H p n ∧ n < 400000 ∧ ∀ H' : Hp, Chg p H H' → Bx H' p (n + 30) → Q (.bl true) H'
theorem dp_tupR {K : PySem.W.Frag} {H : Hp} {v : V} {qs : List Rat} {x : Int} (h : Dp K H v (rowD qs x)) : ∃ a b, v = .ref a ∧ SqT K H a [.ref b, .int x] ∧ Dp K H (.ref b) (.tuple (frs qs)) := by
  obtain ⟨a, b, xs, rfl, h1, h2, h3⟩ := dp_row h
  exact ⟨a, b, rfl, h1, .tup h2 h3⟩
theorem split_at {ws : List Rat} {j : Nat} (h : j + 1 < ws.length) : ∃ (A : List Rat) (a b : Rat) (B : List Rat), ws = A ++ a :: b :: B ∧ A.length = j := by
  refine ⟨ws.take j, ws[j], ws[j + 1], ws.drop (j + 2), ?_, by rw [List.length_take]; omega⟩
  conv => lhs; rw [← List.take_append_drop j ws]
  rw [List.drop_eq_getElem_cons (show j < ws.length by omega), List.drop_eq_getElem_cons h]
section
variable {P : Program} {w : World} {K : PySem.W.Frag} {mg : Str → Option Value} {base : Heap}
theorem ok_br {f fW fWt fK fSh : Addr} {fd fdW fdWt fdK fdSh : FuncData} {ds : List Value} {k : Nat} (F : Fun K "_law_between_right" "_law_between_right" s__law_between_right f fd) (T : Frees mg) (W : Row P w K mg base k fW fdW ds)
    (cW : Cal P w K mg base k "_law_weight" ["_law_box_here"] (spWeight K) fWt fdWt) (cK : Cal P w K mg base k "_law_take" ["_law_box_here", "_law_size"] spTake fK fdK)
    (cSh : Cal P w K mg base k "_law_share" ["_law_panes"] (spShare K) fSh fdSh) : FnOk P w K mg base CX0 (k + 1) f fd ["_law_box_here"] spBR := by
  refine F.ok sc__law_between_right (fun vs H Q E h => ?_) (fun cdv A outer s H vs Q E hr h => ?_)
  · obtain ⟨p, n, rfl, _⟩ := h
    rfl
  · obtain ⟨p, n, rfl, hb, hn, q⟩ := h
    refine ⟨_, (pss_cons (ps_setLc (i := 1) (own := [("_law_turn", 7)]) (g := (gName 7)) (tt := tYes) rfl sc__law_between_right.nd rfl rfl (sw_true rfl rfl rfl (by decide +kernel)) (pi_range1 (by rfl) T.mrange (pa_cons (pe_op op_add pe_int (pe_c cK hr (by rfl) (pa_cons (pv 0) (pa_cons pe_int pa_nil)))) pa_nil)) (blkOk_by (N := ["_law_box_here", "_law_rooms", "_law_at", "_law_weight_here", "_law_panes", "_law_some", "_law_alike", "_law_turn"]) (sc := defScope s__law_between_right) (by decide +kernel)) (fun _ _ _ _ _ => pg_name (i := 7) sc__law_between_right.nd rfl (.inl rfl)) (fun _ _ _ _ _ => pts_nil) (fun _ _ _ _ _ => (pe_c cW hr (by rfl) (pa_cons (pv 0) pa_nil))))
      (pss_cons (ps_par (by rfl) sc__law_between_right.nd (i := 2) (j := 3) rfl rfl (by decide) rfl rfl (pa_cons (pe_op op_add pe_int (pe_c cK hr (by rfl) (pa_cons (pv 0) (pa_cons (pe_op op_sub (pe_callB call_len_seq (by rfl) T.mlen PySem.boot_len (pa_cons (pv 1) pa_nil)) pe_int) pa_nil)))) (pa_cons (pe_c cW hr (by rfl) (pa_cons (pv 0) pa_nil)) pa_nil)) (by rfl))
      (pss_cons (ps_set (i := 4) sc__law_between_right.nd rfl (.inl rfl) (pe_ix ix_tup (pe_call W.ok hr (by rfl) W.at_ W.kp W.bd W.vd pass0 (pa_cons (pv 1) pa_nil)) pe_int (fun _ _ => rfl)))
      (pss_cons (ps_set (i := 5) sc__law_between_right.nd rfl (.inl rfl) (pe_ix ix_tup (pe_call W.ok hr (by rfl) W.at_ W.kp W.bd W.vd pass0 (pa_cons (pe_op op_catLq (pe_op op_catLq (pe_slice sl_lq (pv 1) po_none (po_some (pv 2))) (pe_lst (pa_cons (pv 3) pa_nil))) (pe_slice sl_lq (pv 1) (po_some (pv 2)) po_none)) pa_nil)) pe_int (fun _ _ => rfl)))
      (pss_cons (ps_if (PW.pt (pw_or (pt_cmpR (op_neD hr.units) (pe_op op_catD (pe_slice sl_tupD (pv 5) po_none (po_some (pe_op op_sub (pv 2) pe_int))) (pe_slice sl_tupD (pv 5) (po_some (pe_op op_add (pv 2) pe_int)) po_none)) (pe_op op_catD (pe_slice sl_tupD (pv 4) po_none (po_some (pe_op op_sub (pv 2) pe_int))) (pe_slice sl_tupD (pv 4) (po_some (pv 2)) po_none)) (nomark _)) (pw_or1 (pt_cmpR op_ne (pe_callB call_len_seq (by rfl) T.mlen PySem.boot_len (pa_cons (pv 5) pa_nil)) (pe_op op_add (pe_callB call_len_seq (by rfl) T.mlen PySem.boot_len (pa_cons (pv 4) pa_nil)) pe_int) (nomark _))))) pss_never pss_nil)
      (pss_cons (ps_if (pt_cmpR (op_neD hr.units) (pe_c cSh hr (by rfl) (pa_cons (pe_slice sl_tupD (pv 5) (po_some (pe_op op_sub (pv 2) pe_int)) (po_some (pe_op op_add (pv 2) pe_int))) pa_nil)) (pe_c cSh hr (by rfl) (pa_cons (pe_slice sl_tupD (pv 4) (po_some (pe_op op_sub (pv 2) pe_int)) (po_some (pv 2))) pa_nil)) (nomark _)) pss_never pss_nil)
      (pss_cons (ps_set (i := 6) sc__law_between_right.nd rfl (.inl rfl) (pe_ix ix_tup (pe_call W.ok hr (by rfl) W.at_ W.kp W.bd W.vd pass0 (pa_cons (pe_op op_catLq (pe_slice sl_lq (pv 1) po_none (po_some (pv 2))) (pe_slice sl_lq (pv 1) (po_some (pe_op op_sub (pv 2) pe_int)) po_none)) pa_nil)) pe_int (fun _ _ => rfl)))
      (pss_one (ps_ret (pe_and (pe_cmpR (op_eqD hr.units) (pe_ix ix_tup (pv 6) (pe_op op_sub (pv 2) pe_int) (fun _ _ => rfl)) (pe_tup (pa_cons pe_int (pa_cons pe_int pa_nil))) (nomark _)) (pe_one (pe_cmpR (op_eqD hr.units) (pe_op op_catD (pe_slice sl_tupD (pv 6) po_none (po_some (pe_op op_sub (pv 2) pe_int))) (pe_slice sl_tupD (pv 6) (po_some (pv 2)) po_none)) (pv 4) (nomark _))))))))))))), ?_⟩
    -- rooms
    refine ⟨.ref p, rfl, p, 6, n, rfl, hb, by omega, by decide, by decide, fun r H1 h0 h1 c1 b1 => ?_⟩
    refine ⟨_, _, rfl, rfl, 2 + r, rfl, by omega, by omega, fun L nL => lc_it walk_range (fun i H2 => ∃ (vs : List V) (ws : List Rat), Chg p H H2 ∧ Bx H2 p (n + 1 + 2 * i) ∧ H2 L = some (.lst vs) ∧ DpAll K H2 vs (frs ws) ∧ (∀ z ∈ ws, WtQ 4 z) ∧ ws.length = i) ⟨[], [], c1.trans (Chg.of_same (same_upd nL)), b1.same (same_upd nL), upd_same, .nil, by simp, rfl⟩ (fun _ _ _ _ => trivial) ?_ ?_⟩
    · rintro i y H2 H2' hi ⟨vs, ws, C2, B2, hL, dL, wq, hl⟩ ⟨rfl, rfl⟩
      have nLp : L ≠ p := b1.ne nL
      have nLH : H L = none := c1.free nLp nL
      refine ⟨rfl, .ref p, rfl, p, _, rfl, B2, by omega, fun v H3 z wz c3 b3 d3 => ?_⟩
      have hL3 := c3 _ _ nLp hL
      refine ⟨vs, hL3, ?_, vs ++ [v], ws ++ [z], (C2.trans c3).new_upd nLH, (b3.other nLp.symm).mono (by omega), upd_same, dps_put hL3 (noL_frs _) (dps_snoc (B2.dps c3 dL (noL_frs _)) d3), ?_, by rw [List.length_append, hl]; rfl⟩
      · rw [dps_len dL, frs_len]
        exact small1000 (by omega)
      · intro z2 h2
        rcases List.mem_append.mp h2 with h2 | h2
        · exact wq _ h2
        · rw [List.mem_singleton.mp h2]
          exact wz
    · rintro H2 ⟨vs, ws, C2, B2, hL, dL, wq, hl⟩
      have nLp : L ≠ p := b1.ne nL
      have lq2 : Lq K H2 L ws := ⟨vs, hL, dL⟩
      have hvl : vs.length = ws.length := by rw [dps_len dL, frs_len]
      -- at, weight
      refine ⟨.ref p, rfl, .ref L, rfl, L, _, rfl, .inl (SqL.of hL), _, _, rfl, rfl, p, _, _, rfl, B2, by omega, by omega, by omega, fun r2 H3 h20 h21 c3 b3 => ?_⟩
      obtain ⟨j, rfl⟩ : ∃ j : Nat, r2 = (j : Int) := ⟨r2.toNat, by omega⟩
      refine ⟨_, _, rfl, rfl, .ref p, rfl, p, _, rfl, b3, by omega, fun vw H4 wv wz c4 b4 d4 => ⟨_, _, rfl, ?_⟩⟩
      obtain ⟨A, a, b, B, ews, hA⟩ := split_at (ws := ws) (j := j) (by omega)
      have lq4 : Lq K H4 L ws := b3.lq c4 (B2.lq c3 lq2 nLp) nLp
      have C4 := C2.trans (c3.trans c4)
      have wl : ws.length ≤ 7 := by omega
      have wz4 : ∀ z ∈ ws, 0 < z ∧ Sz 4 z := fun z hz => ⟨(wq z hz).pos, (wq z hz).sz⟩
      have ha := wz4 a (by rw [ews]; simp)
      have hb' := wz4 b (by rw [ews]; simp)
      have eAt : ws.take (j + 1) = A ++ [a] := by
        rw [ews, ← hA, List.take_length_add_append]
        rfl
      have eFrom : ws.drop (j + 1) = b :: B := by
        rw [ews, ← hA]
        simp
      have eFrom0 : ws.drop j = a :: b :: B := by
        rw [ews, ← hA]
        simp
      have lA : A.length + B.length + 2 ≤ 7 := by
        rw [ews] at wl
        simp at wl
        omega
      -- panes
      refine ⟨.ref L, rfl, .ref L, ws, 0, 4, rfl, .inl lq4.dp, wz4, by omega, by decide, fun v5 H5 s5 d5 => ?_⟩
      obtain ⟨a5, b5, rfl, ha5, hb5⟩ := dp_tupR d5
      refine ⟨a5, _, 0, _, rfl, rfl, ha5, atI_nat (j := 0) rfl, ?_⟩
      -- some
      have lq5 := lq4.same s5
      refine ⟨.ref L, rfl, _, rfl, _, rfl, L, ws, rfl, lq5, fun M1 H6 s6 nM1 lM1 => ?_⟩
      rw [cut_to_i (n := j + 1) (by omega), eAt] at lM1
      refine ⟨vw, rfl, (by decide : 1 ≤ sizeLine), fun M2 nM2 => ?_⟩
      have s7 := same_upd (o := .lst [vw]) nM2
      have lM2 : Lq K _ M2 [wv] := Lq.new nM2 (.cons (dp_same (s5.trans s6) _ _ d4) .nil)
      refine ⟨M1, M2, _, _, rfl, rfl, lM1.same s7, lM2, by simp; omega, fun M3 H8 s8 nM3 lM3 => ?_⟩
      have t8 := s6.trans (s7.trans s8)
      refine ⟨.ref L, rfl, _, rfl, _, rfl, L, ws, rfl, lq5.same t8, fun M4 H9 s9 nM4 lM4 => ?_⟩
      rw [cut_from_i (n := j + 1) (by omega), eFrom] at lM4
      refine ⟨M3, M4, _, _, rfl, rfl, lM3.same s9, lM4, by simp; omega, fun M5 H10 s10 nM5 lM5 => ?_⟩
      have e5 : A ++ [a] ++ [wv] ++ b :: B = A ++ a :: wv :: b :: B := by simp
      rw [e5] at lM5
      have wz5 : ∀ z ∈ A ++ a :: wv :: b :: B, 0 < z ∧ Sz 4 z := fun z hz => by
        by_cases hz2 : z = wv
        · rw [hz2]
          exact ⟨wz.pos, wz.sz⟩
        · refine wz4 z ?_
          rw [ews]
          simp at hz ⊢
          rcases hz with h | h | h | h | h
          · exact .inl h
          · exact .inr (.inl h)
          · exact absurd h hz2
          · exact .inr (.inr (.inl h))
          · exact .inr (.inr (.inr h))
      refine ⟨.ref M5, _, 0, 4, rfl, .inl lM5.dp, wz5, by simp; omega, by decide, fun v11 H11 s11 d11 => ?_⟩
      obtain ⟨a11, b11, rfl, ha11, hb11⟩ := dp_tupR d11
      refine ⟨a11, _, 0, _, rfl, rfl, ha11, atI_nat (j := 0) rfl, ?_⟩
      rw [panesQ_amid] at hb11
      have t11 := t8.trans (s9.trans (s10.trans s11))
      have pw := dp_same t11 _ _ hb5
      rw [ews, panesQ_amid] at pw
      have hP : (panesQ (A ++ [a])).length = j := by
        rw [panesQ_len]
        simp
        omega
      have okP : ∀ z ∈ panesQ ws, PaneZ 18 z := panesQ_ok (c := 4) ws wz4
      have okS : ∀ z ∈ panesQ (A ++ a :: wv :: b :: B), PaneZ 18 z := panesQ_ok (c := 4) _ wz5
      rw [ews, panesQ_amid] at okP
      rw [panesQ_amid] at okS
      have eS : panesQ (wv :: b :: B) = ((wv - b) / (wv + b)) :: panesQ (b :: B) := rfl
      rw [eS] at hb11 okS
      have eAl : panesQ (A ++ a :: a :: b :: B) = panesQ (A ++ [a]) ++ 0 :: ((a - b) / (a + b)) :: panesQ (b :: B) := by
        have e0 : (a - a) / (a + a) = 0 := by
          have h1 := ha.1
          have h2 : a + a ≠ 0 := by grind
          grind
        rw [panesQ_amid, e0]
        rfl
      have hS : (panesQ (b :: B)).length = B.length := by
        rw [panesQ_len]
        simp
      have hPl : (panesQ (A ++ [a])).length ≤ 7 := by omega
      generalize panesQ (A ++ [a]) = PA at *
      generalize panesQ (b :: B) = SB at *
      have st := share_two (a := a) (b := b) (v := wv) ha.1 hb'.1 wz.pos
      generalize (a - wv) / (a + wv) = y at *
      generalize (wv - b) / (wv + b) = z at *
      generalize (a - b) / (a + b) = x at *
      have lq11 := lq5.same t11
      show tSeq _ _ _ [some (.ref p), some (.ref L), some (.int (1 + (j : Int))), some vw, some (.ref b5), some (.ref b11), none, none] _
      -- the first test
      have k1 : cutG (frs (PA ++ y :: z :: SB)) none (some (1 + (j : Int) - 1)) = frs PA := by
        rw [cut_frs, cut_to_i (n := j) (by omega)]
        congr 1
        rw [← hP]
        simp
      have k2 : cutG (frs (PA ++ y :: z :: SB)) (some (1 + (j : Int) + 1)) none = frs SB := by
        rw [cut_frs, cut_from_i (n := j + 2) (by omega)]
        congr 1
        rw [← hP]
        simp
      have k3 : cutG (frs (PA ++ x :: SB)) none (some (1 + (j : Int) - 1)) = frs PA := by
        rw [cut_frs, cut_to_i (n := j) (by omega)]
        congr 1
        rw [← hP]
        simp
      have k4 : cutG (frs (PA ++ x :: SB)) (some (1 + (j : Int))) none = frs SB := by
        rw [cut_frs, cut_from_i (n := j + 1) (by omega)]
        congr 1
        rw [← hP]
        simp
      refine ⟨.ref b11, rfl, _, rfl, _, _, rfl, rfl, _, rfl, _, hb11, fun g1 H12 s12 e1 => ?_⟩
      rw [k1] at e1
      refine ⟨.ref b11, rfl, _, rfl, _, _, rfl, rfl, _, rfl, _, dp_same s12 _ _ hb11, fun g2 H13 s13 e2 => ?_⟩
      rw [k2] at e2
      refine ⟨_, _, dp_same s13 _ _ e1, e2, by rw [frs_len, frs_len]; omega, fun g3 H14 s14 e3 => ?_⟩
      have t14 := s12.trans (s13.trans s14)
      refine ⟨.ref b5, rfl, _, rfl, _, _, rfl, rfl, _, rfl, _, dp_same t14 _ _ pw, fun g4 H15 s15 e4 => ?_⟩
      rw [k3] at e4
      refine ⟨.ref b5, rfl, _, rfl, _, rfl, _, dp_same (t14.trans s15) _ _ pw, fun g5 H16 s16 e5 => ?_⟩
      rw [k4] at e5
      refine ⟨_, _, dp_same s16 _ _ e4, e5, by rw [frs_len, frs_len]; omega, fun g6 H17 s17 e6 => ?_⟩
      have t17 := t14.trans (s15.trans (s16.trans s17))
      rw [← frs_app] at e3 e6
      refine ⟨_, _, dp_same (s15.trans (s16.trans s17)) _ _ e3, e6, sh_frs _, sh_frs _, _, rfl, ?_⟩
      rw [eqv_self (sh_frs _)]
      refine iteF ?_
      obtain ⟨aS, xS, eaS, haS, hxS⟩ := dp_tup (dp_same t17 _ _ hb11)
      obtain ⟨aP, xP, eaP, haP, hxP⟩ := dp_tup (dp_same t17 _ _ pw)
      cases eaS
      cases eaP
      refine ⟨.ref b11, rfl, b11, xS, rfl, .inr haS, .ref b5, rfl, b5, xP, rfl, .inr haP, _, _, rfl, rfl, rfl, _, rfl, iteNS ?_ ?_⟩
      · rw [dps_len hxS, dps_len hxP, frs_len, frs_len]
        simp
        omega
      -- the shares
      refine ⟨.ref b11, rfl, _, rfl, _, _, rfl, rfl, _, rfl, _, rfl, _, _, rfl, rfl, _, rfl, _, dp_same t17 _ _ hb11, fun g7 H18 s18 e7 => ?_⟩
      have k5 : cutG (frs (PA ++ y :: z :: SB)) (some (1 + (j : Int) - 1)) (some (1 + (j : Int) + 1)) = frs [y, z] := by
        rw [cut_frs, cut_amid_i (n := j) (m := j + 2) (by omega) (by omega)]
        congr 1
        rw [← hP]
        simp
      rw [k5] at e7
      refine ⟨g7, [y, z], 18, rfl, e7, fun t ht => okS t (by simp at ht ⊢; rcases ht with h | h; exact .inr (.inl h); exact .inr (.inr (.inl h))), (by decide : 1 + (2 * 18 + 4) * (2 + 1) < 9000), fun g8 H19 s19 e8 => ?_⟩
      have t19 := t17.trans (s18.trans s19)
      refine ⟨.ref b5, rfl, _, rfl, _, _, rfl, rfl, _, rfl, _, rfl, _, rfl, _, dp_same t19 _ _ pw, fun g9 H20 s20 e9 => ?_⟩
      have k6 : cutG (frs (PA ++ x :: SB)) (some (1 + (j : Int) - 1)) (some (1 + (j : Int))) = frs [x] := by
        rw [cut_frs, cut_amid_i (n := j) (m := j + 1) (by omega) (by omega)]
        congr 1
        rw [← hP]
        simp
      rw [k6] at e9
      refine ⟨g9, [x], 18, rfl, e9, fun t ht => okP t (by simp at ht ⊢; exact .inr (.inl ht)), (by decide : 1 + (2 * 18 + 4) * (1 + 1) < 9000), fun g10 H21 s21 e10 => ?_⟩
      rw [st] at e8
      refine ⟨_, _, dp_same (s20.trans s21) _ _ e8, e10, sh_fr _, sh_fr _, _, rfl, ?_⟩
      rw [eqv_self (sh_fr _)]
      refine iteF ?_
      have t21 := t19.trans (s20.trans s21)
      -- alike
      have lq21 := lq11.same t21
      refine ⟨.ref L, rfl, _, rfl, _, rfl, L, ws, rfl, lq21, fun M6 H22 s22 nM6 lM6 => ?_⟩
      rw [cut_to_i (n := j + 1) (by omega), eAt] at lM6
      refine ⟨.ref L, rfl, _, rfl, _, _, rfl, rfl, _, rfl, L, ws, rfl, lq21.same s22, fun M7 H23 s23 nM7 lM7 => ?_⟩
      rw [cut_from_i (n := j) (by omega), eFrom0] at lM7
      refine ⟨M6, M7, _, _, rfl, rfl, lM6.same s23, lM7, by simp; omega, fun M8 H24 s24 nM8 lM8 => ?_⟩
      have e6' : A ++ [a] ++ a :: b :: B = A ++ a :: a :: b :: B := by simp
      rw [e6'] at lM8
      have wz6 : ∀ t ∈ A ++ a :: a :: b :: B, 0 < t ∧ Sz 4 t := fun t ht => wz4 t (by
        rw [ews]
        simp at ht ⊢
        exact ht)
      refine ⟨.ref M8, _, 0, 4, rfl, .inl lM8.dp, wz6, by simp; omega, by decide, fun v25 H25 s25 d25 => ?_⟩
      obtain ⟨a25, b25, rfl, ha25, hb25⟩ := dp_tupR d25
      refine ⟨a25, _, 0, _, rfl, rfl, ha25, atI_nat (j := 0) rfl, ?_⟩
      rw [eAl] at hb25
      have t25 := t21.trans (s22.trans (s23.trans (s24.trans s25)))
      have pw25 := dp_same t25 _ _ pw
      obtain ⟨aQ, xQ, eaQ, haQ, hxQ⟩ := dp_tup hb25
      cases eaQ
      have hlQ : xQ.length = PA.length + SB.length + 2 := by
        rw [dps_len hxQ, frs_len]
        simp
        omega
      have hjQ : j < xQ.length := by omega
      have exQ : xQ[j]? = some xQ[j] := List.getElem?_eq_getElem hjQ
      obtain ⟨dd, hdd, dxQ⟩ := dps_get hxQ exQ
      have e0 : dd = frD 0 := by
        obtain ⟨z0, hz0, rfl⟩ := frs_get hdd
        rw [← hP, List.getElem?_append_right (Nat.le_refl _), Nat.sub_self] at hz0
        rw [Option.some.inj hz0]
      subst e0
      refine ⟨.ref b25, rfl, _, rfl, _, _, rfl, rfl, b25, _, _, _, rfl, rfl, haQ, at_of (j := j) (by omega) exQ, (by decide : 2 ≤ sizeLine), fun o1 no1 => ?_⟩
      have s26 := same_upd (o := .tup [.int 0, .int 1]) no1
      refine ⟨_, _, dp_same s26 _ _ dxQ, new_q no1 0 rfl rfl, sh_fr _, sh_fr _, _, rfl, ?_⟩
      rw [eqv_self (sh_fr _)]
      refine iteT ?_
      have k7 : cutG (frs (PA ++ 0 :: x :: SB)) none (some (1 + (j : Int) - 1)) = frs PA := by
        rw [cut_frs, cut_to_i (n := j) (by omega)]
        congr 1
        rw [← hP]
        simp
      have k8 : cutG (frs (PA ++ 0 :: x :: SB)) (some (1 + (j : Int))) none = frs (x :: SB) := by
        rw [cut_frs, cut_from_i (n := j + 1) (by omega)]
        congr 1
        rw [← hP]
        simp
      refine ⟨.ref b25, rfl, _, rfl, _, _, rfl, rfl, _, rfl, _, dp_same s26 _ _ hb25, fun g11 H27 s27 e11 => ?_⟩
      rw [k7] at e11
      refine ⟨.ref b25, rfl, _, rfl, _, rfl, _, dp_same (s26.trans s27) _ _ hb25, fun g12 H28 s28 e12 => ?_⟩
      rw [k8] at e12
      refine ⟨_, _, dp_same s28 _ _ e11, e12, by rw [frs_len, frs_len]; simp; omega, fun g13 H29 s29 e13 => ?_⟩
      rw [← frs_app] at e13
      have t29 := s26.trans (s27.trans (s28.trans s29))
      refine ⟨.ref b5, rfl, _, _, e13, dp_same t29 _ _ pw25, sh_frs _, sh_frs _, ?_⟩
      rw [eqv_self (sh_frs _)]
      have S29 := s5.trans (t11.trans (t25.trans t29))
      exact q _ (C4.trans (Chg.of_same S29)) ((b4.same S29).mono (by omega))
end
/-! ### the law -/
abbrev s_law : Stmt := topS 36
theorem sc_law : FnScope ["_law_script", "_law_k", "_law_box_here", "_law_one", "_law_two"] ["_law_script"] (defScope s_law) := ⟨rfl, rfl, rfl, by decide +kernel, rfl, by decide +kernel, by decide +kernel⟩
def spLaw (K : PySem.W.Frag) : Sp := fun vs H Q _ => ∃ (a : Addr) (ns : List Int), vs = [.ref a] ∧ SqL K H a (ns.map V.int) ∧ ns.length ≤ 63 ∧ ∀ H', Q (.bl true) H'
section
variable {P : Program} {w : World} {K : PySem.W.Frag} {mg : Str → Option Value} {base : Heap}
theorem ok_law {f f1 f2 f3 f4 f5 : Addr} {fd fd1 fd2 fd3 fd4 fd5 : FuncData} {k : Nat} (F : Fun K "law" "law" s_law f fd) (T : Frees mg)
    (cBox : Cal P w K mg base k "_law_box" ["_law_script", "_law_k"] (spBox K) f1 fd1) (cRow : Cal P w K mg base k "_law_row" ["_law_box_here", "_law_most"] (spRow K) f2 fd2) (cW : Cal P w K mg base k "_law_weight" ["_law_box_here"] (spWeight K) f3 fd3)
    (cJR : Cal P w K mg base k "_law_joined_right" ["_law_box_here", "_law_one", "_law_two", "_law_start"] (spJR K) f4 fd4) (cBR : Cal P w K mg base k "_law_between_right" ["_law_box_here"] spBR f5 fd5) :
    FnOk P w K mg base CX0 (k + 1) f fd ["_law_script"] (spLaw K) := by
  refine F.ok sc_law (fun vs H Q E h => ?_) (fun cdv A outer s H vs Q E hr h => ?_)
  · obtain ⟨a, ns, rfl, _⟩ := h
    rfl
  · obtain ⟨a, ns, rfl, hS, hlen, q⟩ := h
    refine ⟨_, (pss_cons (ps_for PassesOwn.never rfl (pi_range1 (by rfl) T.mrange (pa_cons (pe_op op_add pe_int (pe_callB (call_min2 rfl) (by rfl) T.mmin PyProof.Rows.boot_min (pa_cons pe_int (pa_cons (pe_callB call_len_seq (by rfl) T.mlen PySem.boot_len (pa_cons (pv 0) pa_nil)) pa_nil)))) pa_nil)) (pg_name (i := 1) sc_law.nd rfl (.inl rfl))
      (pss_cons (ps_set (i := 2) sc_law.nd rfl (.inl rfl) (pe_c cBox hr (by rfl) (pa_cons (pv 0) (pa_cons (pv 1) pa_nil))))
      (pss_cons (ps_par (by rfl) sc_law.nd (i := 3) (j := 4) rfl rfl (by decide) rfl rfl (pa_cons (pe_tup (pa_cons (pe_ix ix_tup (pe_c cRow hr (by rfl) (pa_cons (pv 2) (pa_cons pe_int pa_nil))) pe_int (fun _ _ => rfl)) (pa_cons pe_int pa_nil))) (pa_cons (pe_c cRow hr (by rfl) (pa_cons (pv 2) (pa_cons pe_int pa_nil))) pa_nil)) (by rfl))
      (pss_one (ps_if (PW.pt (pw_or (pt_not (pt_val (pe_c cJR hr (by rfl) (pa_cons (pv 2) (pa_cons (pv 3) (pa_cons (pv 4) (pa_cons (pe_c cW hr (by rfl) (pa_cons (pv 2) pa_nil)) pa_nil))))))) (pw_or1 (pt_not (pt_val (pe_c cBR hr (by rfl) (pa_cons (pv 2) pa_nil))))))) pss_never pss_nil)))))
      (pss_one (ps_ret pe_bl))), ?_⟩
    refine ⟨.ref a, rfl, a, _, rfl, .inl hS, 7, _, rfl, _, _, rfl, rfl, _, rfl, ?_, ?_, ?_⟩
    · split <;> omega
    · split <;> omega
    · have hn : ∀ m : Int, m = (ns.map V.int).length → (1 + if m < 7 then m else 7).toNat ≤ 8 := fun m _ => by split <;> omega
      refine for_it walk_range (fun i σ H2 => ∃ e1 e2 e3 e4 : Option V, σ = [some (.ref a), e1, e2, e3, e4] ∧ Same H H2) ⟨none, none, none, none, rfl, Same.refl H⟩ (fun _ _ _ _ _ => trivial) ?_ ?_
      · rintro i y σ H0 H0' hi ⟨e1, e2, e3, e4, rfl, s0⟩ ⟨rfl, rfl⟩
        have hi8 : i < 8 := Nat.lt_of_lt_of_le hi (hn _ rfl)
        refine ⟨.ref a, rfl, _, rfl, a, _, ns, rfl, s0.seq hS, by omega, by omega, fun p H1 np s1 b1 => ?_⟩
        -- one, two
        refine ⟨.ref p, rfl, p, 6, 0, rfl, b1, by decide, by decide, fun v1 H2 q1 x1 pq1 hl1 hx1 c2 b2 d1 => ?_⟩
        obtain ⟨a1, b1', rfl, ha1, hb1⟩ := dp_tupR d1
        refine ⟨a1, _, 0, _, rfl, rfl, ha1, atI_nat (j := 0) rfl, (by decide : 2 ≤ sizeLine), fun o no => ?_⟩
        have s3 := same_upd (o := .tup [.ref b1', .int 0]) no
        have dA : Dp K _ (.ref o) (rowD q1 0) := new_rowD no hb1
        refine ⟨.ref p, rfl, p, 6, _, rfl, b2.same s3, by omega, by decide, fun v2 H4 q2 x2 pq2 hl2 hx2 c4 b4 d2 => ⟨_, _, rfl, ?_⟩⟩
        have dA4 := (b2.same s3).dp c4 dA (noL_row _ _)
        -- the tests
        refine ⟨.ref p, rfl, .ref o, rfl, v2, rfl, .ref p, rfl, p, _, rfl, b4, by omega, fun vw H5 q0 wq c5 b5 d5 => ?_⟩
        refine ⟨p, .ref o, v2, vw, q1, q2, x2, q0, _, rfl, b5, by omega, b4.dp c5 dA4 (noL_row _ _), b4.dp c5 d2 (noL_row _ _), d5, wq, fun z hz => (pq1 z hz).z, fun z hz => (pq2 z hz).z, hl1, hl2, fun H6 c6 b6 => ⟨true, rfl, iteF ?_⟩⟩
        refine ⟨.ref p, rfl, p, _, rfl, b6, by omega, fun H7 c7 b7 => ⟨true, rfl, iteF ?_⟩⟩
        exact ⟨_, _, _, _, rfl, s0.trans (Same.chg_new s1 np (c2.trans ((Chg.of_same s3).trans (c4.trans (c5.trans (c6.trans c7))))))⟩
      · rintro σ H2 ⟨e1, e2, e3, e4, rfl, s2⟩
        exact q _
end
/-! ### what the top has written -/
theorem all_mk {l : PySem.W.OpenLaw} {w : World} {K : PySem.W.Frag} {h : Heap} {mg : Str → Option Value} {fa : Addr} (X : K.In h) (G : h.Ns mainGlobals mg) (hfa : mg "law" = some (.ref fa))
    {f0 : Addr} {od0 an0 : Option Addr} {sl0 : Array (Option Value)} {oc0 dc0 pm0 cd0 ct0 : Value}
    {kV0 : Value}
    {f1 : Addr} {od1 an1 : Option Addr} {sl1 : Array (Option Value)} {oc1 dc1 pm1 cd1 ct1 : Value}
    {kV1 : Value}
    {f2 : Addr} {od2 an2 : Option Addr} {sl2 : Array (Option Value)} {oc2 dc2 pm2 cd2 ct2 : Value}
    {kV2 : Value}
    {f3 : Addr} {od3 an3 : Option Addr} {sl3 : Array (Option Value)} {oc3 dc3 pm3 cd3 ct3 : Value}
    {kV3 : Value}
    {f4 : Addr} {od4 an4 : Option Addr} {sl4 : Array (Option Value)} {oc4 dc4 pm4 cd4 ct4 : Value}
    {kV4 : Value}
    {f5 : Addr} {od5 an5 : Option Addr} {sl5 : Array (Option Value)} {oc5 dc5 pm5 cd5 ct5 : Value}
    {kV5 : Value}
    {f6 : Addr} {od6 an6 : Option Addr} {sl6 : Array (Option Value)} {oc6 dc6 pm6 cd6 ct6 : Value}
    {D6 : Addr}
    {T6_0 : Addr} {tk6_0_0 tk6_0_1 : Tok} {tn6_0 : Nat} {to6_0 : Option Addr} {ts6_0 : Array (Option Value)}
    {f7 : Addr} {od7 an7 : Option Addr} {sl7 : Array (Option Value)} {oc7 dc7 pm7 cd7 ct7 : Value}
    {D7 : Addr}
    {dk7_0 : Tok}
    {f8 : Addr} {od8 an8 : Option Addr} {sl8 : Array (Option Value)} {oc8 dc8 pm8 cd8 ct8 : Value}
    {kV8 : Value}
    {f9 : Addr} {od9 an9 : Option Addr} {sl9 : Array (Option Value)} {oc9 dc9 pm9 cd9 ct9 : Value}
    {kV9 : Value}
    {f10 : Addr} {od10 an10 : Option Addr} {sl10 : Array (Option Value)} {oc10 dc10 pm10 cd10 ct10 : Value}
    {kV10 : Value}
    {f11 : Addr} {od11 an11 : Option Addr} {sl11 : Array (Option Value)} {oc11 dc11 pm11 cd11 ct11 : Value}
    {kV11 : Value}
    {f12 : Addr} {od12 an12 : Option Addr} {sl12 : Array (Option Value)} {oc12 dc12 pm12 cd12 ct12 : Value}
    {kV12 : Value}
    {f13 : Addr} {od13 an13 : Option Addr} {sl13 : Array (Option Value)} {oc13 dc13 pm13 cd13 ct13 : Value}
    {kV13 : Value}
    {f14 : Addr} {od14 an14 : Option Addr} {sl14 : Array (Option Value)} {oc14 dc14 pm14 cd14 ct14 : Value}
    {kV14 : Value}
    {f15 : Addr} {od15 an15 : Option Addr} {sl15 : Array (Option Value)} {oc15 dc15 pm15 cd15 ct15 : Value}
    {kV15 : Value}
    {f16 : Addr} {od16 an16 : Option Addr} {sl16 : Array (Option Value)} {oc16 dc16 pm16 cd16 ct16 : Value}
    {kV16 : Value}
    {f17 : Addr} {od17 an17 : Option Addr} {sl17 : Array (Option Value)} {oc17 dc17 pm17 cd17 ct17 : Value}
    {kV17 : Value}
    {f18 : Addr} {od18 an18 : Option Addr} {sl18 : Array (Option Value)} {oc18 dc18 pm18 cd18 ct18 : Value}
    {kV18 : Value}
    {f19 : Addr} {od19 an19 : Option Addr} {sl19 : Array (Option Value)} {oc19 dc19 pm19 cd19 ct19 : Value}
    {kV19 : Value}
    {f20 : Addr} {od20 an20 : Option Addr} {sl20 : Array (Option Value)} {oc20 dc20 pm20 cd20 ct20 : Value}
    {kV20 : Value}
    {f21 : Addr} {od21 an21 : Option Addr} {sl21 : Array (Option Value)} {oc21 dc21 pm21 cd21 ct21 : Value}
    {kV21 : Value}
    {f22 : Addr} {od22 an22 : Option Addr} {sl22 : Array (Option Value)} {oc22 dc22 pm22 cd22 ct22 : Value}
    {kV22 : Value}
    {f23 : Addr} {od23 an23 : Option Addr} {sl23 : Array (Option Value)} {oc23 dc23 pm23 cd23 ct23 : Value}
    {kV23 : Value}
    {f24 : Addr} {od24 an24 : Option Addr} {sl24 : Array (Option Value)} {oc24 dc24 pm24 cd24 ct24 : Value}
    {kV24 : Value}
    {f25 : Addr} {od25 an25 : Option Addr} {sl25 : Array (Option Value)} {oc25 dc25 pm25 cd25 ct25 : Value}
    {kV25 : Value}
    {f26 : Addr} {od26 an26 : Option Addr} {sl26 : Array (Option Value)} {oc26 dc26 pm26 cd26 ct26 : Value}
    {kV26 : Value}
    {f27 : Addr} {od27 an27 : Option Addr} {sl27 : Array (Option Value)} {oc27 dc27 pm27 cd27 ct27 : Value}
    {kV27 : Value}
    {f28 : Addr} {od28 an28 : Option Addr} {sl28 : Array (Option Value)} {oc28 dc28 pm28 cd28 ct28 : Value}
    {kV28 : Value}
    {G0 : Addr} {gk0_0 gk0_1 : Tok} {gn0 : Nat} {go0 : Option Addr} {gs0 : Array (Option Value)}
    {G1 : Addr} {gk1_0 gk1_1 : Tok} {gn1 : Nat} {go1 : Option Addr} {gs1 : Array (Option Value)}
    (a0 : PySem.W.nsIn K mainGlobals "common_part" = some (some (.ref f0))) (l0 : K.lookup f0 = some ⟨oc0, od0, .func (PySem.W.fnOf "common_part" "common_part" (defArgs sCommon) (defBody sCommon) (defScope sCommon) .none kV0 dc0 pm0 an0 cd0 ct0), sl0⟩) (c0 : PySem.W.codeIn K cd0 "common_part" = true) (k0 : PySem.W.keepIn K (.ref f0) = true)
    (a1 : PySem.W.nsIn K mainGlobals "fraction" = some (some (.ref f1))) (l1 : K.lookup f1 = some ⟨oc1, od1, .func (PySem.W.fnOf "fraction" "fraction" (defArgs sFraction) (defBody sFraction) (defScope sFraction) .none kV1 dc1 pm1 an1 cd1 ct1), sl1⟩) (c1 : PySem.W.codeIn K cd1 "fraction" = true) (k1 : PySem.W.keepIn K (.ref f1) = true)
    (a2 : PySem.W.nsIn K mainGlobals "plus" = some (some (.ref f2))) (l2 : K.lookup f2 = some ⟨oc2, od2, .func (PySem.W.fnOf "plus" "plus" (defArgs s_plus) (defBody s_plus) (defScope s_plus) .none kV2 dc2 pm2 an2 cd2 ct2), sl2⟩) (c2 : PySem.W.codeIn K cd2 "plus" = true) (k2 : PySem.W.keepIn K (.ref f2) = true)
    (a3 : PySem.W.nsIn K mainGlobals "minus" = some (some (.ref f3))) (l3 : K.lookup f3 = some ⟨oc3, od3, .func (PySem.W.fnOf "minus" "minus" (defArgs s_minus) (defBody s_minus) (defScope s_minus) .none kV3 dc3 pm3 an3 cd3 ct3), sl3⟩) (c3 : PySem.W.codeIn K cd3 "minus" = true) (k3 : PySem.W.keepIn K (.ref f3) = true)
    (a4 : PySem.W.nsIn K mainGlobals "times" = some (some (.ref f4))) (l4 : K.lookup f4 = some ⟨oc4, od4, .func (PySem.W.fnOf "times" "times" (defArgs s_times) (defBody s_times) (defScope s_times) .none kV4 dc4 pm4 an4 cd4 ct4), sl4⟩) (c4 : PySem.W.codeIn K cd4 "times" = true) (k4 : PySem.W.keepIn K (.ref f4) = true)
    (a5 : PySem.W.nsIn K mainGlobals "over" = some (some (.ref f5))) (l5 : K.lookup f5 = some ⟨oc5, od5, .func (PySem.W.fnOf "over" "over" (defArgs s_over) (defBody s_over) (defScope s_over) .none kV5 dc5 pm5 an5 cd5 ct5), sl5⟩) (c5 : PySem.W.codeIn K cd5 "over" = true) (k5 : PySem.W.keepIn K (.ref f5) = true)
    (a6 : PySem.W.nsIn K mainGlobals "rooms_of" = some (some (.ref f6))) (l6 : K.lookup f6 = some ⟨oc6, od6, .func (PySem.W.fnOf "rooms_of" "rooms_of" (defArgs sRoomsOf) (defBody sRoomsOf) (defScope sRoomsOf) .none (.ref D6) dc6 pm6 an6 cd6 ct6), sl6⟩) (c6 : PySem.W.codeIn K cd6 "rooms_of" = true) (k6 : PySem.W.keepIn K (.ref f6) = true)
    (d6_0 : PySem.W.nsIn K D6 "first" = some (some (.ref T6_0))) (t6_0 : K.lookup T6_0 = some ⟨.type "tuple", to6_0, .seq #[.int (1) tk6_0_0, .int (1) tk6_0_1] tn6_0, ts6_0⟩)
    (a7 : PySem.W.nsIn K mainGlobals "row_of" = some (some (.ref f7))) (l7 : K.lookup f7 = some ⟨oc7, od7, .func (PySem.W.fnOf "row_of" "row_of" (defArgs sRowOf) (defBody sRowOf) (defScope sRowOf) .none (.ref D7) dc7 pm7 an7 cd7 ct7), sl7⟩) (c7 : PySem.W.codeIn K cd7 "row_of" = true) (k7 : PySem.W.keepIn K (.ref f7) = true)
    (d7_0 : PySem.W.nsIn K D7 "wall" = some (some (.int (0) dk7_0)))
    (a8 : PySem.W.nsIn K mainGlobals "trimmed" = some (some (.ref f8))) (l8 : K.lookup f8 = some ⟨oc8, od8, .func (PySem.W.fnOf "trimmed" "trimmed" (defArgs s_trimmed) (defBody s_trimmed) (defScope s_trimmed) .none kV8 dc8 pm8 an8 cd8 ct8), sl8⟩) (c8 : PySem.W.codeIn K cd8 "trimmed" = true) (k8 : PySem.W.keepIn K (.ref f8) = true)
    (a9 : PySem.W.nsIn K mainGlobals "mirrored" = some (some (.ref f9))) (l9 : K.lookup f9 = some ⟨oc9, od9, .func (PySem.W.fnOf "mirrored" "mirrored" (defArgs s_mirrored) (defBody s_mirrored) (defScope s_mirrored) .none kV9 dc9 pm9 an9 cd9 ct9), sl9⟩) (c9 : PySem.W.codeIn K cd9 "mirrored" = true) (k9 : PySem.W.keepIn K (.ref f9) = true)
    (a10 : PySem.W.nsIn K mainGlobals "joined" = some (some (.ref f10))) (l10 : K.lookup f10 = some ⟨oc10, od10, .func (PySem.W.fnOf "joined" "joined" (defArgs s_joined) (defBody s_joined) (defScope s_joined) .none kV10 dc10 pm10 an10 cd10 ct10), sl10⟩) (c10 : PySem.W.codeIn K cd10 "joined" = true) (k10 : PySem.W.keepIn K (.ref f10) = true)
    (a11 : PySem.W.nsIn K mainGlobals "_law_cell_at" = some (some (.ref f11))) (l11 : K.lookup f11 = some ⟨oc11, od11, .func (PySem.W.fnOf "_law_cell_at" "_law_cell_at" (defArgs sCell) (defBody sCell) (defScope sCell) .none kV11 dc11 pm11 an11 cd11 ct11), sl11⟩) (c11 : PySem.W.codeIn K cd11 "_law_cell_at" = true) (k11 : PySem.W.keepIn K (.ref f11) = true)
    (a12 : PySem.W.nsIn K mainGlobals "_law_box" = some (some (.ref f12))) (l12 : K.lookup f12 = some ⟨oc12, od12, .func (PySem.W.fnOf "_law_box" "_law_box" (defArgs sBox) (defBody sBox) (defScope sBox) .none kV12 dc12 pm12 an12 cd12 ct12), sl12⟩) (c12 : PySem.W.codeIn K cd12 "_law_box" = true) (k12 : PySem.W.keepIn K (.ref f12) = true)
    (a13 : PySem.W.nsIn K mainGlobals "_law_take" = some (some (.ref f13))) (l13 : K.lookup f13 = some ⟨oc13, od13, .func (PySem.W.fnOf "_law_take" "_law_take" (defArgs sTake) (defBody sTake) (defScope sTake) .none kV13 dc13 pm13 an13 cd13 ct13), sl13⟩) (c13 : PySem.W.codeIn K cd13 "_law_take" = true) (k13 : PySem.W.keepIn K (.ref f13) = true)
    (a14 : PySem.W.nsIn K mainGlobals "_law_of" = some (some (.ref f14))) (l14 : K.lookup f14 = some ⟨oc14, od14, .func (PySem.W.fnOf "_law_of" "_law_of" (defArgs sOf) (defBody sOf) (defScope sOf) .none kV14 dc14 pm14 an14 cd14 ct14), sl14⟩) (c14 : PySem.W.codeIn K cd14 "_law_of" = true) (k14 : PySem.W.keepIn K (.ref f14) = true)
    (a15 : PySem.W.nsIn K mainGlobals "_law_same" = some (some (.ref f15))) (l15 : K.lookup f15 = some ⟨oc15, od15, .func (PySem.W.fnOf "_law_same" "_law_same" (defArgs sSame) (defBody sSame) (defScope sSame) .none kV15 dc15 pm15 an15 cd15 ct15), sl15⟩) (c15 : PySem.W.codeIn K cd15 "_law_same" = true) (k15 : PySem.W.keepIn K (.ref f15) = true)
    (a16 : PySem.W.nsIn K mainGlobals "_law_frac" = some (some (.ref f16))) (l16 : K.lookup f16 = some ⟨oc16, od16, .func (PySem.W.fnOf "_law_frac" "_law_frac" (defArgs sFrac) (defBody sFrac) (defScope sFrac) .none kV16 dc16 pm16 an16 cd16 ct16), sl16⟩) (c16 : PySem.W.codeIn K cd16 "_law_frac" = true) (k16 : PySem.W.keepIn K (.ref f16) = true)
    (a17 : PySem.W.nsIn K mainGlobals "_law_plus" = some (some (.ref f17))) (l17 : K.lookup f17 = some ⟨oc17, od17, .func (PySem.W.fnOf "_law_plus" "_law_plus" (defArgs s__law_plus) (defBody s__law_plus) (defScope s__law_plus) .none kV17 dc17 pm17 an17 cd17 ct17), sl17⟩) (c17 : PySem.W.codeIn K cd17 "_law_plus" = true) (k17 : PySem.W.keepIn K (.ref f17) = true)
    (a18 : PySem.W.nsIn K mainGlobals "_law_less" = some (some (.ref f18))) (l18 : K.lookup f18 = some ⟨oc18, od18, .func (PySem.W.fnOf "_law_less" "_law_less" (defArgs s__law_less) (defBody s__law_less) (defScope s__law_less) .none kV18 dc18 pm18 an18 cd18 ct18), sl18⟩) (c18 : PySem.W.codeIn K cd18 "_law_less" = true) (k18 : PySem.W.keepIn K (.ref f18) = true)
    (a19 : PySem.W.nsIn K mainGlobals "_law_times" = some (some (.ref f19))) (l19 : K.lookup f19 = some ⟨oc19, od19, .func (PySem.W.fnOf "_law_times" "_law_times" (defArgs s__law_times) (defBody s__law_times) (defScope s__law_times) .none kV19 dc19 pm19 an19 cd19 ct19), sl19⟩) (c19 : PySem.W.codeIn K cd19 "_law_times" = true) (k19 : PySem.W.keepIn K (.ref f19) = true)
    (a20 : PySem.W.nsIn K mainGlobals "_law_over" = some (some (.ref f20))) (l20 : K.lookup f20 = some ⟨oc20, od20, .func (PySem.W.fnOf "_law_over" "_law_over" (defArgs s__law_over) (defBody s__law_over) (defScope s__law_over) .none kV20 dc20 pm20 an20 cd20 ct20), sl20⟩) (c20 : PySem.W.codeIn K cd20 "_law_over" = true) (k20 : PySem.W.keepIn K (.ref f20) = true)
    (a21 : PySem.W.nsIn K mainGlobals "_law_pane" = some (some (.ref f21))) (l21 : K.lookup f21 = some ⟨oc21, od21, .func (PySem.W.fnOf "_law_pane" "_law_pane" (defArgs sPane) (defBody sPane) (defScope sPane) .none kV21 dc21 pm21 an21 cd21 ct21), sl21⟩) (c21 : PySem.W.codeIn K cd21 "_law_pane" = true) (k21 : PySem.W.keepIn K (.ref f21) = true)
    (a22 : PySem.W.nsIn K mainGlobals "_law_row" = some (some (.ref f22))) (l22 : K.lookup f22 = some ⟨oc22, od22, .func (PySem.W.fnOf "_law_row" "_law_row" (defArgs sRow) (defBody sRow) (defScope sRow) .none kV22 dc22 pm22 an22 cd22 ct22), sl22⟩) (c22 : PySem.W.codeIn K cd22 "_law_row" = true) (k22 : PySem.W.keepIn K (.ref f22) = true)
    (a23 : PySem.W.nsIn K mainGlobals "_law_weight" = some (some (.ref f23))) (l23 : K.lookup f23 = some ⟨oc23, od23, .func (PySem.W.fnOf "_law_weight" "_law_weight" (defArgs sWeight) (defBody sWeight) (defScope sWeight) .none kV23 dc23 pm23 an23 cd23 ct23), sl23⟩) (c23 : PySem.W.codeIn K cd23 "_law_weight" = true) (k23 : PySem.W.keepIn K (.ref f23) = true)
    (a24 : PySem.W.nsIn K mainGlobals "_law_share" = some (some (.ref f24))) (l24 : K.lookup f24 = some ⟨oc24, od24, .func (PySem.W.fnOf "_law_share" "_law_share" (defArgs s__law_share) (defBody s__law_share) (defScope s__law_share) .none kV24 dc24 pm24 an24 cd24 ct24), sl24⟩) (c24 : PySem.W.codeIn K cd24 "_law_share" = true) (k24 : PySem.W.keepIn K (.ref f24) = true)
    (a25 : PySem.W.nsIn K mainGlobals "_law_strewn" = some (some (.ref f25))) (l25 : K.lookup f25 = some ⟨oc25, od25, .func (PySem.W.fnOf "_law_strewn" "_law_strewn" (defArgs s__law_strewn) (defBody s__law_strewn) (defScope s__law_strewn) .none kV25 dc25 pm25 an25 cd25 ct25), sl25⟩) (c25 : PySem.W.codeIn K cd25 "_law_strewn" = true) (k25 : PySem.W.keepIn K (.ref f25) = true)
    (a26 : PySem.W.nsIn K mainGlobals "_law_joined_right" = some (some (.ref f26))) (l26 : K.lookup f26 = some ⟨oc26, od26, .func (PySem.W.fnOf "_law_joined_right" "_law_joined_right" (defArgs s__law_joined_right) (defBody s__law_joined_right) (defScope s__law_joined_right) .none kV26 dc26 pm26 an26 cd26 ct26), sl26⟩) (c26 : PySem.W.codeIn K cd26 "_law_joined_right" = true) (k26 : PySem.W.keepIn K (.ref f26) = true)
    (a27 : PySem.W.nsIn K mainGlobals "_law_between_right" = some (some (.ref f27))) (l27 : K.lookup f27 = some ⟨oc27, od27, .func (PySem.W.fnOf "_law_between_right" "_law_between_right" (defArgs s__law_between_right) (defBody s__law_between_right) (defScope s__law_between_right) .none kV27 dc27 pm27 an27 cd27 ct27), sl27⟩) (c27 : PySem.W.codeIn K cd27 "_law_between_right" = true) (k27 : PySem.W.keepIn K (.ref f27) = true)
    (a28 : PySem.W.nsIn K mainGlobals "law" = some (some (.ref f28))) (l28 : K.lookup f28 = some ⟨oc28, od28, .func (PySem.W.fnOf "law" "law" (defArgs s_law) (defBody s_law) (defScope s_law) .none kV28 dc28 pm28 an28 cd28 ct28), sl28⟩) (c28 : PySem.W.codeIn K cd28 "law" = true) (k28 : PySem.W.keepIn K (.ref f28) = true)
    (ga0 : PySem.W.nsIn K mainGlobals "ONE" = some (some (.ref G0))) (gl0 : K.lookup G0 = some ⟨.type "tuple", go0, .seq #[.int (1) gk0_0, .int (1) gk0_1] gn0, gs0⟩)
    (ga1 : PySem.W.nsIn K mainGlobals "NOUGHT" = some (some (.ref G1))) (gl1 : K.lookup G1 = some ⟨.type "tuple", go1, .seq #[.int (0) gk1_0, .int (1) gk1_1] gn1, gs1⟩)
    (z0 : PySem.W.nsIn K mainGlobals "abs" = some none)
    (z1 : PySem.W.nsIn K mainGlobals "len" = some none)
    (z2 : PySem.W.nsIn K mainGlobals "int" = some none)
    (z3 : PySem.W.nsIn K mainGlobals "min" = some none)
    (z4 : PySem.W.nsIn K mainGlobals "range" = some none)
    (z5 : PySem.W.nsIn K mainGlobals "tuple" = some none)
    (z6 : PySem.W.nsIn K mainGlobals "zip" = some none)
    (z7 : PySem.W.nsIn K mainGlobals "isinstance" = some none)
    (z8 : PySem.W.nsIn K mainGlobals "dict" = some none)
    (z9 : PySem.W.nsIn K mainGlobals "list" = some none)
    (z10 : PySem.W.nsIn K mainGlobals "all" = some none)
    (z11 : PySem.W.nsIn K mainGlobals "bool" = some none)
    (z12 : PySem.W.nsIn K mainGlobals "str" = some none)
    (z13 : PySem.W.nsIn K mainGlobals "reversed" = some none) :
    ∃ fd : FuncData, (∀ (s : Shared) (v : Value), BindsTo s fd ⟨[v], []⟩ [("_law_script", v)]) ∧ ∀ base : Heap, K.In base → base.Ns mainGlobals mg → FnOk l.prog w K mg base CX0 11 fa fd ["_law_script"] (spLaw K) := by
  have e := hfa.symm.trans (PySem.W.mg_of X G a28)
  cases e
  have F_common_part := fun_mk (st := sCommon) l0 c0 k0
  have b_common_part := F_common_part.binds (ps := ["one", "other"]) fun _ _ _ _ _ _ us hl => match us, hl with | [_, _], _ => rfl
  have g_common_part := PySem.W.mg_of X G a0
  have F_fraction := fun_mk (st := sFraction) l1 c1 k1
  have b_fraction := F_fraction.binds (ps := ["top", "bottom"]) fun _ _ _ _ _ _ us hl => match us, hl with | [_, _], _ => rfl
  have g_fraction := PySem.W.mg_of X G a1
  have F_plus := fun_mk (st := s_plus) l2 c2 k2
  have b_plus := F_plus.binds (ps := ["one", "other"]) fun _ _ _ _ _ _ us hl => match us, hl with | [_, _], _ => rfl
  have g_plus := PySem.W.mg_of X G a2
  have F_minus := fun_mk (st := s_minus) l3 c3 k3
  have b_minus := F_minus.binds (ps := ["one", "other"]) fun _ _ _ _ _ _ us hl => match us, hl with | [_, _], _ => rfl
  have g_minus := PySem.W.mg_of X G a3
  have F_times := fun_mk (st := s_times) l4 c4 k4
  have b_times := F_times.binds (ps := ["one", "other"]) fun _ _ _ _ _ _ us hl => match us, hl with | [_, _], _ => rfl
  have g_times := PySem.W.mg_of X G a4
  have F_over := fun_mk (st := s_over) l5 c5 k5
  have b_over := F_over.binds (ps := ["one", "other"]) fun _ _ _ _ _ _ us hl => match us, hl with | [_, _], _ => rfl
  have g_over := PySem.W.mg_of X G a5
  have F_rooms_of : FunD K "rooms_of" "rooms_of" (defArgs sRoomsOf) (defBody sRoomsOf) (defScope sRoomsOf) [] [("first", V.ref T6_0)] f6 _ := ⟨⟨oc6, od6, .none, .ref D6, dc6, pm6, an6, cd6, ct6, sl6, rfl, l6, c6, .inl ⟨rfl, rfl⟩, .inr ⟨D6, rfl, fun q hq => by
    simp only [List.mem_cons, List.not_mem_nil, or_false] at hq
    subst hq
    exact ⟨_, d6_0, rfl⟩⟩⟩, k6⟩
  have g_rooms_of := PySem.W.mg_of X G a6
  have F_row_of : FunD K "row_of" "row_of" (defArgs sRowOf) (defBody sRowOf) (defScope sRowOf) [] [("wall", V.int (0))] f7 _ := ⟨⟨oc7, od7, .none, .ref D7, dc7, pm7, an7, cd7, ct7, sl7, rfl, l7, c7, .inl ⟨rfl, rfl⟩, .inr ⟨D7, rfl, fun q hq => by
    simp only [List.mem_cons, List.not_mem_nil, or_false] at hq
    subst hq
    exact ⟨_, d7_0, ⟨_, rfl⟩⟩⟩⟩, k7⟩
  have g_row_of := PySem.W.mg_of X G a7
  have F_trimmed := fun_mk (st := s_trimmed) l8 c8 k8
  have b_trimmed := F_trimmed.binds (ps := ["row"]) fun _ _ _ _ _ _ us hl => match us, hl with | [_], _ => rfl
  have g_trimmed := PySem.W.mg_of X G a8
  have F_mirrored := fun_mk (st := s_mirrored) l9 c9 k9
  have b_mirrored := F_mirrored.binds (ps := ["row"]) fun _ _ _ _ _ _ us hl => match us, hl with | [_], _ => rfl
  have g_mirrored := PySem.W.mg_of X G a9
  have F_joined := fun_mk (st := s_joined) l10 c10 k10
  have b_joined := F_joined.binds (ps := ["one", "other"]) fun _ _ _ _ _ _ us hl => match us, hl with | [_, _], _ => rfl
  have g_joined := PySem.W.mg_of X G a10
  have F__law_cell_at := fun_mk (st := sCell) l11 c11 k11
  have b__law_cell_at := F__law_cell_at.binds (ps := ["_law_script", "_law_k"]) fun _ _ _ _ _ _ us hl => match us, hl with | [_, _], _ => rfl
  have g__law_cell_at := PySem.W.mg_of X G a11
  have F__law_box := fun_mk (st := sBox) l12 c12 k12
  have b__law_box := F__law_box.binds (ps := ["_law_script", "_law_k"]) fun _ _ _ _ _ _ us hl => match us, hl with | [_, _], _ => rfl
  have g__law_box := PySem.W.mg_of X G a12
  have F__law_take := fun_mk (st := sTake) l13 c13 k13
  have b__law_take := F__law_take.binds (ps := ["_law_box_here", "_law_size"]) fun _ _ _ _ _ _ us hl => match us, hl with | [_, _], _ => rfl
  have g__law_take := PySem.W.mg_of X G a13
  have F__law_of := fun_mk (st := sOf) l14 c14 k14
  have b__law_of := F__law_of.binds (ps := ["_law_box_here", "_law_some"]) fun _ _ _ _ _ _ us hl => match us, hl with | [_, _], _ => rfl
  have g__law_of := PySem.W.mg_of X G a14
  have F__law_same := fun_mk (st := sSame) l15 c15 k15
  have b__law_same := F__law_same.binds (ps := ["_law_found", "_law_due"]) fun _ _ _ _ _ _ us hl => match us, hl with | [_, _], _ => rfl
  have g__law_same := PySem.W.mg_of X G a15
  have F__law_frac := fun_mk (st := sFrac) l16 c16 k16
  have b__law_frac := F__law_frac.binds (ps := ["_law_top", "_law_under"]) fun _ _ _ _ _ _ us hl => match us, hl with | [_, _], _ => rfl
  have g__law_frac := PySem.W.mg_of X G a16
  have F__law_plus := fun_mk (st := s__law_plus) l17 c17 k17
  have b__law_plus := F__law_plus.binds (ps := ["_law_one", "_law_other"]) fun _ _ _ _ _ _ us hl => match us, hl with | [_, _], _ => rfl
  have g__law_plus := PySem.W.mg_of X G a17
  have F__law_less := fun_mk (st := s__law_less) l18 c18 k18
  have b__law_less := F__law_less.binds (ps := ["_law_one", "_law_other"]) fun _ _ _ _ _ _ us hl => match us, hl with | [_, _], _ => rfl
  have g__law_less := PySem.W.mg_of X G a18
  have F__law_times := fun_mk (st := s__law_times) l19 c19 k19
  have b__law_times := F__law_times.binds (ps := ["_law_one", "_law_other"]) fun _ _ _ _ _ _ us hl => match us, hl with | [_, _], _ => rfl
  have g__law_times := PySem.W.mg_of X G a19
  have F__law_over := fun_mk (st := s__law_over) l20 c20 k20
  have b__law_over := F__law_over.binds (ps := ["_law_one", "_law_other"]) fun _ _ _ _ _ _ us hl => match us, hl with | [_, _], _ => rfl
  have g__law_over := PySem.W.mg_of X G a20
  have F__law_pane := fun_mk (st := sPane) l21 c21 k21
  have b__law_pane := F__law_pane.binds (ps := ["_law_box_here"]) fun _ _ _ _ _ _ us hl => match us, hl with | [_], _ => rfl
  have g__law_pane := PySem.W.mg_of X G a21
  have F__law_row := fun_mk (st := sRow) l22 c22 k22
  have b__law_row := F__law_row.binds (ps := ["_law_box_here", "_law_most"]) fun _ _ _ _ _ _ us hl => match us, hl with | [_, _], _ => rfl
  have g__law_row := PySem.W.mg_of X G a22
  have F__law_weight := fun_mk (st := sWeight) l23 c23 k23
  have b__law_weight := F__law_weight.binds (ps := ["_law_box_here"]) fun _ _ _ _ _ _ us hl => match us, hl with | [_], _ => rfl
  have g__law_weight := PySem.W.mg_of X G a23
  have F__law_share := fun_mk (st := s__law_share) l24 c24 k24
  have b__law_share := F__law_share.binds (ps := ["_law_panes"]) fun _ _ _ _ _ _ us hl => match us, hl with | [_], _ => rfl
  have g__law_share := PySem.W.mg_of X G a24
  have F__law_strewn := fun_mk (st := s__law_strewn) l25 c25 k25
  have b__law_strewn := F__law_strewn.binds (ps := ["_law_box_here", "_law_some"]) fun _ _ _ _ _ _ us hl => match us, hl with | [_, _], _ => rfl
  have g__law_strewn := PySem.W.mg_of X G a25
  have F__law_joined_right := fun_mk (st := s__law_joined_right) l26 c26 k26
  have b__law_joined_right := F__law_joined_right.binds (ps := ["_law_box_here", "_law_one", "_law_two", "_law_start"]) fun _ _ _ _ _ _ us hl => match us, hl with | [_, _, _, _], _ => rfl
  have g__law_joined_right := PySem.W.mg_of X G a26
  have F__law_between_right := fun_mk (st := s__law_between_right) l27 c27 k27
  have b__law_between_right := F__law_between_right.binds (ps := ["_law_box_here"]) fun _ _ _ _ _ _ us hl => match us, hl with | [_], _ => rfl
  have g__law_between_right := PySem.W.mg_of X G a27
  have F_law := fun_mk (st := s_law) l28 c28 k28
  have b_law := F_law.binds (ps := ["_law_script"]) fun _ _ _ _ _ _ us hl => match us, hl with | [_], _ => rfl
  have g_law := PySem.W.mg_of X G a28
  have g_ONE := PySem.W.mg_of X G ga0
  have g_NOUGHT := PySem.W.mg_of X G ga1
  have m_abs := PySem.W.mg_none_of X G z0
  have m_len := PySem.W.mg_none_of X G z1
  have m_int := PySem.W.mg_none_of X G z2
  have m_min := PySem.W.mg_none_of X G z3
  have m_range := PySem.W.mg_none_of X G z4
  have m_tuple := PySem.W.mg_none_of X G z5
  have m_zip := PySem.W.mg_none_of X G z6
  have m_isinstance := PySem.W.mg_none_of X G z7
  have m_dict := PySem.W.mg_none_of X G z8
  have m_list := PySem.W.mg_none_of X G z9
  have m_all := PySem.W.mg_none_of X G z10
  have m_bool := PySem.W.mg_none_of X G z11
  have m_str := PySem.W.mg_none_of X G z12
  have m_reversed := PySem.W.mg_none_of X G z13
  refine ⟨_, fun s v => .of_eq (fd := PySem.W.fnOf "law" "law" (defArgs s_law) (defBody s_law) (defScope s_law) .none kV28 dc28 pm28 an28 cd28 ct28) rfl, fun base _ _ => ?_⟩
  have T : Frees mg := ⟨m_len, m_tuple, m_reversed, m_range, m_list, m_min⟩
  have Gfraction : FnOk l.prog w K mg base CX0 3 _ _ _ (spFrac K) := ok_fraction F_fraction F_common_part b_common_part g_common_part m_abs
  have Gplus := ok_plus F_plus F_fraction.kp Gfraction b_fraction g_fraction
  have Gminus := ok_minus F_minus F_fraction.kp Gfraction b_fraction g_fraction
  have Gtimes := ok_times F_times F_fraction.kp Gfraction b_fraction g_fraction
  have Gover := ok_over F_over F_fraction.kp Gfraction b_fraction g_fraction
  have dOne : ∀ H : Hp, Dp K H (.ref G0) (frD 1) := fun H => dp_fr_mk (.inr ⟨_, _, _, gl0, rfl, rfl, (by decide : 2 ≤ sizeLine), .cons ⟨_, rfl⟩ (.cons ⟨_, rfl⟩ .nil)⟩)
  have dNou : ∀ H : Hp, Dp K H (.ref G1) (frD 0) := fun H => dp_fr_mk (.inr ⟨_, _, _, gl1, rfl, rfl, (by decide : 2 ≤ sizeLine), .cons ⟨_, rfl⟩ (.cons ⟨_, rfl⟩ .nil)⟩)
  have Groomsof := ok_roomsOf F_rooms_of F_over.kp Gover b_over g_over F_minus.kp Gminus b_minus g_minus F_plus.kp Gplus b_plus g_plus F_times.kp Gtimes b_times g_times g_ONE dOne
  have Growof := ok_rowOf F_row_of F_over.kp Gover b_over g_over F_minus.kp Gminus b_minus g_minus F_plus.kp Gplus b_plus g_plus m_zip m_tuple
  have Gtrim : FnOk l.prog w K mg base CX0 3 _ _ _ (spTrim K) := ok_trimmed F_trimmed T g_NOUGHT dNou
  have Gmir := ok_mirrored F_mirrored T ⟨F_minus.kp, Gminus, b_minus, g_minus⟩ g_NOUGHT dNou
  have Gjoin : FnOk l.prog w K mg base CX0 3 _ _ _ (spJoin K) := ok_joined F_joined
  have Gtake : FnOk l.prog w K mg base CX0 3 _ _ _ spTake := ok_take F__law_take
  have Gof : FnOk l.prog w K mg base CX0 3 _ _ _ (spOf K) := ok_of F__law_of F__law_take b__law_take g__law_take m_len
  have Gfrac : FnOk l.prog w K mg base CX0 3 _ _ _ (spFrac K) := ok_frac F__law_frac m_abs
  have Gbox : FnOk l.prog w K mg base CX0 3 _ _ _ (spBox K) := ok_box F__law_box F__law_cell_at b__law_cell_at g__law_cell_at m_len m_abs m_int
  have Glp := ok__law_plus F__law_plus F__law_frac.kp Gfrac b__law_frac g__law_frac
  have Gll := ok__law_less F__law_less F__law_frac.kp Gfrac b__law_frac g__law_frac
  have Glt := ok__law_times F__law_times F__law_frac.kp Gfrac b__law_frac g__law_frac
  have Glo := ok__law_over F__law_over F__law_frac.kp Gfrac b__law_frac g__law_frac
  have Gpane : FnOk l.prog w K mg base CX0 3 _ _ _ (spPane K) := ok_pane F__law_pane F__law_take b__law_take g__law_take F__law_of b__law_of g__law_of F__law_frac b__law_frac g__law_frac m_len m_abs
  have Grow := ok_row F__law_row F__law_take.kp Gtake b__law_take g__law_take F__law_of.kp Gof b__law_of g__law_of F__law_pane.kp Gpane b__law_pane g__law_pane m_range m_tuple
  have Gweight := ok_weight F__law_weight F__law_take.kp Gtake b__law_take g__law_take F__law_frac.kp Gfrac b__law_frac g__law_frac
  have Gsame : FnOk l.prog w K mg base CX0 6 _ _ _ (spSame K 6) := ok_same F__law_same b__law_same g__law_same m_isinstance m_dict m_list m_tuple m_len m_all m_zip m_bool m_str m_int 6
  have Gshare := ok_share F__law_share ⟨F__law_over.kp, Glo, b__law_over, g__law_over⟩ ⟨F__law_less.kp, Gll, b__law_less, g__law_less⟩ ⟨F__law_plus.kp, Glp, b__law_plus, g__law_plus⟩ ⟨F__law_times.kp, Glt, b__law_times, g__law_times⟩
  have Gstrewn := ok_strewn F__law_strewn T ⟨F__law_take.kp, Gtake, b__law_take, g__law_take⟩
  obtain ⟨mv1, kR1⟩ := FunD.kb F_rooms_of (ps := ["row", "first"]) 1 ["first"] [] (fun us mv ws => us ++ ws) (by simp) (by simp) (fun r1 r2 r3 => r1.append r3) (fun D doc pm an cdv ct us mv ws h1 h2 h3 => match us, h1, mv, h2, ws, h3 with | [_], _, [], _, [_], _ => rfl)
  obtain ⟨dsW, vW, bW⟩ := F_row_of.binds0 (ps := ["rooms", "wall"]) 1 (by simp) rfl (fun D doc pm an cdv ct us ks h1 h2 => match us, h1, ks, h2 with | [_], _, [_], _ => ⟨_, _, _, _, _, _, rfl, rfl, rfl⟩)
  obtain ⟨mv3, kW1⟩ := FunD.kb F_row_of (ps := ["rooms", "wall"]) 1 ["wall"] [] (fun us mv ws => us ++ ws) (by simp) (by simp) (fun r1 r2 r3 => r1.append r3) (fun D doc pm an cdv ct us mv ws h1 h2 h3 => match us, h1, mv, h2, ws, h3 with | [_], _, [], _, [_], _ => rfl)
  have RR : Rof l.prog w K mg base 9 _ _ := ⟨F_rooms_of.kp, Groomsof.mono (by decide), g_rooms_of, kR1⟩
  have WW : Row l.prog w K mg base 9 _ _ dsW := ⟨F_row_of.kp, Growof.mono (by decide), g_row_of, bW, vW, kW1⟩
  have Gjr := ok_jr F__law_joined_right T RR WW ⟨F_joined.kp, Gjoin.mono (by decide), b_joined, g_joined⟩ ⟨F_mirrored.kp, Gmir.mono (by decide), b_mirrored, g_mirrored⟩ ⟨F__law_same.kp, Gsame.mono (by decide), b__law_same, g__law_same⟩ ⟨F__law_share.kp, Gshare.mono (by decide), b__law_share, g__law_share⟩ ⟨F__law_strewn.kp, Gstrewn.mono (by decide), b__law_strewn, g__law_strewn⟩ ⟨F__law_over.kp, Glo.mono (by decide), b__law_over, g__law_over⟩ ⟨F_trimmed.kp, Gtrim.mono (by decide), b_trimmed, g_trimmed⟩
  have Gbr := ok_br F__law_between_right T WW ⟨F__law_weight.kp, Gweight.mono (by decide), b__law_weight, g__law_weight⟩ ⟨F__law_take.kp, Gtake.mono (by decide), b__law_take, g__law_take⟩ ⟨F__law_share.kp, Gshare.mono (by decide), b__law_share, g__law_share⟩
  exact ok_law (k := 10) F_law T ⟨F__law_box.kp, Gbox.mono (by decide), b__law_box, g__law_box⟩ ⟨F__law_row.kp, Grow.mono (by decide), b__law_row, g__law_row⟩ ⟨F__law_weight.kp, Gweight.mono (by decide), b__law_weight, g__law_weight⟩ ⟨F__law_joined_right.kp, Gjr, b__law_joined_right, g__law_joined_right⟩ ⟨F__law_between_right.kp, Gbr, b__law_between_right, g__law_between_right⟩
end Ep
open PySem PySem.W PyProof.Rows
set_option maxHeartbeats 0 in
theorem PySem.Challenge.cw_echopanes_k04_whole_rooms_joined_and_tur_holds : PySem.Challenge.rw_echopanes_k04_whole_rooms_joined_and_tur.Holds := by
  w_on; o_law; k_head; (case hw => w_witness2)
  k_fill
  refine L2.walk_of (l := PySem.Challenge.rw_echopanes_k04_whole_rooms_joined_and_tur) (n := 63) (k := 11) (x := "_law_script") (CX := fun _ => L2.CX0) (sp := fun w => Ep.spLaw _) rfl (by decide) rfl ⟨rfl, by decide, by decide⟩ (fun w h Y => PySem.W.kIn_of Y) ?F (fun _ _ a ns hl _ hS => ⟨a, ns, rfl, hS, hl, fun _ => rfl⟩) (fun _ _ _ _ _ h => h)
  case F =>
    intro w mg fa h KX G hmg
    refine' Ep.all_mk KX G hmg ?a0 ?l0 ?c0 ?k0 ?a1 ?l1 ?c1 ?k1 ?a2 ?l2 ?c2 ?k2 ?a3 ?l3 ?c3 ?k3 ?a4 ?l4 ?c4 ?k4 ?a5 ?l5 ?c5 ?k5 ?a6 ?l6 ?c6 ?k6 ?d6_0 ?t6_0 ?a7 ?l7 ?c7 ?k7 ?d7_0 ?a8 ?l8 ?c8 ?k8 ?a9 ?l9 ?c9 ?k9 ?a10 ?l10 ?c10 ?k10 ?a11 ?l11 ?c11 ?k11 ?a12 ?l12 ?c12 ?k12 ?a13 ?l13 ?c13 ?k13 ?a14 ?l14 ?c14 ?k14 ?a15 ?l15 ?c15 ?k15 ?a16 ?l16 ?c16 ?k16 ?a17 ?l17 ?c17 ?k17 ?a18 ?l18 ?c18 ?k18 ?a19 ?l19 ?c19 ?k19 ?a20 ?l20 ?c20 ?k20 ?a21 ?l21 ?c21 ?k21 ?a22 ?l22 ?c22 ?k22 ?a23 ?l23 ?c23 ?k23 ?a24 ?l24 ?c24 ?k24 ?a25 ?l25 ?c25 ?k25 ?a26 ?l26 ?c26 ?k26 ?a27 ?l27 ?c27 ?k27 ?a28 ?l28 ?c28 ?k28 ?ga0 ?gl0 ?ga1 ?gl1 ?z0 ?z1 ?z2 ?z3 ?z4 ?z5 ?z6 ?z7 ?z8 ?z9 ?z10 ?z11 ?z12 ?z13
    (case a0 => k_is); (case l0 => k_is); (case c0 => k_is); (case k0 => k_is); (case a1 => k_is); (case l1 => k_is); (case c1 => k_is); (case k1 => k_is); (case a2 => k_is); (case l2 => k_is); (case c2 => k_is); (case k2 => k_is); (case a3 => k_is); (case l3 => k_is); (case c3 => k_is); (case k3 => k_is); (case a4 => k_is); (case l4 => k_is); (case c4 => k_is); (case k4 => k_is); (case a5 => k_is); (case l5 => k_is); (case c5 => k_is); (case k5 => k_is); (case a6 => k_is); (case l6 => k_is); (case c6 => k_is); (case k6 => k_is); (case d6_0 => k_is); (case t6_0 => k_is); (case a7 => k_is); (case l7 => k_is); (case c7 => k_is); (case k7 => k_is); (case d7_0 => k_is); (case a8 => k_is); (case l8 => k_is); (case c8 => k_is); (case k8 => k_is); (case a9 => k_is); (case l9 => k_is); (case c9 => k_is); (case k9 => k_is); (case a10 => k_is); (case l10 => k_is); (case c10 => k_is); (case k10 => k_is); (case a11 => k_is); (case l11 => k_is); (case c11 => k_is); (case k11 => k_is); (case a12 => k_is); (case l12 => k_is); (case c12 => k_is); (case k12 => k_is); (case a13 => k_is); (case l13 => k_is); (case c13 => k_is); (case k13 => k_is); (case a14 => k_is); (case l14 => k_is); (case c14 => k_is); (case k14 => k_is); (case a15 => k_is); (case l15 => k_is); (case c15 => k_is); (case k15 => k_is); (case a16 => k_is); (case l16 => k_is); (case c16 => k_is); (case k16 => k_is); (case a17 => k_is); (case l17 => k_is); (case c17 => k_is); (case k17 => k_is); (case a18 => k_is); (case l18 => k_is); (case c18 => k_is); (case k18 => k_is); (case a19 => k_is); (case l19 => k_is); (case c19 => k_is); (case k19 => k_is); (case a20 => k_is); (case l20 => k_is); (case c20 => k_is); (case k20 => k_is); (case a21 => k_is); (case l21 => k_is); (case c21 => k_is); (case k21 => k_is); (case a22 => k_is); (case l22 => k_is); (case c22 => k_is); (case k22 => k_is); (case a23 => k_is); (case l23 => k_is); (case c23 => k_is); (case k23 => k_is); (case a24 => k_is); (case l24 => k_is); (case c24 => k_is); (case k24 => k_is); (case a25 => k_is); (case l25 => k_is); (case c25 => k_is); (case k25 => k_is); (case a26 => k_is); (case l26 => k_is); (case c26 => k_is); (case k26 => k_is); (case a27 => k_is); (case l27 => k_is); (case c27 => k_is); (case k27 => k_is); (case a28 => k_is); (case l28 => k_is); (case c28 => k_is); (case k28 => k_is); (case ga0 => k_is); (case gl0 => k_is); (case ga1 => k_is); (case gl1 => k_is); (case z0 => k_is); (case z1 => k_is); (case z2 => k_is); (case z3 => k_is); (case z4 => k_is); (case z5 => k_is); (case z6 => k_is); (case z7 => k_is); (case z8 => k_is); (case z9 => k_is); (case z10 => k_is); (case z11 => k_is); (case z12 => k_is); (case z13 => k_is)
