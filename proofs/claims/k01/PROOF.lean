import PyProof.Rows.All
import Wide.All
import OpenK.AllK
import Wide.FinOn
import PySem.Challenge.RW_weighwalk_k01_divisors_and_fractions
open PySem PySem.W PyProof.Rows
set_option Elab.async false
set_option maxRecDepth 100000 in
set_option maxHeartbeats 0 in
open_top hd01 for PySem.Challenge.rw_weighwalk_k01_divisors_and_fractions
set_option maxRecDepth 100000
set_option maxHeartbeats 4000000
namespace Mine
open PySem PySem.W PySem.Spec PySem.Calls PyProof.Rows
section
variable {prog : Program} {w : World} {A : Around} {E : Value → Shared → Prop} {s : Shared} {K : Frag} {x D : Addr} {o : Obj} {c : Value}
theorem check_ga {M : Model} {nameV : Value} {Q : Unit → Shared → Prop} (X : K.In s.heap) (L0 : Looks M s.heap (typeOf (.ref x)) (.ref D)) (hb : mroIn K D (.type "BaseException") = some true) (hq : Q () s) :
    wpAny M A (checkBuiltinCall "BaseException.__getattribute__" ⟨[.ref x, nameV], []⟩) Q E s := by
  obtain ⟨hh, g, d, t, os⟩ := s
  have hk : builtinKind "BaseException.__getattribute__" = some .slot := by decide +kernel
  have hsplit : splitId "BaseException.__getattribute__" = some ("BaseException", "__getattribute__") := by decide +kernel
  have LB := looks_mroIn (M := M) X hb
  have ha := PySem.F.args_bexc_ga (.ref x) nameV
  have LI : Looks M hh (isInstance (.ref x) (.type "BaseException")) true := L0.andThen LB
  simp only [checkBuiltinCall, hk, hsplit]
  refine wpAny_bind (LI.at ?_)
  repeat (any_goals (first | assumption | wp_step))
open Builtin Builtin.Getset_descriptor in
/-- the getter of `__class__`, for any object whose class is known by a look -/
theorem class_get1 {R : Result → Shared → Prop} {tp : Value} (X : K.In s.heap) (L0 : ∀ M : Model, Looks M s.heap (typeOf (.ref x)) (.ref D)) (hm : mroIn K D (.type "object") = some true)
    (hR : R (.ok (.ret (.ref D))) s) : codeAny (model prog w) A (.call (.builtin "getset_descriptor.__get__") ⟨[.builtin "object.__class__", .ref x, tp], []⟩) R s := by
  rcases s with ⟨hp, gn, dn, tk, os⟩
  have look := L0 (model prog w)
  have above := looks_mroIn (M := model prog w) X hm
  have known := KF.slot_gs.check (model prog w) A.in1
  have kind : (⟨hp, gn, dn, tk, os⟩ : Shared).TypeIs (.builtin "object.__class__") "getset_descriptor" := KF.type_class
  apply codeAny_call_builtin KF.slot_gs.plain KF.entry_gs
  apply known _ _ _ _ _ _ kind (KF.args_gs _ _ _)
  delta Builtin.«getset_descriptor.__get__» descrGet
  rw [dga_obj]
  apply wpAny_bind
  apply wpAny_pure
  delta descrGetter descrCheckInstance descrNameAndClass isInstance
  simp only [KF.owner_class]
  repeat lk
  constructor
  · exact Code.quiet_builtin _ (by decide +kernel)
  · apply codeAny_builtin KF.entry_class
    delta Builtin.«object.__class__» shownTypeOf
    repeat lk
    exact hR
theorem class_entry {nm : Tok} {Q : Fin → Shared → Prop} (X : K.In s.heap) (L0 : ∀ M : Model, Looks M s.heap (typeOf (.ref x)) (.ref D)) (ha : findIn K (.ref D) "__class__" = some (some (.builtin "object.__class__")))
    (hm : mroIn K D (.type "object") = some true) (hq : Q (.done (.ret (.ref D))) s) :
    wpAny (model prog w) A (Builtin.«object.__getattribute__» ⟨[.ref x, .str "__class__" nm], []⟩) Q E s := by
  obtain ⟨hh, g, d, t, os⟩ := s
  have L1 := L0 (model prog w)
  have L3 := looks_findIn (M := model prog w) X ha
  have f5 := KF.type_class
  have f6 := PySem.F.slot_gs_get.lookup
  have f7 := PySem.F.slot_gs_set.lookup
  repeat (any_goals (first | assumption | with_reducible refine wpAny_bind (L1.at ?_) | with_reducible refine L1.at ?_ | with_reducible refine wpAny_bind (L3.at ?_) | with_reducible refine L3.at ?_ | wp_step))
  refine class_get1 (D := D) X L0 hm ?_
  repeat (any_goals (first | assumption | wp_step))
theorem class_call {nm : Tok} {R : Result → Shared → Prop} (X : K.In s.heap) (L0 : ∀ M : Model, Looks M s.heap (typeOf (.ref x)) (.ref D)) (ha : findIn K (.ref D) "__class__" = some (some (.builtin "object.__class__")))
    (hm : mroIn K D (.type "object") = some true) (hb : mroIn K D (.type "BaseException") = some true) (hq : R (.ok (.ret (.ref D))) s) :
    codeAny (model prog w) A (.call (.builtin "BaseException.__getattribute__") ⟨[.ref x, .str "__class__" nm], []⟩) R s :=
  codeAny_call_builtin PySem.F.attr_ValueError.ga.plain PySem.F.entry_bexc_ga (check_ga X (L0 _) hb (class_entry X L0 ha hm hq))
theorem exc_class {Q : Option Value → Shared → Prop} (X : K.In s.heap) (L0 : ∀ M : Model, Looks M s.heap (typeOf (.ref x)) (.ref D))
    (hga : findIn K (.ref D) "__getattribute__" = some (some (.builtin "BaseException.__getattribute__"))) (hgt : findIn K (.ref D) "__getattr__" = some none) (ha : findIn K (.ref D) "__class__" = some (some (.builtin "object.__class__")))
    (hm : mroIn K D (.type "object") = some true) (hb : mroIn K D (.type "BaseException") = some true) (h : Q (some (.ref D)) { s with toks := s.toks + 1 }) :
    wpAny (model prog w) A (getAttr? (.ref x) "__class__") Q E s := by
  obtain ⟨hh, g, d, t, os⟩ := s
  have L1 := L0 (model prog w)
  have L2 := looks_findIn (M := model prog w) X hga
  have L3 := looks_findIn (M := model prog w) X hgt
  have f3 := PySem.F.attr_ValueError.ga.bind (.ref x)
  have hx2 : (Value.builtin "BaseException.__getattribute__" == Value.builtin "object.__getattribute__") = false := by decide +kernel
  have hx1 : (onTheHeap (Value.ref D) && Value.builtin "BaseException.__getattribute__" == Value.builtin "object.__getattribute__") = false := by rw [hx2]; rfl
  have hx0 : (false && onTheHeap (Value.builtin "BaseException.__getattribute__")) = false := rfl
  unfold getAttr? getAttrBy? getAttrBy
  refine wpAny_bind (wpAny_mkText (wpAny_bind (wpAny_attempt (wpAny_holding (wpAny_bind (L1.at (wpAny_bind (L2.at ?_))))))))
  simp only [hx1]
  repeat (any_goals (first | assumption | with_reducible refine wpAny_bind (L1.at ?_) | with_reducible refine L1.at ?_ | with_reducible refine wpAny_bind (L3.at ?_) | with_reducible refine L3.at ?_ | wp_step))
  refine class_call (D := D) (s := ⟨hh, g, d, t + 1, os⟩) X (fun M => L0 M) ha hm hb ?_
  show wpAny (model prog w) A (handedOut (Value.ref D)) _ _ _
  exact handed_on rfl (wpAny_pure h)
def ExcAt (x D : Addr) (h : Heap) : Prop := ∃ o, h.get? x = some o ∧ o.cls = .ref D
theorem excAt_ty {M : Model} {h : Heap} (p : ExcAt x D h) : Looks M h (typeOf (.ref x)) (.ref D) := by
  obtain ⟨o, h1, h2⟩ := p
  exact h2 ▸ (Looks.ld h1).andThen .now
theorem kitx_exc
    (hga : findIn K (.ref D) "__getattribute__" = some (some (.builtin "BaseException.__getattribute__"))) (hgt : findIn K (.ref D) "__getattr__" = some none) (ha : findIn K (.ref D) "__class__" = some (some (.builtin "object.__class__")))
    (hm : mroIn K D (.type "object") = some true) (hb : mroIn K D (.type "BaseException") = some true) : KitX K (.ref x) (.ref D) (ExcAt x D) where
  ty := fun _ _ _ p => excAt_ty p
  it := fun _ _ X _ => by
    obtain ⟨cdD, hcD, _⟩ := Option.bind_eq_some_iff.mp (show (clsIn K D).bind _ = some true from hm)
    unfold clsIn at hcD
    split at hcD
    · rename_i c' d' cd' sl' ho
      intro A' Q' E' s' k q
      unfold isType loadHead
      exact wpAny_bind (wpAny_loadPart (k _ _ (X _ _ ho)) (wpAny_pure q))
    · cases hcD
  ne := fun h tp dd its n sl X htp => by
    refine Bool.eq_false_iff.mpr fun q => ?_
    have e : D = tp := Value.ref.inj (beq_iff_eq.mp q)
    subst e
    obtain ⟨cdD, hcD, _⟩ := Option.bind_eq_some_iff.mp (show (clsIn K D).bind _ = some true from hm)
    unfold clsIn at hcD
    split at hcD
    · rename_i c' d' cd' sl' ho
      have z := (X _ _ ho).symm.trans htp
      cases z
    · cases hcD
  ca := fun X p k => exc_class X (fun _ => excAt_ty p) hga hgt ha hm hb k
theorem excAt_got {h₀ h : Heap} {L t : Addr} {news : List (Addr × Obj)} {vs : List Value} (N : News h₀ L h news) (G : Got news x t (.ref D) vs) : ExcAt x D h := by
  obtain ⟨oe, ot, ws, nt, h1, _, h3, _⟩ := G
  exact ⟨oe, (N _ h1).1, h3⟩
theorem isi_exc {h₀ : Heap} {L t : Addr} {news : List (Addr × Obj)} {vs : List Value} {m : Str → Option Value} {c : Value} {b : Bool} {Q : Value → Shared → Prop} (N : News h₀ L s.heap news) (G : Got news x t (.ref D) vs) (F : Fr h₀ L s.heap m) (X : K.In h₀)
    (hga : findIn K (.ref D) "__getattribute__" = some (some (.builtin "BaseException.__getattribute__"))) (hgt : findIn K (.ref D) "__getattr__" = some none) (ha : findIn K (.ref D) "__class__" = some (some (.builtin "object.__class__")))
    (hm : mroIn K D (.type "object") = some true) (hb : mroIn K D (.type "BaseException") = some true) (e : kitOne K (.ref D) c = some b) (h : ∀ tk, Q (.bool b) { s with toks := tk }) :
    wpAny (model prog w) A (call (.builtin "isinstance") [.ref x, c]) Q E s :=
  kia_one (kitx_exc hga hgt ha hm hb) (X.keeps F.keep) (excAt_got N G) e (fun z => nomatch z) h
end
end Mine
namespace Mine
@[irreducible] def dv (a b : Int) : Int := (Int.gcd a b : Int)
theorem dv_nonneg (a b : Int) : 0 ≤ dv a b := by unfold dv; exact Int.natCast_nonneg _
theorem fm (x y : Int) : x.fmod y = x - y * x.fdiv y := Int.fmod_def x y
theorem dv_fmod (a b : Int) : dv b (a.fmod b) = dv a b := by
  unfold dv
  have e : a.fmod b = a - a.fdiv b * b := by rw [Int.fmod_def, Int.mul_comm]
  rw [e, Int.gcd_sub_mul_right_right, Int.gcd_comm]
theorem dv_zero (a : Int) : dv a 0 = (a.natAbs : Int) := by
  unfold dv; rw [Int.gcd_zero_right]
theorem dv_abs (a b : Int) : dv (a.natAbs : Int) (b.natAbs : Int) = dv a b := by
  unfold dv Int.gcd; simp
theorem fmod_abs_lt (a b : Int) (h : b ≠ 0) : (a.fmod b).natAbs < b.natAbs := by
  rcases Int.lt_trichotomy b 0 with hb | hb | hb
  · have e : a.fmod b = -((-a).fmod (-b)) := by
      simp [Int.neg_fmod_neg] 
    have h1 := Int.fmod_nonneg_of_pos (-a) (show 0 < -b by omega)
    have h2 := Int.fmod_lt_of_pos (-a) (show 0 < -b by omega)
    omega
  · exact absurd hb h
  · have h1 := Int.fmod_nonneg_of_pos a hb
    have h2 := Int.fmod_lt_of_pos a hb
    omega
/-- divisor's loop -/
theorem d_turn {a b g r : Int} (h : dv g r = dv a b) (hr : 0 < r) : 0 ≤ r ∧ 0 ≤ g.fmod r ∧ dv r (g.fmod r) = dv a b :=
  ⟨by omega, Int.fmod_nonneg_of_pos g hr, by rw [dv_fmod, h]⟩
theorem d_less {g r : Int} (hr : 0 < r) : (g.fmod r).toNat < r.toNat := by
  have h1 := Int.fmod_nonneg_of_pos g hr
  have h2 := Int.fmod_lt_of_pos g hr
  omega
theorem d_out {a b g r : Int} (h : dv g r = dv a b) (g0 : 0 ≤ g) (r0 : 0 ≤ r) (hr : ¬ 0 < r) : g = dv a b := by
  have e : r = 0 := by omega
  rw [← h, e, dv_zero]; omega
/-- the law's loop -/
theorem l_turn {a b x y : Int} (h : dv x y = dv a b) : dv y (x.fmod y) = dv a b := by rw [dv_fmod, h]
theorem l_out {a b x y : Int} (h : dv x y = dv a b) (hy : y = 0) : (x.natAbs : Int) = dv a b := by
  rw [← h, hy, dv_zero]
/-- what divides -/
theorem dv_left (a b : Int) : ∃ q, a = dv a b * q := by
  obtain ⟨q, hq⟩ := Int.gcd_dvd_left a b
  exact ⟨q, by unfold dv; exact hq⟩
theorem dv_right (a b : Int) : ∃ q, b = dv a b * q := by
  obtain ⟨q, hq⟩ := Int.gcd_dvd_right a b
  exact ⟨q, by unfold dv; exact hq⟩
theorem dv_eq_zero {a b : Int} (h : dv a b = 0) : a = 0 ∧ b = 0 := by
  obtain ⟨q, hq⟩ := dv_left a b
  obtain ⟨r, hr⟩ := dv_right a b
  rw [h] at hq hr
  exact ⟨by omega, by omega⟩
theorem dv_pos {a b : Int} (h : b ≠ 0) : 0 < dv a b := by
  have := dv_nonneg a b
  rcases (by omega : dv a b = 0 ∨ 0 < dv a b) with e | e
  · exact absurd (dv_eq_zero e).2 h
  · exact e
theorem fmod_left (a b : Int) : a.fmod (dv a b) = 0 := by
  obtain ⟨q, hq⟩ := dv_left a b
  have : dv a b ∣ a := ⟨q, hq⟩
  rw [Int.fmod_eq_emod_of_nonneg a (dv_nonneg a b)]
  exact Int.emod_eq_zero_of_dvd this
theorem fmod_right (a b : Int) : b.fmod (dv a b) = 0 := by
  obtain ⟨q, hq⟩ := dv_right a b
  have : dv a b ∣ b := ⟨q, hq⟩
  rw [Int.fmod_eq_emod_of_nonneg b (dv_nonneg a b)]
  exact Int.emod_eq_zero_of_dvd this
theorem dv_le (a b : Int) (h : b ≠ 0) : dv a b ≤ (b.natAbs : Int) := by
  have : Int.gcd a b ≤ b.natAbs := by
    unfold Int.gcd
    exact Nat.gcd_le_right _ (by omega)
  unfold dv; omega
theorem fdiv_mul {g q : Int} (hg : g ≠ 0) : (g * q).fdiv g = q := Int.mul_fdiv_cancel_left q hg
/-- a fraction's top and bottom; the divisor, or its minus where the bottom is below nought -/
@[irreducible] def sg (a b : Int) : Int := if b < 0 then -(dv a b) else dv a b
@[irreducible] def tp (a b : Int) : Int := a.fdiv (sg a b)
@[irreducible] def bt (a b : Int) : Int := b.fdiv (sg a b)
theorem sg_pos {a b : Int} (h : ¬ b < 0) : sg a b = dv a b := by unfold sg; rw [if_neg h]
theorem sg_neg {a b : Int} (h : b < 0) : sg a b = -(dv a b) := by unfold sg; rw [if_pos h]
theorem sg_ne {a b : Int} (h : b ≠ 0) : sg a b ≠ 0 := by
  have := dv_pos (a := a) h
  unfold sg; split <;> omega
theorem tp_mul {a b : Int} (h : b ≠ 0) : sg a b * tp a b = a := by
  obtain ⟨q, hq⟩ := dv_left a b
  have hs := sg_ne (a := a) h
  have : ∃ k, a = sg a b * k := by
    unfold sg; split
    · exact ⟨-q, by rw [Int.neg_mul_neg]; exact hq⟩
    · exact ⟨q, hq⟩
  obtain ⟨k, hk⟩ := this
  have e : tp a b = k := by
    unfold tp
    conv => lhs; lhs; rw [hk]
    exact fdiv_mul hs
  rw [e]; exact hk.symm
theorem bt_mul {a b : Int} (h : b ≠ 0) : sg a b * bt a b = b := by
  obtain ⟨q, hq⟩ := dv_right a b
  have hs := sg_ne (a := a) h
  have : ∃ k, b = sg a b * k := by
    unfold sg; split
    · exact ⟨-q, by rw [Int.neg_mul_neg]; exact hq⟩
    · exact ⟨q, hq⟩
  obtain ⟨k, hk⟩ := this
  have e : bt a b = k := by
    unfold bt
    conv => lhs; lhs; rw [hk]
    exact fdiv_mul hs
  rw [e]; exact hk.symm
theorem bt_pos {a b : Int} (h : b ≠ 0) : 0 < bt a b := by
  have e := bt_mul (a := a) h
  have g := dv_pos (a := a) h
  rcases (by omega : 0 < bt a b ∨ bt a b ≤ 0) with p | p
  · exact p
  · exfalso
    by_cases hb : b < 0
    · rw [sg_neg hb, Int.neg_mul] at e
      have := Int.mul_nonpos_of_nonneg_of_nonpos (Int.le_of_lt g) p
      omega
    · rw [sg_pos hb] at e
      have := Int.mul_nonpos_of_nonneg_of_nonpos (Int.le_of_lt g) p
      omega
theorem cross {a b : Int} (h : b ≠ 0) : tp a b * b = a * bt a b := by
  have e1 := tp_mul (a := a) h
  have e2 := bt_mul (a := a) h
  calc tp a b * b = tp a b * (sg a b * bt a b) := by rw [e2]
    _ = (sg a b * tp a b) * bt a b := by rw [Int.mul_comm (sg a b) (tp a b), Int.mul_assoc]
    _ = a * bt a b := by rw [e1]
theorem natAbs_sg (a b : Int) : (sg a b).natAbs = Int.gcd a b := by
  unfold sg dv; split <;> omega
theorem gcd_scale {a b s t u : Int} (e1 : s * t = a) (e2 : s * u = b) : Int.gcd a b = s.natAbs * Int.gcd t u := by
  rw [← e1, ← e2, Int.gcd_mul_left]
theorem low {a b : Int} (h : b ≠ 0) : dv (tp a b) (bt a b) = 1 := by
  have e := gcd_scale (tp_mul (a := a) h) (bt_mul (a := a) h)
  rw [natAbs_sg] at e
  have p := dv_pos (a := a) h
  have q : 0 < Int.gcd a b := by unfold dv at p; omega
  have : Int.gcd a b * Int.gcd (tp a b) (bt a b) = Int.gcd a b * 1 := by rw [← e, Nat.mul_one]
  have := Nat.eq_of_mul_eq_mul_left q this
  unfold dv; rw [this]; rfl
/-- one tuple alone for each fraction -/
theorem coprime_eq {a b c d : Int} (hb : 0 < b) (hd : 0 < d) (h1 : dv a b = 1) (h2 : dv c d = 1) (e : a * d = c * b) : a = c ∧ b = d := by
  have g1 : Nat.Coprime b.natAbs a.natAbs := by
    have : Int.gcd a b = 1 := by unfold dv at h1; omega
    unfold Int.gcd at this
    exact Nat.Coprime.symm this
  have g2 : Nat.Coprime d.natAbs c.natAbs := by
    have : Int.gcd c d = 1 := by unfold dv at h2; omega
    unfold Int.gcd at this
    exact Nat.Coprime.symm this
  have en : a.natAbs * d.natAbs = c.natAbs * b.natAbs := by rw [← Int.natAbs_mul, ← Int.natAbs_mul, e]
  have d1 : b.natAbs ∣ d.natAbs := g1.dvd_of_dvd_mul_left ⟨c.natAbs, by rw [en, Nat.mul_comm]⟩
  have d2 : d.natAbs ∣ b.natAbs := g2.dvd_of_dvd_mul_left ⟨a.natAbs, by rw [← en, Nat.mul_comm]⟩
  have eb : b.natAbs = d.natAbs := Nat.dvd_antisymm d1 d2
  have ebd : b = d := by omega
  refine ⟨?_, ebd⟩
  rw [ebd] at e
  exact Int.eq_of_mul_eq_mul_right (by omega) e
theorem tp_uniq {a b x y : Int} (h : b ≠ 0) (hy : 0 < y) (hl : dv x y = 1) (e : a * y = x * b) : tp a b = x ∧ bt a b = y := by
  refine coprime_eq (bt_pos h) hy (low h) hl ?_
  have c := cross (a := a) h
  -- tp*y = x*bt : multiply by b
  have : (tp a b * y) * b = (x * bt a b) * b := by
    calc (tp a b * y) * b = (tp a b * b) * y := by rw [Int.mul_assoc, Int.mul_comm y b, ← Int.mul_assoc]
      _ = (a * bt a b) * y := by rw [c]
      _ = (a * y) * bt a b := by rw [Int.mul_assoc, Int.mul_comm (bt a b) y, ← Int.mul_assoc]
      _ = (x * b) * bt a b := by rw [e]
      _ = (x * bt a b) * b := by rw [Int.mul_assoc, Int.mul_comm b, ← Int.mul_assoc]
  exact Int.eq_of_mul_eq_mul_right h this
/-- sizes -/
theorem natAbs_fdiv_le (a s : Int) (k : Int) (e : s * k = a) (hs : s ≠ 0) : k.natAbs ≤ a.natAbs := by
  have : a.natAbs = s.natAbs * k.natAbs := by rw [← e, Int.natAbs_mul]
  rw [this]
  exact Nat.le_mul_of_pos_left _ (by omega)
theorem tp_le {a b : Int} (h : b ≠ 0) : (tp a b).natAbs ≤ a.natAbs := natAbs_fdiv_le a _ _ (tp_mul h) (sg_ne h)
theorem bt_le {a b : Int} (h : b ≠ 0) : (bt a b).natAbs ≤ b.natAbs := natAbs_fdiv_le b _ _ (bt_mul h) (sg_ne h)

end Mine

namespace Mine
open PySem PySem.W PySem.Calls PyProof.Rows
@[irreducible] def num (c : Int) : Int := if c.fmod 3 = 0 then (c.fdiv 3).fmod 19 - 9 else if c.fmod 3 = 1 then (c.fdiv 3).fmod 2000003 - 1000001 else (c.fdiv 3).fmod 1999999999999999999999999999999 - 999999999999999999999999999999
theorem num_a {c : Int} (h : c.fmod 3 = 0) : (c.fdiv 3).fmod 19 - 9 = num c := by unfold num; rw [if_pos h]
theorem num_b {c : Int} (h : ¬ c.fmod 3 = 0) (h1 : c.fmod 3 = 1) : (c.fdiv 3).fmod 2000003 - 1000001 = num c := by unfold num; rw [if_neg h, if_pos h1]
theorem num_c {c m k : Int} (h : ¬ c.fmod 3 = 0) (h1 : ¬ c.fmod 3 = 1) (hm : m = 1999999999999999999999999999999) (hk : k = 999999999999999999999999999999) : (c.fdiv 3).fmod m - k = num c := by unfold num; rw [if_neg h, if_neg h1, hm, hk]
theorem num_in (c : Int) : -1000000000000000000000000000000 < num c ∧ num c < 1000000000000000000000000000000 := by
  have h (a m : Int) (hm : 0 < m) : 0 ≤ a.fmod m ∧ a.fmod m < m := ⟨Int.fmod_nonneg_of_pos a hm, Int.fmod_lt_of_pos a hm⟩
  have h1 := h (c.fdiv 3) 19 (by decide)
  have h2 := h (c.fdiv 3) 2000003 (by decide)
  have h3 := h (c.fdiv 3) 1999999999999999999999999999999 (by decide)
  unfold num; split
  · omega
  · split <;> omega
def yes2 (_ _ : Int) : Bool := true
theorem abs_start (a b : Int) : dv (if a < 0 then -a else a) (if b < 0 then -b else b) = dv a b := by
  have e : ∀ x : Int, (if x < 0 then -x else x) = (x.natAbs : Int) := fun x => by split <;> omega
  rw [e, e, dv_abs]
theorem start1 (a b : Int) : 0 ≤ (if a < 0 then -a else a) ∧ 0 ≤ (if b < 0 then -b else b) ∧ dv (if a < 0 then -a else a) (if b < 0 then -b else b) = dv a b :=
  ⟨by split <;> omega, by split <;> omega, abs_start a b⟩
theorem out2 {a b x y : Int} (h : dv x y = dv a b) (hy : y = 0) : (if x < 0 then -x else x) = dv a b := by
  rw [← l_out h hy]; split <;> omega
structure Sm (x : Int) : Prop where
  lo : -10000000000000000000000000000000 ≤ x
  hi : x ≤ 10000000000000000000000000000000
structure P28 (x : Int) : Prop where
  lo : 0 ≤ x
  hi : x < 10000000000000000000000000000
structure P41 (x : Int) : Prop where
  lo : 0 ≤ x
  hi : x < 41
theorem Sm.neg {x : Int} (h : Sm x) : Sm (0 - x) := ⟨by have := h.hi; omega, by have := h.lo; omega⟩
theorem Sm.zero : Sm 0 := ⟨by decide, by decide⟩
theorem num_sm (c : Int) : Sm (num c) := ⟨by have := num_in c; omega, by have := num_in c; omega⟩
theorem Sm.lt {y : Int} (h : Sm y) : y.natAbs < 2 ^ 104 := by
  have : (2 : Nat) ^ 104 = 20282409603651670423947251286016 := by decide
  have := h.lo
  have := h.hi
  omega
theorem Sm.log {y : Int} (h : Sm y) : y.natAbs.log2 < 9000 := by
  by_cases e : y.natAbs = 0
  · rw [e]; decide
  · rw [Nat.log2_lt e]
    exact Nat.lt_of_lt_of_le h.lt (Nat.pow_le_pow_right (by decide) (by decide))
theorem Sm.bits {y : Int} (h : Sm y) : Builtin.Int.intBits y ≤ 2 ^ 20 :=
  intBits_le_iff.mpr (Nat.lt_of_lt_of_le h.lt (Nat.pow_le_pow_right (by decide) (by decide)))
theorem Sm.sg {a b : Int} (hb : b ≠ 0) (h : Sm b) : Sm (sg a b) := by
  have := dv_le a b hb
  have := dv_nonneg a b
  have := h.lo
  have := h.hi
  refine ⟨?_, ?_⟩ <;> (unfold Mine.sg; split <;> omega)
section
variable {prog : Program} {w : World} {A : Around} {E : Value → Shared → Prop} {s : Shared} {x y a b : Int} {t u : Tok} {Q : Value → Shared → Prop}
theorem step_pow {n : Int} (z : Int) (hn : 0 ≤ n) (hn2 : n ≤ 1000000) (ha : a.natAbs < 2 ^ 64) (e : a ^ n.toNat = z) (h : Q (.int z s.toks) { s with toks := s.toks + 1 }) :
    wpAny (model prog w) A (binaryOp .Pow (.int a t) (.int n u)) Q E s := PyProof.Rows.pow_int_small hn hn2 ha (by rw [e]; exact h)
theorem step_sub (z : Int) (e : a - b = z) (h : Q (.int z s.toks) { s with toks := s.toks + 1 }) :
    wpAny (model prog w) A (binaryOp .Sub (.int a t) (.int b u)) Q E s := PyProof.Rows.sub_int (by rw [e]; exact h)
theorem step_mulL (z : Int) (hb : Builtin.Int.intBits a ≤ 64) (e : a * b = z) (h : Q (.int z s.toks) { s with toks := s.toks + 1 }) :
    wpAny (model prog w) A (binaryOp .Mult (.int a t) (.int b u)) Q E s := PyProof.Rows.mul_int (by rw [e]; exact h) (PySem.IntMulOk.of_left hb)
theorem step_tp (hy : y = sg x b) (hb : b ≠ 0) (hB : Sm b) (hX : Sm x)
    (h : Sm (tp x b) → Q (.int (tp x b) s.toks) { s with toks := s.toks + 1 }) :
    wpAny (model prog w) A (binaryOp .FloorDiv (.int x t) (.int y u)) Q E s := by
  have g := Sm.sg (a := x) hb hB
  have l := tp_le (a := x) hb
  have n := sg_ne (a := x) hb
  have q : tp x b = x.fdiv y := by unfold tp; rw [hy]
  have := hX.lo
  have := hX.hi
  have k : Sm (tp x b) := ⟨by omega, by omega⟩
  rw [q] at h k
  rw [← hy] at g n
  exact PyProof.Rows.floordiv_int n (h k) (Or.inl (PyProof.noPylong_of_log2 g.log))
theorem step_bt (hy : y = sg a x) (hb : x ≠ 0) (hX : Sm x)
    (h : 0 < bt a x → Sm (bt a x) → Q (.int (bt a x) s.toks) { s with toks := s.toks + 1 }) :
    wpAny (model prog w) A (binaryOp .FloorDiv (.int x t) (.int y u)) Q E s := by
  have g := Sm.sg (a := a) hb hX
  have l := bt_le (a := a) hb
  have n := sg_ne (a := a) hb
  have p := bt_pos (a := a) hb
  have := hX.lo
  have := hX.hi
  have k : Sm (bt a x) := ⟨by omega, by omega⟩
  have h := h p k
  have q : bt a x = x.fdiv y := by unfold bt; rw [hy]
  rw [q] at h
  rw [← hy] at g n
  exact PyProof.Rows.floordiv_int n h (Or.inl (PyProof.noPylong_of_log2 g.log))
theorem step_mod (hy : y ≠ 0) (h : Q (.int (x.fmod y) s.toks) { s with toks := s.toks + 1 }) :
    wpAny (model prog w) A (binaryOp .Mod (.int x t) (.int y u)) Q E s :=
  PyProof.Rows.mod_int hy h
theorem step_mod41 (h : ∀ r, P41 r → Q (.int r s.toks) { s with toks := s.toks + 1 }) : wpAny (model prog w) A (binaryOp .Mod (.int x t) (.int 41 u)) Q E s :=
  PyProof.Rows.mod_int (by decide) (h _ ⟨Int.fmod_nonneg_of_pos x (by decide), Int.fmod_lt_of_pos x (by decide)⟩)
theorem step_mod28 (h : ∀ r, P28 r → Q (.int r s.toks) { s with toks := s.toks + 1 }) : wpAny (model prog w) A (binaryOp .Mod (.int x t) (.int 10000000000000000000000000000 u)) Q E s :=
  PyProof.Rows.mod_int (by decide) (h _ ⟨Int.fmod_nonneg_of_pos x (by decide), Int.fmod_lt_of_pos x (by decide)⟩)
theorem step_mulS (hx : P28 x) (hy : P41 y) (h : ∀ z, Sm z → Q (.int z s.toks) { s with toks := s.toks + 1 }) :
    wpAny (model prog w) A (binaryOp .Mult (.int x t) (.int (1 + y) u)) Q E s := by
  have x0 := hx.lo
  have x1 := hx.hi
  have y0 := hy.lo
  have y1 := hy.hi
  have k0 : 0 ≤ x * (1 + y) := Int.mul_nonneg x0 (by omega)
  have k1 : x * (1 + y) ≤ 10000000000000000000000000000 * 41 := Int.mul_le_mul (by omega) (by omega) (by omega) (by omega)
  exact PyProof.Rows.mul_int (h (x * (1 + y)) ⟨by omega, by omega⟩) (PySem.IntMulOk.of_right (PySem.intBits_le_64 (by omega) (by omega)))
theorem step_mulB (hx : Sm x) (hy : Sm y) (h : Q (.int (x * y) s.toks) { s with toks := s.toks + 1 }) :
    wpAny (model prog w) A (binaryOp .Mult (.int x t) (.int y u)) Q E s :=
  PyProof.Rows.mul_int h (PySem.IntMulOk.of_bits hx.bits hy.bits)
theorem step_eq (e : x = y) (h : Q (.bool true) s) : wpAny (model prog w) A (compareOp .Eq (.int x t) (.int y u)) Q E s := by
  refine PyProof.Rows.eq_int ?_
  have d : (x == y) = true := beq_iff_eq.mpr e
  rw [d]
  exact h
end
end Mine

open PySem PySem.W PyProof.Rows
local macro_rules | `(tactic| walk_at "call builtin:isinstance") => `(tactic| (k_here; (with_reducible show wpAny _ _ (call _ [Value.ref _, _]) _ _ _); k_dflt (refine' Mine.isi_exc ?N ?G ?F ?X ?k2 ?k3 ?k4 ?k5 ?k6 ?ee ?_; (case G => with_reducible assumption); (case N => with_reducible assumption); (case F => with_reducible assumption); (case X => with_reducible assumption); (case k2 => k_is); (case k3 => k_is); (case k4 => k_is); (case k5 => k_is); (case k6 => k_is); (case ee => kit_is); k_whole; intro _)))
local macro_rules | `(tactic| walk_at "eval Call Name") => `(tactic| ((with_reducible show wpAny _ _ (eval (Expr.Call (Expr.Name "_law_number" _) _ _ _) _) _ _ _); refine Call_ ?_))
local macro_rules | `(tactic| walk_at "binaryOp FloorDiv int int") => `(tactic| (k_here; (with_reducible refine' Mine.step_tp ?k1 ?k2 ?k3 ?k4 ?_); (case k1 => k_dflt (first | exact (Mine.sg_pos (by (first | with_reducible assumption | omega))).symm | exact (Mine.sg_neg (by (first | with_reducible assumption | omega))).symm)); (case k2 => k_dflt (first | with_reducible assumption | omega)); (case k3 => k_dflt (first | with_reducible assumption | exact Mine.Sm.neg (by assumption) | exact Mine.Sm.zero)); (case k4 => k_dflt (first | with_reducible assumption | exact Mine.Sm.neg (by assumption) | exact Mine.Sm.zero)); intro hq0))
local macro_rules | `(tactic| walk_at "binaryOp FloorDiv int int") => `(tactic| (k_here; (with_reducible refine' Mine.step_bt ?k1 ?k2 ?k3 ?_); (case k1 => k_dflt (first | exact (Mine.sg_pos (by (first | with_reducible assumption | omega))).symm | exact (Mine.sg_neg (by (first | with_reducible assumption | omega))).symm)); (case k2 => k_dflt (first | with_reducible assumption | omega)); (case k3 => k_dflt (first | with_reducible assumption | exact Mine.Sm.neg (by assumption) | exact Mine.Sm.zero)); intro hq0 hq1))
local macro_rules | `(tactic| walk_at "binaryOp FloorDiv int int") => `(tactic| (k_here; (with_reducible show wpAny _ _ (binaryOp _ (Value.int _ _) (Value.int 3 _)) _ _ _); (with_reducible refine floordiv_int ?kbe ?_ (Or.inl (PyProof.noPylong_small ?kbp))); (case kbe => decide); (case kbp => decide)))
local macro_rules | `(tactic| walk_at "binaryOp Mod int int") => `(tactic| (k_here; (with_reducible show wpAny _ _ (binaryOp _ (Value.int _ _) (Value.int (Mine.dv _ _) _)) _ _ _); (with_reducible refine' Mine.step_mod ?k1 ?_); (case k1 => k_dflt (first | with_reducible assumption | omega))))
local macro_rules | `(tactic| walk_at "binaryOp Mod int int") => `(tactic| (k_here; (with_reducible refine' Mine.step_mod41 ?_); intro r' hr0))
local macro_rules | `(tactic| walk_at "binaryOp Mod int int") => `(tactic| (k_here; (with_reducible refine' Mine.step_mod28 ?_); intro r' hr0))
local macro_rules | `(tactic| walk_at "binaryOp Mult int int") => `(tactic| (k_here; (with_reducible refine' Mine.step_mulB ?k1 ?k2 ?_); (case k1 => k_dflt (first | with_reducible assumption | exact Mine.Sm.neg (by assumption) | exact Mine.Sm.zero)); (case k2 => k_dflt (first | with_reducible assumption | exact Mine.Sm.neg (by assumption) | exact Mine.Sm.zero))))
local macro_rules | `(tactic| walk_at "binaryOp Mult int int") => `(tactic| (k_here; (with_reducible refine' Mine.step_mulS ?k1 ?k2 ?_); (case k1 => with_reducible assumption); (case k2 => with_reducible assumption); intro z' hz0))
local macro_rules | `(tactic| walk_at "compareOp Eq int int") => `(tactic| (k_here; (with_reducible refine' Mine.step_eq ?k1 ?_); (case k1 => k_dflt (with_reducible first
  | rfl
  | exact Mine.low (by first | with_reducible assumption | omega)
  | exact Mine.cross (by first | with_reducible assumption | omega)
  | exact Mine.fmod_left _ _
  | exact Mine.fmod_right _ _
  | exact (Mine.dv_eq_zero (by assumption)).1
  | exact (Mine.dv_eq_zero (by assumption)).2))))
local macro_rules | `(tactic| walk_at "binaryOp Pow int int") => `(tactic| (k_here; (with_reducible show wpAny _ _ (binaryOp _ (Value.int 10 _) (Value.int 30 _)) _ _ _); (with_reducible refine' Mine.step_pow 1000000000000000000000000000000 ?k1 ?k2 ?k3 ?k4 ?_); (case k1 => decide); (case k2 => decide); (case k3 => decide); (case k4 => decide)))
local macro_rules | `(tactic| walk_at "binaryOp Pow int int") => `(tactic| (k_here; (with_reducible show wpAny _ _ (binaryOp _ (Value.int 10 _) (Value.int 28 _)) _ _ _); (with_reducible refine' Mine.step_pow 10000000000000000000000000000 ?k1 ?k2 ?k3 ?k4 ?_); (case k1 => decide); (case k2 => decide); (case k3 => decide); (case k4 => decide)))
local macro_rules | `(tactic| walk_at "binaryOp Mult int int") => `(tactic| (k_here; (with_reducible show wpAny _ _ (binaryOp _ (Value.int 2 _) (Value.int 1000000000000000000000000000000 _)) _ _ _); (with_reducible refine' Mine.step_mulL 2000000000000000000000000000000 ?k1 ?k2 ?_); (case k1 => decide); (case k2 => decide)))
local macro_rules | `(tactic| walk_at "binaryOp Sub int int") => `(tactic| (k_here; (with_reducible show wpAny _ _ (binaryOp _ (Value.int 2000000000000000000000000000000 _) (Value.int 1 _)) _ _ _); (with_reducible refine' Mine.step_sub 1999999999999999999999999999999 ?k1 ?_); (case k1 => decide)))
local macro_rules | `(tactic| walk_at "binaryOp Sub int int") => `(tactic| (k_here; (with_reducible show wpAny _ _ (binaryOp _ (Value.int 1000000000000000000000000000000 _) (Value.int 1 _)) _ _ _); (with_reducible refine' Mine.step_sub 999999999999999999999999999999 ?k1 ?_); (case k1 => decide)))

namespace Mine
structure Nn (x : Int) : Prop where
  lo : 0 ≤ x
section
variable {prog : Program} {w : World} {A : Around} {E : Value → Shared → Prop} {s : Shared} {x y a b : Int} {t u : Tok} {Q : Value → Shared → Prop}
theorem step_eqF (p : x ≠ y) (h : Q (.bool false) s) : wpAny (model prog w) A (compareOp .Eq (.int x t) (.int y u)) Q E s := by
  refine PyProof.Rows.eq_int ?_
  have d : (x == y) = false := beq_eq_false_iff_ne.mpr p
  rw [d]
  exact h
end
end Mine
local macro_rules | `(tactic| walk_at "compareOp Eq int int") => `(tactic| (k_here; (with_reducible refine' Mine.step_eqF ?k1 ?_); (case k1 => with_reducible assumption)))
local macro_rules | `(tactic| k_in) => `(tactic| (refine Frag.In.keeps ?_ (Fr.keep (by with_reducible assumption)); with_reducible assumption))
local macro_rules | `(tactic| walk_at "call ref cons nil") => `(tactic| (k_here; (fail_if_success k_inElt); kts_any; first | k_extra "call ref" | k_dflt (refine wpAny_call ?_; first | (refine' code_defS ?k1 ?k2 ?k3 ?k4 ?k5 ?XB ?TB ?D ?T0 ?kA ?k6 ?k7 ?k8 ?k9 ?kB ?_ ?cK ?c2 ?c3 ?c4 ?c5; (case kA => exact rfl); (case k2 => with_reducible assumption); (case k1 => with_reducible assumption); (case XB => with_reducible assumption); (case TB => with_reducible assumption); (case D => with_reducible assumption); (case T0 => first | with_reducible assumption | exact KtsTurn.refl); (case k3 => with_reducible assumption); (case k4 => with_reducible assumption); (case k5 => with_reducible assumption); (case k6 => k_is); (case k7 => k_is); (case k8 => k_room); (case k9 => exact BindsTo.of_eq rfl); (case kB => exact locs rfl); (case cK => exact rfl); (case c2 => exact rfl); (case c3 => exact rfl); (case c4 => exact rfl); (case c5 => decide); k_whole; intro g' L' h' FG' F' N' B' X' T' D'; (try dsimp only); (try k_lift B'); (try k_fold); skip) | (refine' code_defS0 ?k1 ?k2 ?k3 ?k4 ?k5 ?kA ?k6 ?k7 ?k8 ?k9 ?kB ?_ ?cK ?c2 ?c3 ?c4 ?c5; (case kA => exact rfl); (case k2 => with_reducible assumption); (case k1 => with_reducible assumption); (case k3 => with_reducible assumption); (case k4 => with_reducible assumption); (case k5 => with_reducible assumption); (case k6 => k_is); (case k7 => k_is); (case k8 => k_room); (case k9 => exact BindsTo.of_eq rfl); (case kB => exact locs rfl); (case cK => exact rfl); (case c2 => exact rfl); (case c3 => exact rfl); (case c4 => exact rfl); (case c5 => decide); k_whole; intro g' L' h' FG' F' N' B' X' T' D'; (try dsimp only); (try k_lift B'); (try k_fold); skip))))
local macro_rules | `(tactic| k_room) => `(tactic| ((try simp only [depth_mark, depth_under_make, depth_under_kw, depth_in1, depth_deeper, depth_caller]); (try dsimp only [ktrTop]); omega))
namespace Mine
theorem split0 {P : Prop} (y : Int) (h1 : y = 0 → P) (h2 : y ≠ 0 → P) : P := by
  by_cases e : y = 0
  · exact h1 e
  · exact h2 e
theorem neg0 {z : Int} (h : z = 0) : 0 - z = 0 := by omega
theorem negn {z : Int} (h : z ≠ 0) : 0 - z ≠ 0 := by omega
end Mine
local macro_rules | `(tactic| walk_at "compareOp Eq int int") => `(tactic| (k_here; (with_reducible refine' Mine.step_eq ?k1 ?_); (case k1 => with_reducible assumption)))
namespace Mine
open PySem PySem.W PySem.Spec PySem.Calls PyProof.Rows
theorem isi_tup {prog : Program} {w : World} {A : Around} {E : Value → Shared → Prop} {s : Shared} {K : Frag} {x : Addr} {o : Obj} {h₀ : Heap} {L : Addr} {news : List (Addr × Obj)} {m : Str → Option Value} {c : Value} {b : Bool} {Q : Value → Shared → Prop}
    (N : News h₀ L s.heap news) (hm : (x, o) ∈ news) (hc : o.cls = .type "tuple") (F : Fr h₀ L s.heap m) (X : K.In h₀) (e : kitOne K (.type "tuple") c = some b) (h : ∀ tk, Q (.bool b) { s with toks := tk }) :
    wpAny (model prog w) A (call (.builtin "isinstance") [.ref x, c]) Q E s :=
  kia_one kitx_tuple (X.keeps F.keep) (kitAt_N N hm hc) e (fun z => nomatch z) h
end Mine
local macro_rules | `(tactic| walk_at "call builtin:isinstance") => `(tactic| (k_here; (with_reducible show wpAny _ _ (call _ [Value.ref _, _]) _ _ _); k_dflt (refine' Mine.isi_tup ?N ?hm ?hc ?F ?X ?ee ?_; (case N => with_reducible assumption); (case hm => k_mem); (case hc => exact rfl); (case F => with_reducible assumption); (case X => with_reducible assumption); (case ee => kit_is); k_whole; intro _)))
set_option maxRecDepth 100000 in
set_option maxHeartbeats 8000000 in
theorem Mine.divides_ok : ∀ {w : World} {mean : ExcName → Option Value} {mg mb : Str → Option Value} {x y : Int} {tx ty : Tok} {news : CbLed} {dp un : Nat} {gd : Option (List Code)} {cn : Str} {cs : Scope} {a : Addr} {ccd : Value} {cl : List (Str × Addr)} {outer : List Env} {A₀ : Around} {base h₀ : Heap} {L : Addr} {m : Str → Option Value} {s : Shared} {Q E : Value → Shared → Prop}
    (_ : Below A₀ base outer h₀) (_ : Fr h₀ L s.heap m) (_ : (hd01.heap_39 w.params).In h₀) (_ : News h₀ L s.heap news) (_ : Top hd01.view_39 (looseW hd01.view_39 []) mean mg mb h₀) (_ : cs.kind = .function) (_ : dp + 10 < recursionLimit) (_ : un + 150 < cLine)
    (_ : ∀ (t : Tok) (h' : Heap) (tk' : Nat), Fr h₀ L h' m → News h₀ L h' news → Q (.bool true) { s with heap := h', toks := tk' }),
    wpAny (model PySem.Challenge.rw_weighwalk_k01_divisors_and_fractions.row.prog w) (ktrTop dp un gd cn cs L a ccd cl outer) (call (.ref 203) [.int x tx, .int y ty]) Q E s := by
  k_fill
  intro w mean mg mb x y tx ty news dp un gd cn cs a ccd cl outer A₀ base h₀ L m s Q E k1 k2 k3 k4 k5 kK kd ku hret
  k_with "call ref" => k_call_by "divisor" Mine.dv
  k_with "call ref" => k_call_by "_law_divisor" Mine.dv
  k_with "call ref" => k_call_by "_law_number" Mine.num
  k_with "fact _law_number" => exact Mine.num_sm
  k_with "fact divisor" => exact Mine.dv_nonneg
  k_with "tree" => with_reducible first | exact Mine.d_out (by assumption) (by omega) (by omega) (by omega) | exact Mine.out2 (by assumption) (by omega) | exact Mine.num_a (by assumption) | exact Mine.num_b (by assumption) (by assumption) | exact Mine.num_c (by assumption) (by assumption) (by decide) (by decide)
  k_with "state" => with_reducible first
    | exact Mine.start1 _ _
    | exact Mine.d_turn (by assumption) (by omega)
    | exact Mine.l_turn (by assumption)
  k_with "measure" => with_reducible first | exact Mine.d_less (by omega) | exact Mine.fmod_abs_lt _ _ (by omega)
  k_with "exec While Compare cons nil" => k_while_given ["one", "other"] (fun a b _ g r => 0 ≤ g ∧ 0 ≤ r ∧ Mine.dv g r = Mine.dv a b) (fun _ _ _ _ r => r.toNat) "greatest" "rest"
  k_with "exec While Compare cons nil" => k_while_given ["_law_one!", "_law_other!"] (fun a b _ x y => Mine.dv x y = Mine.dv a b) (fun _ _ _ _ y => y.natAbs) "_law_one" "_law_other"
  k_with "pyIter ref" => k_search (fun _ => True)
  refine wpAny_call ?_
  k_dflt cell_enter
  k_steps
  all_goals cb_end hret
set_option maxRecDepth 100000 in
set_option maxHeartbeats 8000000 in
theorem Mine.isfrac_ok : ∀ {w : World} {mean : ExcName → Option Value} {mg mb : Str → Option Value} {x y : Int} {tx ty : Tok} (_ : Mine.Sm x) (_ : Mine.Sm y) (_ : y ≠ 0) {news : CbLed} {dp un : Nat} {gd : Option (List Code)} {cn : Str} {cs : Scope} {a : Addr} {ccd : Value} {cl : List (Str × Addr)} {outer : List Env} {A₀ : Around} {base h₀ : Heap} {L : Addr} {m : Str → Option Value} {s : Shared} {Q E : Value → Shared → Prop}
    (_ : Below A₀ base outer h₀) (_ : Fr h₀ L s.heap m) (_ : (hd01.heap_39 w.params).In h₀) (_ : News h₀ L s.heap news) (_ : Top hd01.view_39 (looseW hd01.view_39 []) mean mg mb h₀) (_ : cs.kind = .function) (_ : dp + 10 < recursionLimit) (_ : un + 150 < cLine)
    (_ : ∀ (t : Tok) (h' : Heap) (tk' : Nat), Fr h₀ L h' m → News h₀ L h' news → Q (.bool true) { s with heap := h', toks := tk' }),
    wpAny (model PySem.Challenge.rw_weighwalk_k01_divisors_and_fractions.row.prog w) (ktrTop dp un gd cn cs L a ccd cl outer) (call (.ref 210) [.int x tx, .int y ty]) Q E s := by
  k_fill
  intro w mean mg mb x y tx ty hx hy hn news dp un gd cn cs a ccd cl outer A₀ base h₀ L m s Q E k1 k2 k3 k4 k5 kK kd ku hret
  k_with "call ref" => k_call_by "divisor" Mine.dv
  k_with "call ref" => k_call_by "_law_divisor" Mine.dv
  k_with "call ref" => k_call_by "_law_number" Mine.num
  k_with "fact _law_number" => exact Mine.num_sm
  k_with "fact divisor" => exact Mine.dv_nonneg
  k_with "tree" => with_reducible first | exact Mine.d_out (by assumption) (by omega) (by omega) (by omega) | exact Mine.out2 (by assumption) (by omega) | exact Mine.num_a (by assumption) | exact Mine.num_b (by assumption) (by assumption) | exact Mine.num_c (by assumption) (by assumption) (by decide) (by decide)
  k_with "state" => with_reducible first
    | exact Mine.start1 _ _
    | exact Mine.d_turn (by assumption) (by omega)
    | exact Mine.l_turn (by assumption)
  k_with "measure" => with_reducible first | exact Mine.d_less (by omega) | exact Mine.fmod_abs_lt _ _ (by omega)
  k_with "exec While Compare cons nil" => k_while_given ["one", "other"] (fun a b _ g r => 0 ≤ g ∧ 0 ≤ r ∧ Mine.dv g r = Mine.dv a b) (fun _ _ _ _ r => r.toNat) "greatest" "rest"
  k_with "exec While Compare cons nil" => k_while_given ["_law_one!", "_law_other!"] (fun a b _ x y => Mine.dv x y = Mine.dv a b) (fun _ _ _ _ y => y.natAbs) "_law_one" "_law_other"
  k_with "pyIter ref" => k_search (fun _ => True)
  refine wpAny_call ?_
  k_dflt cell_enter
  k_steps
  all_goals cb_end hret
namespace Mine
open PySem PySem.W PySem.Spec PySem.Calls PyProof.Rows
theorem call210z {prog : Program} {w : World} {A : Around} {E : Value → Shared → Prop} {s : Shared} {x z : Int} {t u : Tok} {Q : Value → Shared → Prop}
    (hz : z = 0) (h : 0 - z = 0 → wpAny (model prog w) A (call (.ref 210) [.int x t, .int (0 - z) u]) Q E s) : wpAny (model prog w) A (call (.ref 210) [.int x t, .int (0 - z) u]) Q E s :=
  h (neg0 hz)
theorem call210 {prog : Program} {w : World} {A : Around} {E : Value → Shared → Prop} {s : Shared} {x y : Int} {t u : Tok} {Q : Value → Shared → Prop}
    (h1 : y = 0 → wpAny (model prog w) A (call (.ref 210) [.int x t, .int y u]) Q E s) (h2 : y ≠ 0 → wpAny (model prog w) A (call (.ref 210) [.int x t, .int y u]) Q E s) : wpAny (model prog w) A (call (.ref 210) [.int x t, .int y u]) Q E s :=
  split0 y h1 h2
end Mine
local macro_rules | `(tactic| walk_at "call ref cons nil") => `(tactic| (k_here; (with_reducible show wpAny _ _ (call (Value.ref 203) _) _ _ _); k_dflt (refine' Mine.divides_ok  ?k1 ?k2 ?k3 ?k4 ?k5 ?kK ?kd ?ku ?_; (case k2 => with_reducible assumption); (case k1 => with_reducible assumption); (case k3 => with_reducible assumption); (case k4 => with_reducible assumption); (case k5 => with_reducible assumption); (case kK => first | exact rfl | assumption); (case kd => ((try simp only [depth_mark, depth_under_make, depth_under_kw, depth_in1, depth_deeper, depth_caller]); (try dsimp only [ktrTop]); first | decide | omega)); (case ku => ((try simp only [units_in1, units_deeper, Around.mark_units, units_caller]); (try dsimp only [ktrTop]); (have hcL9 := cLine_is); first | decide | omega)); intro t9 h9 tk9 F9 N9; (try dsimp only); (try k_fold))))
local macro_rules | `(tactic| walk_at "call ref cons nil") => `(tactic| (k_here; (with_reducible show wpAny _ _ (call (Value.ref 210) [Value.int _ _, Value.int _ _]) _ _ _); (with_reducible refine' Mine.call210 ?_ ?_); intro hz9; k_dflt (refine wpAny_call ?_; first | (refine' code_defS ?k1 ?k2 ?k3 ?k4 ?k5 ?XB ?TB ?D ?T0 ?kA ?k6 ?k7 ?k8 ?k9 ?kB ?_ ?cK ?c2 ?c3 ?c4 ?c5; (case kA => exact rfl); (case k2 => with_reducible assumption); (case k1 => with_reducible assumption); (case XB => with_reducible assumption); (case TB => with_reducible assumption); (case D => with_reducible assumption); (case T0 => first | with_reducible assumption | exact KtsTurn.refl); (case k3 => with_reducible assumption); (case k4 => with_reducible assumption); (case k5 => with_reducible assumption); (case k6 => k_is); (case k7 => k_is); (case k8 => k_room); (case k9 => exact BindsTo.of_eq rfl); (case kB => exact locs rfl); (case cK => exact rfl); (case c2 => exact rfl); (case c3 => exact rfl); (case c4 => exact rfl); (case c5 => decide); k_whole; intro g' L' h' FG' F' N' B' X' T' D'; (try dsimp only); (try k_lift B'); (try k_fold); skip) | (refine' code_defS0 ?k1 ?k2 ?k3 ?k4 ?k5 ?kA ?k6 ?k7 ?k8 ?k9 ?kB ?_ ?cK ?c2 ?c3 ?c4 ?c5; (case kA => exact rfl); (case k2 => with_reducible assumption); (case k1 => with_reducible assumption); (case k3 => with_reducible assumption); (case k4 => with_reducible assumption); (case k5 => with_reducible assumption); (case k6 => k_is); (case k7 => k_is); (case k8 => k_room); (case k9 => exact BindsTo.of_eq rfl); (case kB => exact locs rfl); (case cK => exact rfl); (case c2 => exact rfl); (case c3 => exact rfl); (case c4 => exact rfl); (case c5 => decide); k_whole; intro g' L' h' FG' F' N' B' X' T' D'; (try dsimp only); (try k_lift B'); (try k_fold); skip))))
local macro_rules | `(tactic| walk_at "call ref cons nil") => `(tactic| (k_here; (with_reducible show wpAny _ _ (call (Value.ref 210) _) _ _ _); k_dflt (refine' Mine.isfrac_ok ?p0 ?p1 ?p2 ?k1 ?k2 ?k3 ?k4 ?k5 ?kK ?kd ?ku ?_; (case p0 => (first | with_reducible assumption | exact Mine.Sm.neg (by with_reducible assumption) | exact Mine.Sm.zero | exact Mine.num_sm _)); (case p1 => (first | with_reducible assumption | exact Mine.Sm.neg (by with_reducible assumption) | exact Mine.Sm.zero | exact Mine.num_sm _)); (case p2 => (first | with_reducible assumption | exact Mine.negn (by with_reducible assumption))); (case k2 => with_reducible assumption); (case k1 => with_reducible assumption); (case k3 => with_reducible assumption); (case k4 => with_reducible assumption); (case k5 => with_reducible assumption); (case kK => first | exact rfl | assumption); (case kd => ((try simp only [depth_mark, depth_under_make, depth_under_kw, depth_in1, depth_deeper, depth_caller]); (try dsimp only [ktrTop]); first | decide | omega)); (case ku => ((try simp only [units_in1, units_deeper, Around.mark_units, units_caller]); (try dsimp only [ktrTop]); (have hcL9 := cLine_is); first | decide | omega)); intro t9 h9 tk9 F9 N9; (try dsimp only); (try k_fold))))
local macro_rules | `(tactic| walk_at "call ref cons nil") => `(tactic| (k_here; (with_reducible show wpAny _ _ (call (Value.ref 210) [Value.int _ _, Value.int (0 - _) _]) _ _ _); (with_reducible refine' Mine.call210z ?k1 ?_); (case k1 => with_reducible assumption); intro hz9; k_dflt (refine wpAny_call ?_; first | (refine' code_defS ?k1 ?k2 ?k3 ?k4 ?k5 ?XB ?TB ?D ?T0 ?kA ?k6 ?k7 ?k8 ?k9 ?kB ?_ ?cK ?c2 ?c3 ?c4 ?c5; (case kA => exact rfl); (case k2 => with_reducible assumption); (case k1 => with_reducible assumption); (case XB => with_reducible assumption); (case TB => with_reducible assumption); (case D => with_reducible assumption); (case T0 => first | with_reducible assumption | exact KtsTurn.refl); (case k3 => with_reducible assumption); (case k4 => with_reducible assumption); (case k5 => with_reducible assumption); (case k6 => k_is); (case k7 => k_is); (case k8 => k_room); (case k9 => exact BindsTo.of_eq rfl); (case kB => exact locs rfl); (case cK => exact rfl); (case c2 => exact rfl); (case c3 => exact rfl); (case c4 => exact rfl); (case c5 => decide); k_whole; intro g' L' h' FG' F' N' B' X' T' D'; (try dsimp only); (try k_lift B'); (try k_fold); skip) | (refine' code_defS0 ?k1 ?k2 ?k3 ?k4 ?k5 ?kA ?k6 ?k7 ?k8 ?k9 ?kB ?_ ?cK ?c2 ?c3 ?c4 ?c5; (case kA => exact rfl); (case k2 => with_reducible assumption); (case k1 => with_reducible assumption); (case k3 => with_reducible assumption); (case k4 => with_reducible assumption); (case k5 => with_reducible assumption); (case k6 => k_is); (case k7 => k_is); (case k8 => k_room); (case k9 => exact BindsTo.of_eq rfl); (case kB => exact locs rfl); (case cK => exact rfl); (case c2 => exact rfl); (case c3 => exact rfl); (case c4 => exact rfl); (case c5 => decide); k_whole; intro g' L' h' FG' F' N' B' X' T' D'; (try dsimp only); (try k_lift B'); (try k_fold); skip))))
local macro_rules | `(tactic| walk_at "call ref cons nil") => `(tactic| (k_here; (with_reducible show wpAny _ _ (call (Value.ref 210) [Value.int _ _, Value.int 0 _]) _ _ _); k_dflt (refine wpAny_call ?_; first | (refine' code_defS ?k1 ?k2 ?k3 ?k4 ?k5 ?XB ?TB ?D ?T0 ?kA ?k6 ?k7 ?k8 ?k9 ?kB ?_ ?cK ?c2 ?c3 ?c4 ?c5; (case kA => exact rfl); (case k2 => with_reducible assumption); (case k1 => with_reducible assumption); (case XB => with_reducible assumption); (case TB => with_reducible assumption); (case D => with_reducible assumption); (case T0 => first | with_reducible assumption | exact KtsTurn.refl); (case k3 => with_reducible assumption); (case k4 => with_reducible assumption); (case k5 => with_reducible assumption); (case k6 => k_is); (case k7 => k_is); (case k8 => k_room); (case k9 => exact BindsTo.of_eq rfl); (case kB => exact locs rfl); (case cK => exact rfl); (case c2 => exact rfl); (case c3 => exact rfl); (case c4 => exact rfl); (case c5 => decide); k_whole; intro g' L' h' FG' F' N' B' X' T' D'; (try dsimp only); (try k_lift B'); (try k_fold); skip) | (refine' code_defS0 ?k1 ?k2 ?k3 ?k4 ?k5 ?kA ?k6 ?k7 ?k8 ?k9 ?kB ?_ ?cK ?c2 ?c3 ?c4 ?c5; (case kA => exact rfl); (case k2 => with_reducible assumption); (case k1 => with_reducible assumption); (case k3 => with_reducible assumption); (case k4 => with_reducible assumption); (case k5 => with_reducible assumption); (case k6 => k_is); (case k7 => k_is); (case k8 => k_room); (case k9 => exact BindsTo.of_eq rfl); (case kB => exact locs rfl); (case cK => exact rfl); (case c2 => exact rfl); (case c3 => exact rfl); (case c4 => exact rfl); (case c5 => decide); k_whole; intro g' L' h' FG' F' N' B' X' T' D'; (try dsimp only); (try k_lift B'); (try k_fold); skip))))
set_option maxRecDepth 100000 in
set_option maxHeartbeats 8000000 in
theorem PySem.Challenge.cw_weighwalk_k01_divisors_and_fractions_holds : PySem.Challenge.rw_weighwalk_k01_divisors_and_fractions.Holds :=
  hd01 (by
    k_with "call ref" => k_call_by "divisor" Mine.dv
    k_with "call ref" => k_call_by "_law_divisor" Mine.dv
    k_with "call ref" => k_call_by "_law_number" Mine.num
    k_with "fact _law_number" => exact Mine.num_sm
    k_with "fact divisor" => exact Mine.dv_nonneg
    k_with "tree" => with_reducible first | exact Mine.d_out (by assumption) (by omega) (by omega) (by omega) | exact Mine.out2 (by assumption) (by omega) | exact Mine.num_a (by assumption) | exact Mine.num_b (by assumption) (by assumption) | exact Mine.num_c (by assumption) (by assumption) (by decide) (by decide)
    k_with "state" => with_reducible first
      | exact Mine.start1 _ _
      | exact Mine.d_turn (by assumption) (by omega)
      | exact Mine.l_turn (by assumption)
    k_with "measure" => with_reducible first | exact Mine.d_less (by omega) | exact Mine.fmod_abs_lt _ _ (by omega)
    k_with "exec While Compare cons nil" => k_while_given ["one", "other"] (fun a b _ g r => 0 ≤ g ∧ 0 ≤ r ∧ Mine.dv g r = Mine.dv a b) (fun _ _ _ _ r => r.toNat) "greatest" "rest"
    k_with "exec While Compare cons nil" => k_while_given ["_law_one!", "_law_other!"] (fun a b _ x y => Mine.dv x y = Mine.dv a b) (fun _ _ _ _ y => y.natAbs) "_law_one" "_law_other"
    k_with "pyIter ref" => k_search (fun _ => True)
    w_strict k_go)
