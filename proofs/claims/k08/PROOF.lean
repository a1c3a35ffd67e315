import PyProof.Rows.All
import Wide.All
import OpenK.AllK
import Wide.FinOn
import Lean
import PyProof.EqAt
import PyProof.EqKinds
import PyProof.TupleCall
import KE.KTryMore
import KE.KIntText
import KE.IntTextLaws
import PyProof.StrLawsIn
import PyProof.MeetsStr
import PyProof.StrCalls
import PyProof.Rows.StrNews2
import PyProof.FitsInt
import PyProof.Ascii
import PyProof.Rows.StrLawsPart
import PyProof.NeKinds
import PyProof.Rows.InDataRows
import PyProof.Rows.StrFromFirst
import PySem.Challenge.RW_weighwalk_k08_kinds_by_name
set_option Elab.async false
set_option linter.all false
set_option maxRecDepth 100000
namespace L2
open PySem PySem.Spec PyProof.Rows

abbrev Key := Sum Int Str
def keyIs : Key → Value → Bool
  | .inl k, v => Value.isInt k v
  | .inr x, v => Value.isStrOf x v
def keyH (w : World) : Key → Int
  | .inl k => hashInt k
  | .inr x => hashStr w x
theorem keyIs_shape : ∀ {k : Key} {v : Value}, keyIs k v = true → (∃ i t, k = Sum.inl i ∧ v = Value.int i t) ∨ (∃ x t, k = Sum.inr x ∧ v = Value.str x t)
  | .inl i, v, h => by
    obtain ⟨t, e⟩ := Value.isInt_shape (k := i) (v := v) h
    exact .inl ⟨i, t, rfl, e⟩
  | .inr x, v, h => by
    obtain ⟨t, e⟩ := Value.isStrOf_shape (x := x) (v := v) h
    exact .inr ⟨x, t, rfl, e⟩
theorem key_ll (a b : Int) : decide ((Sum.inl a : Key) = Sum.inl b) = (a == b) := by
  by_cases e : a = b
  · subst e; simp
  · have h : ¬ (Sum.inl a : Key) = Sum.inl b := fun q => e (Sum.inl.inj q)
    rw [decide_eq_false h]
    exact (beq_eq_false_iff_ne.mpr e).symm
theorem key_rr (a b : Str) : decide ((Sum.inr a : Key) = Sum.inr b) = decide (a = b) := by
  by_cases e : a = b
  · subst e; simp
  · have h : ¬ (Sum.inr a : Key) = Sum.inr b := fun q => e (Sum.inr.inj q)
    rw [decide_eq_false h, decide_eq_false e]
theorem key_lr (a : Int) (b : Str) : decide ((Sum.inl a : Key) = Sum.inr b) = false := decide_eq_false (fun q => nomatch q)
theorem key_rl (a : Str) (b : Int) : decide ((Sum.inr a : Key) = Sum.inl b) = false := decide_eq_false (fun q => nomatch q)

def mixKind (prog : Program) (w : World) : PySem.KeyKind prog w Key where
  is := keyIs
  hash := keyH w
  inj := fun v a b ha hb => by
    rcases keyIs_shape ha with ⟨i, t, rfl, rfl⟩ | ⟨x, t, rfl, rfl⟩
    · rcases keyIs_shape hb with ⟨j, u, rfl, e⟩ | ⟨y, u, rfl, e⟩
      · injection e with e1 _; rw [e1]
      · exact nomatch e
    · rcases keyIs_shape hb with ⟨j, u, rfl, e⟩ | ⟨y, u, rfl, e⟩
      · exact nomatch e
      · injection e with e1 _; rw [e1]
  byValue := fun k v h => by
    rcases keyIs_shape h with ⟨i, t, rfl, rfl⟩ | ⟨x, t, rfl, rfl⟩ <;> rfl
  pyHash := fun hv h => by
    rcases keyIs_shape hv with ⟨i, t, rfl, rfl⟩ | ⟨x, t, rfl, rfl⟩
    · exact wpAny_pyHash_int h
    · exact wpAny_pyHash_str h
  eqBool := fun hu hv h => by
    rcases keyIs_shape hu with ⟨i, t, rfl, rfl⟩ | ⟨x, t, rfl, rfl⟩
    · rcases keyIs_shape hv with ⟨j, u, rfl, rfl⟩ | ⟨y, u, rfl, rfl⟩
      · rw [key_ll] at h; exact wpAny_eqBool_int h
      · rw [key_lr] at h; exact SeqAt.EqAt.int_str i t y u _ _ _ _ h
    · rcases keyIs_shape hv with ⟨j, u, rfl, rfl⟩ | ⟨y, u, rfl, rfl⟩
      · rw [key_rl] at h; exact SeqAt.EqAt.str_int x t j u _ _ _ _ h
      · rw [key_rr] at h; exact wpAny_eqBool_str h
  «strs» := fun k x t v h => by
    rcases keyIs_shape h with ⟨i, u, rfl, e⟩ | ⟨y, u, rfl, e⟩
    · exact nomatch e
    · injection e with e1 _
      subst e1
      cases v <;> rfl

end L2

namespace L2
open PySem PySem.Spec PyProof.Rows

inductive V where
  | non | bl (b : Bool) | int (i : Int) | str (x : Str) | byt (b : Array UInt8) | flt (b : UInt64) | ref (a : Addr) | ty (n : String)
  deriving DecidableEq

def RelV : V → Value → Prop
  | .non, u => u = Value.none
  | .bl b, u => u = Value.bool b
  | .int i, u => ∃ t, u = Value.int i t
  | .str x, u => ∃ t, u = Value.str x t
  | .byt b, u => ∃ t, u = Value.bytes b t
  | .flt b, u => ∃ t, u = Value.float b t
  | .ref a, u => u = Value.ref a
  | .ty n, u => u = Value.type n

abbrev Vals : List V → List Value → Prop := Paired RelV
theorem Vals.length {xs : List V} {us : List Value} (r : Vals xs us) : xs.length = us.length := Paired.length r
theorem Vals.get : ∀ {xs : List V} {us : List Value} {i : Nat} {x : V}, Vals xs us → xs[i]? = some x → ∃ u, us[i]? = some u ∧ RelV x u
  | _, _, _, _, .nil, e => by simp at e
  | _, _, 0, _, .cons r _, e => by simp at e; subst e; exact ⟨_, rfl, r⟩
  | _, _, i + 1, x, .cons _ t, e => by
    obtain ⟨u, h1, h2⟩ := Vals.get (i := i) (x := x) t (by simpa using e)
    exact ⟨u, by simpa using h1, h2⟩
theorem Vals.set {x : V} {u : Value} (r : RelV x u) : ∀ {xs : List V} {us : List Value} (i : Nat), Vals xs us → Vals (xs.set i x) (us.set i u)
  | _, _, _, .nil => .nil
  | _, _, 0, .cons _ t => .cons r t
  | _, _, i + 1, .cons q t => .cons q (Vals.set r i t)
theorem Vals.append : ∀ {xs ys : List V} {us ws : List Value}, Vals xs us → Vals ys ws → Vals (xs ++ ys) (us ++ ws)
  | _, _, _, _, .nil, s => s
  | _, _, _, _, .cons r t, s => .cons r (Vals.append t s)
theorem Vals.take : ∀ {xs : List V} {us : List Value} (n : Nat), Vals xs us → Vals (xs.take n) (us.take n)
  | _, _, 0, _ => .nil
  | _, _, _ + 1, .nil => .nil
  | _, _, n + 1, .cons r t => .cons r (Vals.take n t)
theorem Vals.drop : ∀ {xs : List V} {us : List Value} (n : Nat), Vals xs us → Vals (xs.drop n) (us.drop n)
  | _, _, 0, r => r
  | _, _, _ + 1, .nil => .nil
  | _, _, n + 1, .cons _ t => Vals.drop n t
theorem Vals.none_of : ∀ {xs : List V} {us : List Value} {i : Nat}, Vals xs us → xs[i]? = none → us[i]? = none := fun {xs us i} r e => by
  have h1 := r.length
  have h2 : xs.length ≤ i := List.getElem?_eq_none_iff.mp e
  exact List.getElem?_eq_none_iff.mpr (by omega)

def RelO : Option V → Option Value → Prop
  | some v, some u => RelV v u
  | none, none => True
  | _, _ => False
def KV {κ : Type} : List (κ × V) → List (κ × Value) → Prop := Paired fun (p : κ × V) (q : κ × Value) => p.1 = q.1 ∧ RelV p.2 q.2

def kV : Key → V
  | .inl i => .int i
  | .inr x => .str x

inductive HO where
  /-- a list -/
  | lst (xs : List V)
  /-- a tuple (never changes) -/
  | tup (xs : List V)
  /-- a dict whose keys are ints and texts; one whose keys are tuples of ints and texts (the empty one is both) -/
  | dK (kvs : List (Key × V)) | dT (kvs : List (List Key × V))
  /-- a set of ints: its members, its size -/
  | set (S : Int → Bool) (n : Nat)
  /-- an instance of the class at C, its dict at dx, its attributes -/
  | ins (C dx : Addr) (fs : List (Str × V))
  /-- the dict of the instance at x -/
  | own (x : Addr)
  /-- the dict of an exception -/
  | xd (fs : List (Str × V))
  /-- a bound method, f of x -/
  | met (f x : Addr)
  /-- a range object lo, lo + 1, .. below hi -/
  | rng (lo hi : Int)
  /-- a thing that is known to the object (the script; a dict while a loop walks it): read, never written while it is so -/
  | frz (o : Obj) (u : HO)
  /-- a code object's table -/
  | tbl (ps : Array Value)
  /-- any other thing, by what is true of its one object (a def of one's own: SetO a S n := HO.ext fun h => ..) -/
  | ext (φ : Heap → Prop)

abbrev Hp := Addr → Option HO
def upd (H : Hp) (a : Addr) (o : HO) : Hp := fun b => if b = a then some o else H b
theorem upd_same {H : Hp} {a : Addr} {o : HO} : upd H a o a = some o := by unfold upd; rw [if_pos rfl]
theorem upd_ne {H : Hp} {a b : Addr} {o : HO} (h : b ≠ a) : upd H a o b = H b := by unfold upd; rw [if_neg h]
theorem upd_upd {H : Hp} {a : Addr} {o u : HO} : upd (upd H a o) a u = upd H a u := by
  funext b; unfold upd; split <;> rfl
theorem ne_of_none {H : Hp} {a b : Addr} {o : HO} (h : H a = some o) (h' : H b = none) : a ≠ b := by
  intro e; subst e; rw [h] at h'; cases h'

section
variable (P : Program) (w : World)
def ObjOk (H : Hp) (h : Heap) (a : Addr) : HO → Prop
  | .lst xs => xs.length ≤ sizeLine ∧ ∃ (its : List Value) (n : Nat), Vals xs its ∧ h.get? a = some { cls := .type "list", data := .seq its.toArray n }
  | .tup xs => xs.length ≤ sizeLine ∧ ∃ its : List Value, Vals xs its ∧ IsTup h a its.toArray ∧ ((∀ i y, xs ≠ [.int i, y]) → ∃ o, h.get? a = some o ∧ o.dict = none)
  | .dK kvs => kvs.length ≤ sizeLine ∧ (a == sysModules) = false ∧ ∃ vs, KV kvs vs ∧ h.DictOf (mixKind P w) a vs
  | .dT kvs => kvs.length ≤ sizeLine ∧ (a == sysModules) = false ∧ ∃ xs : List (List Key × Addr × Value),
      Paired (fun (p : List Key × V) (q : List Key × Addr × Value) => p.1 = q.1 ∧ H q.2.1 = some (.tup (p.1.map kV)) ∧ RelV p.2 q.2.2) kvs xs ∧
      ∃ o es ep, h.get? a = some o ∧ o.ExactDict ∧ o.data = .dict es ep ∧ es.toList = xs.map (entryOfKey (tupleKind (mixKind P w))) ∧ (xs.map (·.1)).Nodup
  | .set S n => h.SetOf (intKind P w) a S n
  | .ins C dx fs => H dx = some (.own a) ∧ fs.length ≤ 1000 ∧ dx ≠ a ∧ h.get? a = some (PySem.W.instObj C dx) ∧
      ∃ mA, h.Ns1 dx mA ∧ (∀ f, RelO (fs.lookup f) (mA f)) ∧ PySem.Within mA (fs.map (·.1))
  | .own _ => ∃ o, h.get? a = some o
  | .xd fs => ∃ mA, h.Ns1 a mA ∧ ∀ f, RelO (fs.lookup f) (mA f)
  | .rng lo hi => ∃ t u v, h.get? a = some { cls := .type "range", data := .fields #[.int lo t, .int hi u, .int 1 v] }
  | .frz o u => h.get? a = some o ∧ ObjOk H h a u
  | .tbl ps => h.get? a = some { cls := .none, data := .fields ps }
  | .met f x => h.get? a = some (PySem.W.methodObj (.ref f) (.ref x))
  | .ext φ => φ h ∧ (∃ o, h.get? a = some o) ∧ ∀ h1 h2 : Heap, φ h1 → (∀ o, h1.get? a = some o → h2.get? a = some o) → φ h2
def HOk (H : Hp) (h : Heap) : Prop := ∀ a o, H a = some o → ObjOk P w H h a o
end

section
variable {P : Program} {w : World} {H H' : Hp} {h h' : Heap} {a : Addr} {o : HO}
theorem ObjOk.lt (x : ObjOk P w H h a o) : a < h.objs.size := by
  cases o with
  | lst xs => obtain ⟨_, _, _, _, e⟩ := x; exact Heap.lt_size e
  | tup xs => obtain ⟨_, _, _, p, _⟩ := x; exact p.lt
  | dK kvs => obtain ⟨_, _, _, _, o, _, _, e, _⟩ := x; exact Heap.lt_size e
  | dT kvs => obtain ⟨_, _, _, _, o, _, _, e, _⟩ := x; exact Heap.lt_size e
  | set S n => obtain ⟨o, _, _, _, e, _⟩ := x; exact Heap.lt_size e
  | ins C dx fs => obtain ⟨_, _, _, e, _⟩ := x; exact Heap.lt_size e
  | own y => obtain ⟨_, e⟩ := x; exact Heap.lt_size e
  | xd fs => obtain ⟨_, ⟨_, _, _, e, _⟩, _⟩ := x; exact Heap.lt_size e
  | rng lo hi => obtain ⟨_, _, _, e⟩ := x; exact Heap.lt_size e
  | frz ob u => obtain ⟨e, _⟩ := x; exact Heap.lt_size e
  | tbl ps => exact Heap.lt_size (show h.get? a = some _ from x)
  | met f y => exact Heap.lt_size (show h.get? a = some _ from x)
  | ext φ => obtain ⟨_, ⟨_, e⟩, _⟩ := x; exact Heap.lt_size e
theorem Paired.mapP {α β : Type} {F G : α → β → Prop} : ∀ {l₁ : List α} {l₂ : List β}, Paired F l₁ l₂ → (∀ a b, F a b → G a b) → Paired G l₁ l₂
  | _, _, .nil, _ => .nil
  | _, _, .cons r t, f => .cons (f _ _ r) (Paired.mapP t f)
theorem ObjOk.stay (x : ObjOk P w H h a o) (k : ∀ b u, (b = a ∨ H b = some (.own a)) → h.get? b = some u → h'.get? b = some u)
    (ho : ∀ b, H b = some (.own a) → H' b = some (.own a)) (ht : ∀ b xs, H b = some (.tup xs) → H' b = some (.tup xs)) : ObjOk P w H' h' a o := by
  induction o with
  | lst xs => obtain ⟨z, its, n, r, e⟩ := x; exact ⟨z, its, n, r, k _ _ (.inl rfl) e⟩
  | tup xs => obtain ⟨z, its, r, ⟨ob, e, c⟩, d⟩ := x; exact ⟨z, its, r, ⟨ob, k _ _ (.inl rfl) e, c⟩, fun nx => let ⟨o, e2, d2⟩ := d nx; ⟨o, k _ _ (.inl rfl) e2, d2⟩⟩
  | dK kvs => obtain ⟨z, y, vs, r, ob, es, ep, e, c⟩ := x; exact ⟨z, y, vs, r, ob, es, ep, k _ _ (.inl rfl) e, c⟩
  | dT kvs =>
    obtain ⟨z, y, xs, r, ob, es, ep, e, c⟩ := x
    exact ⟨z, y, xs, Paired.mapP r fun p q z => ⟨z.1, ht _ _ z.2.1, z.2.2⟩, ob, es, ep, k _ _ (.inl rfl) e, c⟩
  | set S n => obtain ⟨ob, es, ep, t, e, c⟩ := x; exact ⟨ob, es, ep, t, k _ _ (.inl rfl) e, c⟩
  | ins C dx fs =>
    obtain ⟨d, z, ne, e, mA, ⟨od, es, ep, e2, c⟩, r⟩ := x
    exact ⟨ho _ d, z, ne, k _ _ (.inl rfl) e, mA, ⟨od, es, ep, k _ _ (.inr d) e2, c⟩, r⟩
  | own y => obtain ⟨ob, e⟩ := x; exact ⟨ob, k _ _ (.inl rfl) e⟩
  | xd fs => obtain ⟨mA, ⟨od, es, ep, e, c⟩, r⟩ := x; exact ⟨mA, ⟨od, es, ep, k _ _ (.inl rfl) e, c⟩, r⟩
  | rng lo hi => obtain ⟨t, u, v, e⟩ := x; exact ⟨t, u, v, k _ _ (.inl rfl) e⟩
  | frz ob u ih => obtain ⟨e, q⟩ := x; exact ⟨k _ _ (.inl rfl) e, ih q⟩
  | tbl ps =>
    have e : h.get? a = some { cls := .none, data := .fields ps } := x
    show h'.get? a = some { cls := .none, data := .fields ps }
    exact k a _ (.inl rfl) e
  | met f y =>
    have e : h.get? a = some (PySem.W.methodObj (.ref f) (.ref y)) := x
    show h'.get? a = some (PySem.W.methodObj (.ref f) (.ref y))
    exact k a _ (.inl rfl) e
  | ext φ => obtain ⟨p, ⟨o, e⟩, st⟩ := x; exact ⟨st _ _ p fun o q => k _ _ (.inl rfl) q, ⟨o, k _ _ (.inl rfl) e⟩, st⟩
theorem HOk.lt (x : HOk P w H h) (e : H a = some o) : a < h.objs.size := (x a o e).lt
theorem HOk.fresh (x : HOk P w H h) (e : h.objs.size ≤ a) : H a = none := by
  cases q : H a with
  | none => rfl
  | some u => exact absurd (Nat.lt_of_lt_of_le (x.lt q) e) (Nat.lt_irrefl _)
theorem HOk.kept (x : HOk P w H h) (k : ∀ b u, h.get? b = some u → h'.get? b = some u) : HOk P w H h' := fun a o e =>
  (x a o e).stay (fun b u _ q => k b u q) (fun _ q => q) fun _ _ q => q
theorem HOk.laid (x : HOk P w H h) (k : ∀ b u, h.get? b = some u → h'.get? b = some u) (hp : h.objs.size ≤ a) (new : ObjOk P w (upd H a o) h' a o) : HOk P w (upd H a o) h' := fun b u e => by
  have hn := x.fresh hp
  by_cases hb : b = a
  · subst hb; rw [upd_same] at e; cases e; exact new
  · rw [upd_ne hb] at e
    exact (x b u e).stay (fun c v _ q => k c v q) (fun c q => by rw [upd_ne (ne_of_none q hn)]; exact q) fun c xs q => by rw [upd_ne (ne_of_none q hn)]; exact q
end

def Rd (H : Hp) (a : Addr) (u : HO) : Prop := H a = some u ∨ ∃ o, H a = some (.frz o u)
theorem Rd.of {H : Hp} {a : Addr} {u : HO} (h : H a = some u) : Rd H a u := .inl h
theorem Rd.ok {P : Program} {w : World} {H : Hp} {h : Heap} {a : Addr} {u : HO} (r : Rd H a u) (x : HOk P w H h) : ObjOk P w H h a u := by
  rcases r with r | ⟨o, r⟩
  · exact x a u r
  · obtain ⟨_, q⟩ := x a _ r
    exact q
def Mut : Option HO → Prop
  | some (.lst _) => True
  | some (.dK _) => True
  | some (.dT _) => True
  | some (.set _ _) => True
  | some (.ins _ _ _) => True
  | some (.ext _) => True
  | _ => False
section
variable {P : Program} {w : World} {H : Hp} {h h' : Heap} {x e : Addr} {o' : HO}
theorem HOk.write (ok : HOk P w H h) (mu : Mut (H x)) (he : e = x ∨ H e = some (.own x)) (k : ∀ b u, b ≠ e → h.get? b = some u → h'.get? b = some u) (heo : ∃ u, h'.get? e = some u)
    (new : ObjOk P w (upd H x o') h' x o') : HOk P w (upd H x o') h' := fun b u q => by
  have nown : ∀ c y, H c = some (.own y) → c ≠ x := fun c y r z => by subst z; rw [r] at mu; exact mu
  have ntup : ∀ c xs, H c = some (.tup xs) → c ≠ x := fun c xs r z => by subst z; rw [r] at mu; exact mu
  by_cases hb : b = x
  · subst hb; rw [upd_same] at q; cases q; exact new
  · rw [upd_ne hb] at q
    by_cases hbe : b = e
    · have q' : H b = some (.own x) := by
        rcases he with z | z
        · exact absurd (hbe.trans z) hb
        · rw [hbe]; exact z
      rw [q] at q'; cases q'
      obtain ⟨v, hv⟩ := heo
      exact ⟨v, by rw [hbe]; exact hv⟩
    · refine (ok b u q).stay (fun c v hc r => k c v ?_ r) (fun c r => by rw [upd_ne (nown c b r)]; exact r) fun c xs r => by rw [upd_ne (ntup c xs r)]; exact r
      rcases hc with rfl | hc
      · exact hbe
      · rintro rfl
        rcases he with z | z
        · exact nown c b hc z
        · rw [hc] at z; cases z; exact hb rfl
end

structure Un (fs ex : List Addr) (H H' : Hp) (h h' : Heap) : Prop where
  keep : ∀ b o, h.get? b = some o → H b = none → b ∉ fs → b ∉ ex → h'.get? b = some o
  slot : ∀ b o, h.get? b = some o → H b = none → b ∈ fs → b ∉ ex → ∃ sl, h'.get? b = some { o with slots := sl }
  free : ∀ b o, h.get? b = some o → H b = none → b ∉ ex → H' b = none
  there : ∀ b o, h.get? b = some o → b ∉ ex → ∃ o', h'.get? b = some o'
  tups : ∀ b xs, H b = some (.tup xs) → H' b = some (.tup xs)
  frzs : ∀ b o u, H b = some (.frz o u) → H' b = some (.frz o u)
  tbls : ∀ b ps, H b = some (.tbl ps) → ∃ more, H' b = some (.tbl (ps ++ more))
section
variable {fs fs' ex ex' : List Addr} {H H1 H2 : Hp} {h h1 h2 h' : Heap} {a x e : Addr} {o : HO}
theorem Un.any (u : Un fs ex H H1 h h1) {b : Addr} {ob : Obj} (q : h.get? b = some ob) (n : H b = none) (hx : b ∉ ex) : ∃ sl, h1.get? b = some { ob with slots := sl } := by
  by_cases hb : b ∈ fs
  · exact u.slot b ob q n hb hx
  · exact ⟨ob.slots, u.keep b ob q n hb hx⟩
theorem Un.trans (a : Un fs ex H H1 h h1) (b : Un fs ex H1 H2 h1 h2) : Un fs ex H H2 h h2 where
  keep := fun c ob q n hc hx => b.keep c ob (a.keep c ob q n hc hx) (a.free c ob q n hx) hc hx
  slot := fun c ob q n hc hx => by
    obtain ⟨sl, e1⟩ := a.slot c ob q n hc hx
    obtain ⟨sl', e2⟩ := b.slot c _ e1 (a.free c ob q n hx) hc hx
    exact ⟨sl', e2⟩
  free := fun c ob q n hx => by
    obtain ⟨o', e1⟩ := a.there c ob q hx
    exact b.free c o' e1 (a.free c ob q n hx) hx
  there := fun c ob q hx => by
    obtain ⟨o', e1⟩ := a.there c ob q hx
    exact b.there c o' e1 hx
  tups := fun c xs q => b.tups c xs (a.tups c xs q)
  frzs := fun c ob xs q => b.frzs c ob xs (a.frzs c ob xs q)
  tbls := fun c ps q => by
    obtain ⟨m1, e1⟩ := a.tbls c ps q
    obtain ⟨m2, e2⟩ := b.tbls c _ e1
    exact ⟨m1 ++ m2, by rw [e2, Array.append_assoc]⟩
theorem Un.kept (k : ∀ b u, h.get? b = some u → h'.get? b = some u) : Un fs ex H H h h' :=
  ⟨fun b ob q _ _ _ => k b ob q, fun b ob q _ _ _ => ⟨ob.slots, k b ob q⟩, fun _ _ _ n _ => n, fun b ob q _ => ⟨ob, k b ob q⟩, fun _ _ q => q, fun _ _ _ q => q, fun _ ps q => ⟨#[], by rw [q]; simp⟩⟩
theorem Un.refl : Un fs ex H H h h := Un.kept fun _ _ q => q
theorem Un.laid (k : ∀ b u, h.get? b = some u → h'.get? b = some u) (hp : h.objs.size ≤ a) (hn : H a = none) : Un fs ex H (upd H a o) h h' where
  keep := fun b u q _ _ _ => k b u q
  slot := fun b u q _ _ _ => ⟨u.slots, k b u q⟩
  free := fun b u q n _ => by rw [upd_ne (Nat.ne_of_lt (Nat.lt_of_lt_of_le (Heap.lt_size q) hp))]; exact n
  there := fun b u q _ => ⟨u, k b u q⟩
  tups := fun b xs q => by rw [upd_ne (ne_of_none q hn)]; exact q
  frzs := fun b u xs q => by rw [upd_ne (ne_of_none q hn)]; exact q
  tbls := fun b ps q => ⟨#[], by rw [upd_ne (ne_of_none q hn), q]; simp⟩
theorem Un.write (mu : Mut (H x)) (he : e = x ∨ H e = some (.own x)) (k : ∀ b u, b ≠ e → h.get? b = some u → h'.get? b = some u) (heo : ∃ u, h'.get? e = some u) : Un fs ex H (upd H x o) h h' := by
  have hx : ∀ b, H b = none → b ≠ x := fun b n z => by subst z; rw [n] at mu; exact mu
  have hb : ∀ b, H b = none → b ≠ e := fun b n z => by
    subst z
    rcases he with r | r
    · exact hx b n r
    · rw [n] at r; cases r
  have hm : ∀ b u, H b = some u → ¬ Mut (some u) → b ≠ x := fun b u q nm z => by subst z; rw [q] at mu; exact nm mu
  refine ⟨fun b u q n _ _ => k b u (hb b n) q, fun b u q n _ _ => ⟨u.slots, k b u (hb b n) q⟩, fun b u q n _ => by rw [upd_ne (hx b n)]; exact n, fun b u q _ => ?_,
    fun b xs q => by rw [upd_ne (hm b _ q fun z => z)]; exact q, fun b u xs q => by rw [upd_ne (hm b _ q fun z => z)]; exact q, fun b ps q => ⟨#[], by rw [upd_ne (hm b _ q fun z => z), q]; simp⟩⟩
  by_cases hbe : b = e
  · subst hbe; exact heo
  · exact ⟨u, k b u hbe q⟩
theorem Un.mono (u : Un fs ex H H1 h h1) (hs : ∀ b ∈ fs, b ∈ fs') (hx : ∀ b ∈ ex, b ∈ ex') : Un fs' ex' H H1 h h1 :=
  ⟨fun b ob q n hb he => u.keep b ob q n (fun z => hb (hs b z)) fun z => he (hx b z), fun _ _ q n _ he => u.any q n fun z => he (hx _ z), fun b ob q n he => u.free b ob q n fun z => he (hx b z), fun b ob q he => u.there b ob q fun z => he (hx b z), u.tups, u.frzs, u.tbls⟩
end

def trk (h : Heap) (H : Hp) : List Addr := (List.range h.objs.size).filter fun a => (H a).isSome
def hidT (h : Heap) (H : Hp) : Heap := PySem.W.hideAll h (trk h H)
theorem hidT_size (h : Heap) (H : Hp) : (hidT h H).objs.size = h.objs.size := PySem.W.hideAll_size _ _
theorem hidT_get {h : Heap} {H : Hp} {b : Addr} {o : Obj} (e : h.get? b = some o) (n : H b = none) : (hidT h H).get? b = some o :=
  PySem.W.hideAll_get _ e fun hm => by
    have q : (H b).isSome = true := (List.mem_filter.mp hm).2
    rw [n] at q; simp at q
theorem of_hidT {h : Heap} {H : Hp} {b : Addr} {o : Obj} (e : (hidT h H).get? b = some o) : h.get? b = some o ∧ H b = none := by
  have e' : h.get? b = some o := PySem.W.of_hideAll (trk h H) e
  refine ⟨e', ?_⟩
  cases q : H b with
  | none => rfl
  | some x =>
    have hm : b ∈ trk h H := List.mem_filter.mpr ⟨List.mem_range.mpr (Heap.lt_size e'), by simp [q]⟩
    have z : (hidT h H).get? b = none := PySem.W.hideAll_none (trk h H) hm
    rw [z] at e; cases e

def allNews (g h : Heap) (L : Addr) : List (Addr × Obj) := (List.range h.objs.size).filterMap fun a => if a = L ∨ (g.get? a).isSome = true then none else (h.get? a).map fun o => (a, o)
def rest (g h : Heap) (L d : Addr) : List (Addr × Obj) := (allNews g h L).filter fun p => decide (p.1 ≠ d)
end L2

namespace L2
open PySem PySem.Spec PyProof.Rows

structure Mod (K : PySem.W.Frag) (mg : Str → Option Value) (base : Heap) : Prop where
  kin : K.In base
  glob : base.Ns mainGlobals mg
  blt : ∃ mb, base.Ns builtinsNs mb ∧ ∀ x : Str, x ≠ "__name__" → mb x = bootBuiltins x
  nolimit : base.NoLimit
  seer : base.NoSeer

structure Cx where
  prog : Program
  w : World
  K : PySem.W.Frag
  mg : Str → Option Value
  base : Heap
  A : Around
  N : List Str
  s₀ : Shared
  H₀ : Hp
  env : Env
  outer : List Env
  stack : List Env
  ex : List Addr
  fn : Str → Bool
  calm : Bool
  pn : List (Addr × Obj)
  xe : Value → Shared → Prop
def frs (l : List Env) : List Addr := l.filterMap (·.frame)
abbrev Cx.fs (X : Cx) : List Addr := frs X.outer

def Vis (sc : Scope) (x : Str) : Prop := sc.names.lookup x = some .local ∨ sc.names.lookup x = some .cell ∨ sc.names.lookup x = some .free
def Loc (sc : Scope) (x : Str) : Prop := sc.names.lookup x = some .local ∨ sc.names.lookup x = some .cell
def Look (env : Env) (h : Heap) (m : Str → Option Value) (x : Str) (u : Value) : Prop :=
  (env.kindOf x = some .local ∧ m x = some u) ∨ ((env.kindOf x = some .cell ∨ env.kindOf x = some .free) ∧ ∃ c, env.cells.lookup x = some c ∧ h.IsCell c (some u))

structure Cx.Ok (X : Cx) : Prop where
  mod : Mod X.K X.mg X.base
  kind : X.env.scope.kind = .function
  glob : X.env.globals = mainGlobals
  blt : X.env.builtins = builtinsNs
  above : X.s₀.heap.objs.size ≤ X.env.locals
  inj : ∀ x y c, X.env.cells.lookup x = some c → X.env.cells.lookup y = some c → x = y
  has : ∀ x, (X.env.kindOf x = some .cell ∨ X.env.kindOf x = some .free) → ∃ c, X.env.cells.lookup x = some c
  cab : ∀ x c, X.fn x = true → X.env.cells.lookup x = some c → X.s₀.heap.objs.size ≤ c
  hd : X.calm = true → X.A.handled = none
  frames : X.A.frames = some X.stack
  stk : X.stack = X.outer ∨ (X.stack = X.env :: X.outer ∧ X.env.frame = some X.env.locals)
  exf : ∀ b ∈ X.ex, b ≠ X.env.locals ∧ ∀ x c, X.env.cells.lookup x = some c → c ≠ b
  bs : ∀ b o, X.base.get? b = some o → X.s₀.heap.get? b = some o ∧ X.H₀ b = none
  bsz : X.base.objs.size ≤ X.s₀.heap.objs.size
  noex : ∀ b o, X.base.get? b = some o → b ∉ X.ex
  exfs : ∀ b ∈ X.ex, b ∉ X.fs
  funs : X.s₀.heap.FunFrames X.base X.outer
  frf : ∀ b ∈ X.fs, X.H₀ b = none

structure Inv (X : Cx) (pins : List (Addr × Obj)) (σ : List (Option V)) (H : Hp) (s : Shared) : Prop where
  ok : X.Ok
  os : s.os = X.s₀.os
  bare : AllBare s.gens
  base : Un X.fs X.ex X.H₀ H X.s₀.heap s.heap
  loc : ∃ m, s.heap.Ns X.env.locals m ∧ ∀ (i : Nat) (x : Str) (v : V), X.N[i]? = some x → σ[i]? = some (some v) → Vis X.env.scope x → ∃ u, RelV v u ∧ Look X.env s.heap m x u
  cell : ∀ x c, X.env.cells.lookup x = some c → ∃ v, s.heap.IsCell c v
  free : H X.env.locals = none
  freeC : ∀ x c, X.env.cells.lookup x = some c → H c = none
  pin : ∀ p ∈ X.pn ++ pins, s.heap.get? p.1 = some p.2 ∧ H p.1 = none ∧ p.1 ≠ X.env.locals ∧ p.1 ∉ X.fs ∧ ∀ v, p.2.data ≠ .cell v
  hok : HOk X.prog X.w H s.heap
  len : σ.length = X.N.length

section
variable {X : Cx} {pins : List (Addr × Obj)} {σ : List (Option V)} {H H' : Hp} {s : Shared} {h' : Heap}

theorem Cx.Ok.nofr (ok : X.Ok) {b : Addr} {o : Obj} (e : X.base.get? b = some o) : b ∉ X.fs := fun hb => by
  have := (ok.funs.mem hb).1
  rw [e] at this; cases this
theorem Inv.bs (I : Inv X pins σ H s) : ∀ b o, X.base.get? b = some o → s.heap.get? b = some o ∧ H b = none := fun b o e =>
  ⟨I.base.keep b o (I.ok.bs b o e).1 (I.ok.bs b o e).2 (I.ok.nofr e) (I.ok.noex b o e), I.base.free b o (I.ok.bs b o e).1 (I.ok.bs b o e).2 (I.ok.noex b o e)⟩
theorem Inv.bk (I : Inv X pins σ H s) : ∀ b o, X.base.get? b = some o → s.heap.get? b = some o := fun b o e => (I.bs b o e).1
theorem Inv.mod (I : Inv X pins σ H s) : Mod X.K X.mg X.base := I.ok.mod
theorem Inv.kIn (I : Inv X pins σ H s) : X.K.In s.heap := I.ok.mod.kin.keeps I.bk
theorem Inv.nolimit (I : Inv X pins σ H s) : s.heap.NoLimit := I.ok.mod.nolimit.keeps I.bk
theorem Inv.fr (I : Inv X pins σ H s) : ∃ m, Fr X.base X.env.locals s.heap m :=
  let ⟨m, hn, _⟩ := I.loc
  ⟨m, hn, I.bk, Nat.le_trans I.ok.bsz I.ok.above⟩
theorem Inv.lt (I : Inv X pins σ H s) : X.env.locals < s.heap.objs.size := let ⟨_, hn, _⟩ := I.loc; hn.lt
theorem Inv.sz (I : Inv X pins σ H s) : X.s₀.heap.objs.size ≤ s.heap.objs.size := Nat.le_trans I.ok.above (Nat.le_of_lt I.lt)
theorem Inv.nofs (I : Inv X pins σ H s) {a : Addr} (h : s.heap.objs.size ≤ a) : a ∉ X.fs := fun hb => by
  obtain ⟨_, o, ho, _⟩ := I.ok.funs.mem hb
  exact absurd (Nat.lt_of_lt_of_le (Heap.lt_size ho) (Nat.le_trans I.sz h)) (Nat.lt_irrefl _)
theorem Inv.cne (I : Inv X pins σ H s) : ∀ x c, X.env.cells.lookup x = some c → c ≠ X.env.locals := fun x c e z => by
  obtain ⟨v, o, ho, hd⟩ := I.cell x c e
  obtain ⟨m, ⟨o', es, ep, ho', hd', _⟩, _⟩ := I.loc
  rw [z, ho'] at ho; cases ho; rw [hd'] at hd; cases hd
theorem Inv.funs (I : Inv X pins σ H s) : s.heap.FunFrames X.base X.outer := by
  have all : ∀ (l : List Env), (∀ b ∈ frs l, b ∈ X.fs) → X.s₀.heap.FunFrames X.base l → s.heap.FunFrames X.base l := by
    intro l
    induction l with
    | nil => intro _ _; trivial
    | cons env r ih =>
      intro hs hl
      obtain ⟨hk, ⟨L, o, hf, hn, ho, hd⟩, hr⟩ := hl
      have hL : L ∈ X.fs := hs L (by unfold frs; rw [List.filterMap_cons, hf]; exact List.mem_cons_self)
      obtain ⟨sl, e⟩ := I.base.slot L o ho (I.ok.frf L hL) hL fun z => I.ok.exfs L z hL
      exact ⟨hk, ⟨L, _, hf, hn, e, hd⟩, ih (fun b hb => hs b (by unfold frs; rw [List.filterMap_cons, hf]; exact List.mem_cons_of_mem _ hb)) hr⟩
  exact all X.outer (fun _ hb => hb) I.ok.funs

theorem Inv.stack (I : Inv X pins σ H s) : s.heap.FunFrames X.base X.stack := by
  rcases I.ok.stk with e | ⟨e, hf⟩
  · rw [e]; exact I.funs
  · rw [e]
    obtain ⟨m, hn, _⟩ := I.loc
    refine .cons (by rw [I.ok.kind]; decide) hf hn ?_ I.funs
    exact Heap.get?_none_of_le (Nat.le_trans I.ok.bsz I.ok.above)
theorem Inv.stkSub (I : Inv X pins σ H s) : ∀ b ∈ frs X.stack, b ∈ X.env.locals :: X.fs := fun b hb => by
  rcases I.ok.stk with e | ⟨e, hf⟩
  · rw [e] at hb; exact List.mem_cons_of_mem _ hb
  · rw [e] at hb
    unfold frs at hb
    rw [List.filterMap_cons, hf] at hb
    exact hb
theorem Inv.stkFree (I : Inv X pins σ H s) : ∀ b ∈ frs X.stack, H b = none := fun b hb => by
  rcases List.mem_cons.mp (I.stkSub b hb) with e | hb
  · rw [e]; exact I.free
  · obtain ⟨_, o, ho, _⟩ := I.ok.funs.mem hb
    exact I.base.free b o ho (I.ok.frf b hb) fun z => I.ok.exfs b z hb

theorem Inv.step {g' : Array GenState} {t' : Nat} {d' : Drawn} {ch : List Addr} (I : Inv X pins σ H s)
    (hch : ∀ b ∈ ch, (b ∈ X.ex ∨ X.s₀.heap.objs.size ≤ b) ∧ b ≠ X.env.locals ∧ (∀ x c, X.env.cells.lookup x = some c → c ≠ b) ∧ ∀ p ∈ X.pn ++ pins, p.1 ≠ b)
    (keep : ∀ b o, b ≠ X.env.locals → b ∉ X.fs → b ∉ ch → s.heap.get? b = some o → H b = none → h'.get? b = some o)
    (slot : ∀ b o, b ≠ X.env.locals → b ∈ X.fs → b ∉ ch → s.heap.get? b = some o → H b = none → ∃ sl, h'.get? b = some { o with slots := sl }) (free : ∀ b o, b ∉ ch → s.heap.get? b = some o → H b = none → H' b = none)
    (there : ∀ b o, b ∉ ch → s.heap.get? b = some o → ∃ o', h'.get? b = some o')
    (tups : ∀ b xs, H b = some (.tup xs) → H' b = some (.tup xs)) (frzs : ∀ b o u, H b = some (.frz o u) → H' b = some (.frz o u)) (tbls : ∀ b ps, H b = some (.tbl ps) → ∃ more, H' b = some (.tbl (ps ++ more)))
    (ns : ∀ m, s.heap.Ns X.env.locals m → h'.Ns X.env.locals m) (hok : HOk X.prog X.w H' h') (hg : AllBare g') :
    Inv X pins σ H' { s with heap := h', gens := g', drawn := d', toks := t' } := by
  have neL : ∀ b o, X.s₀.heap.get? b = some o → b ≠ X.env.locals := fun b o e => Nat.ne_of_lt (Nat.lt_of_lt_of_le (Heap.lt_size e) I.ok.above)
  have neC : ∀ b o, X.s₀.heap.get? b = some o → b ∉ X.ex → b ∉ ch := fun b o e hx hb => by
    rcases (hch b hb).1 with z | z
    · exact hx z
    · exact absurd (Nat.lt_of_lt_of_le (Heap.lt_size e) z) (Nat.lt_irrefl _)
  have cellK : ∀ x c, X.env.cells.lookup x = some c → ∀ v, s.heap.IsCell c v → h'.IsCell c v := fun x c e v ⟨o, ho, hd⟩ => by
    have nch : c ∉ ch := fun z => (hch c z).2.2.1 x c e rfl
    by_cases hc : c ∈ X.fs
    · obtain ⟨sl, q⟩ := slot c o (I.cne x c e) hc nch ho (I.freeC x c e)
      exact ⟨_, q, hd⟩
    · exact ⟨o, keep c o (I.cne x c e) hc nch ho (I.freeC x c e), hd⟩
  refine ⟨I.ok, I.os, hg, ⟨fun b o e n hb hx => ?_, fun b o e n hb hx => ?_, fun b o e n hx => ?_, fun b o e hx => ?_, fun b xs e => tups b xs (I.base.tups b xs e), fun b o xs e => frzs b o xs (I.base.frzs b o xs e), fun b ps e => ?_⟩, ?_, fun x c e => ?_, ?_, fun x c e => ?_, fun p hp => ?_, hok, I.len⟩
  · exact keep b o (neL b o e) hb (neC b o e hx) (I.base.keep b o e n hb hx) (I.base.free b o e n hx)
  · obtain ⟨sl, e1⟩ := I.base.slot b o e n hb hx
    obtain ⟨sl', e2⟩ := slot b _ (neL b o e) hb (neC b o e hx) e1 (I.base.free b o e n hx)
    exact ⟨sl', e2⟩
  · obtain ⟨o', e1⟩ := I.base.there b o e hx
    exact free b o' (neC b o e hx) e1 (I.base.free b o e n hx)
  · obtain ⟨o', e1⟩ := I.base.there b o e hx
    exact there b o' (neC b o e hx) e1
  · obtain ⟨m1, e1⟩ := I.base.tbls b ps e
    obtain ⟨m2, e2⟩ := tbls b _ e1
    exact ⟨m1 ++ m2, by rw [e2, Array.append_assoc]⟩
  · obtain ⟨m, hn, hl⟩ := I.loc
    refine ⟨m, ns m hn, fun i x v e1 e2 e3 => ?_⟩
    obtain ⟨u, r, l⟩ := hl i x v e1 e2 e3
    refine ⟨u, r, ?_⟩
    rcases l with l | ⟨k, c, e, z⟩
    · exact .inl l
    · exact .inr ⟨k, c, e, cellK x c e _ z⟩
  · obtain ⟨v, z⟩ := I.cell x c e
    exact ⟨v, cellK x c e v z⟩
  · obtain ⟨m, ⟨o, _, _, ho, _⟩, _⟩ := I.loc
    exact free _ o (fun z => (hch _ z).2.1 rfl) ho I.free
  · obtain ⟨v, o, ho, hd⟩ := I.cell x c e
    exact free c o (fun z => (hch c z).2.2.1 x c e rfl) ho (I.freeC x c e)
  · obtain ⟨e, n, ne, nf, d⟩ := I.pin p hp
    have nch : p.1 ∉ ch := fun z => (hch p.1 z).2.2.2 p hp rfl
    exact ⟨keep p.1 p.2 ne nf nch e n, free p.1 p.2 nch e n, ne, nf, d⟩
theorem Inv.un {t' : Nat} (I : Inv X pins σ H s) (u : Un X.fs [] H H' s.heap h') (hok : HOk X.prog X.w H' h') : Inv X pins σ H' { s with heap := h', toks := t' } := by
  obtain ⟨m, ⟨o, es, ep, ho, r⟩, _⟩ := id I.loc
  obtain ⟨sl, hL⟩ := u.any ho I.free (by simp)
  exact I.step (g' := s.gens) (d' := s.drawn) (ch := []) (fun _ z => nomatch z) (fun b o _ hb _ e n => u.keep b o e n hb (by simp)) (fun b o _ hb _ e n => u.slot b o e n hb (by simp)) (fun b o _ e n => u.free b o e n (by simp)) (fun b o _ e => u.there b o e (by simp)) u.tups u.frzs u.tbls (fun m' hm => by
    obtain ⟨o', es', ep', ho', r'⟩ := hm
    rw [ho] at ho'; cases ho'
    exact ⟨_, es', ep', hL, r'⟩) hok I.bare
theorem Inv.call {g' : Array GenState} {t' : Nat} {d' : Drawn} {ch : List Addr} (I : Inv X pins σ H s) (u : Un (frs X.stack) ch H H' s.heap h') (hok : HOk X.prog X.w H' h') (hg : AllBare g')
    (hch : ∀ b ∈ ch, (b ∈ X.ex ∨ X.s₀.heap.objs.size ≤ b) ∧ b ≠ X.env.locals ∧ (∀ x c, X.env.cells.lookup x = some c → c ≠ b) ∧ ∀ p ∈ X.pn ++ pins, p.1 ≠ b) :
    Inv X pins σ H' { s with heap := h', gens := g', drawn := d', toks := t' } := by
  obtain ⟨m, ⟨o, es, ep, ho, r⟩, _⟩ := id I.loc
  obtain ⟨sl, hL⟩ := u.any ho I.free fun z => (hch _ z).2.1 rfl
  exact I.step (ch := ch) hch (fun b o hL hb hc e n => u.keep b o e n (fun z => (List.mem_cons.mp (I.stkSub b z)).elim hL hb) hc) (fun b o _ _ hc e n => u.any e n hc) (fun b o hc e n => u.free b o e n hc) (fun b o hc e => u.there b o e hc) u.tups u.frzs u.tbls (fun m' hm => by
    obtain ⟨o', es', ep', ho', r'⟩ := hm
    rw [ho] at ho'; cases ho'
    exact ⟨_, es', ep', hL, r'⟩) hok hg
theorem Inv.turned {t' : Nat} {it : Addr} (I : Inv X pins σ H s) (k : ∀ b o, b ≠ it → s.heap.get? b = some o → h'.get? b = some o) (hn : H it = none) (hL : it ≠ X.env.locals)
    (h1 : it ∈ X.ex ∨ X.s₀.heap.objs.size ≤ it) (h2 : ∀ x c, X.env.cells.lookup x = some c → c ≠ it) (h3 : ∀ p ∈ X.pn ++ pins, p.1 ≠ it) : Inv X pins σ H { s with heap := h', toks := t' } := by
  have nit : ∀ b u, H b = some u → b ≠ it := fun b u e z => by rw [z, hn] at e; cases e
  refine I.step (g' := s.gens) (d' := s.drawn) (ch := [it]) (fun b hb => ?_) (fun b o _ _ hc e _ => k b o (fun z => hc (by simp [z])) e) (fun b o _ _ hc e _ => ⟨o.slots, k b o (fun z => hc (by simp [z])) e⟩) (fun _ _ _ _ n => n)
    (fun b o hc e => ⟨o, k b o (fun z => hc (by simp [z])) e⟩) (fun _ _ e => e) (fun _ _ _ e => e) (fun b ps e => ⟨#[], by rw [e]; simp⟩) (fun m hm => ?_) (fun b u e => ?_) I.bare
  · have e : b = it := by simpa using hb
    subst e
    exact ⟨h1, hL, h2, h3⟩
  · obtain ⟨o, es, ep, ho, r⟩ := hm
    exact ⟨o, es, ep, k _ o (Ne.symm hL) ho, r⟩
  · refine (I.hok b u e).stay (fun c v hc q => k c v ?_ q) (fun _ q => q) fun _ _ q => q
    rcases hc with z | z
    · rw [z]; exact nit b u e
    · exact nit c _ z
theorem Inv.tok (I : Inv X pins σ H s) (t : Nat) : Inv X pins σ H { s with toks := t } := I.un (h' := s.heap) (t' := t) Un.refl I.hok
theorem Inv.kept {t' : Nat} (I : Inv X pins σ H s) (k : ∀ b u, s.heap.get? b = some u → h'.get? b = some u) : Inv X pins σ H { s with heap := h', toks := t' } := I.un (Un.kept k) (I.hok.kept k)
theorem Inv.laid {a : Addr} {o : HO} {t' : Nat} (I : Inv X pins σ H s) (k : ∀ b u, s.heap.get? b = some u → h'.get? b = some u) (hp : s.heap.objs.size ≤ a) (new : ObjOk X.prog X.w (upd H a o) h' a o) :
    Inv X pins σ (upd H a o) { s with heap := h', toks := t' } := I.un (Un.laid k hp (I.hok.fresh hp)) (I.hok.laid k hp new)
theorem Inv.write {x e : Addr} {o : HO} {t' : Nat} (I : Inv X pins σ H s) (mu : Mut (H x)) (he : e = x ∨ H e = some (.own x)) (k : ∀ b u, b ≠ e → s.heap.get? b = some u → h'.get? b = some u) (heo : ∃ u, h'.get? e = some u)
    (new : ObjOk X.prog X.w (upd H x o) h' x o) : Inv X pins σ (upd H x o) { s with heap := h', toks := t' } := I.un (Un.write mu he k heo) (I.hok.write mu he k heo new)
theorem Inv.weak {σ' : List (Option V)} (I : Inv X pins σ H s) (hl : σ'.length = σ.length) (w : ∀ (i : Nat) v, σ'[i]? = some (some v) → σ[i]? = some (some v)) : Inv X pins σ' H s :=
  ⟨I.ok, I.os, I.bare, I.base, let ⟨m, hn, hl'⟩ := I.loc; ⟨m, hn, fun i x v e1 e2 e3 => hl' i x v e1 (w i v e2) e3⟩, I.cell, I.free, I.freeC, I.pin, I.hok, hl.trans I.len⟩
theorem Inv.pins_of {pins' : List (Addr × Obj)} (I : Inv X pins σ H s) (h : ∀ p ∈ pins', s.heap.get? p.1 = some p.2 ∧ H p.1 = none ∧ p.1 ≠ X.env.locals ∧ p.1 ∉ X.fs ∧ ∀ v, p.2.data ≠ .cell v) : Inv X pins' σ H s :=
  ⟨I.ok, I.os, I.bare, I.base, I.loc, I.cell, I.free, I.freeC, fun p hp => (List.mem_append.mp hp).elim (fun z => I.pin p (List.mem_append_left _ z)) (h p), I.hok, I.len⟩

theorem nodup_ix {N : List Str} (hN : N.Nodup) {i j : Nat} {x : Str} (a : N[i]? = some x) (b : N[j]? = some x) : i = j := by
  obtain ⟨h1, e1⟩ := List.getElem?_eq_some_iff.mp a
  obtain ⟨h2, e2⟩ := List.getElem?_eq_some_iff.mp b
  exact (List.getElem_inj hN).mp (e1.trans e2.symm)

theorem store_ok2 {M : Model} {A : Around} {E : Value → Shared → Prop} {i : Nat} {x : Str} {v : V} {u : Value} {Q : Unit → Shared → Prop} (I : Inv X pins σ H s) (hN : X.N.Nodup) (hi : X.N[i]? = some x) (hx : Loc X.env.scope x) (r : RelV v u)
    (h : ∀ s', Inv X pins (σ.set i (some v)) H s' → (∃ a, Heap.SameBut a s.heap s'.heap ∧ (a = X.env.locals ∨ X.env.cells.lookup x = some a)) → Q () s') (hf : X.fn x = true ∨ X.env.scope.names.lookup x = some .local := by first | exact .inl rfl | exact .inr rfl | assumption) : wpAny M A (storeName X.env x u) Q E s := by
  obtain ⟨m, hn, hl⟩ := id I.loc
  have hcls : (X.env.scope.kind == .class || (X.env.scope.kind == .module && X.env.locals != X.env.globals)) = false := by rw [I.ok.kind]; rfl
  have hiσ : i < σ.length := by rw [I.len]; exact (List.getElem?_eq_some_iff.mp hi).1
  have cne := I.cne
  have tracked : ∀ {a : Addr} {h' : Heap}, (∃ o, s.heap.get? a = some o ∧ H a = none) → Heap.SameBut a s.heap h' → HOk X.prog X.w H h' := fun {a h'} ha hs b ob e => by
    obtain ⟨_, _, hfree⟩ := ha
    refine (I.hok b ob e).stay (fun c w' hc q => (hs.2 c ?_).trans q) (fun _ q => q) fun _ _ q => q
    rintro rfl
    rcases hc with rfl | hc
    · rw [hfree] at e; cases e
    · rw [hfree] at hc; cases hc
  rcases hx with hk | hk
  · refine wpAny_storeName_local hk hn (fun h' hn' hs => ?_) hcls
    obtain ⟨oL, _, _, hoL, _⟩ := id hn
    refine h _ ⟨I.ok, I.os, I.bare, ⟨fun b o e n hb hx => ?_, fun b o e n hb hx => ?_, I.base.free, fun b o e hx => ?_, I.base.tups, I.base.frzs, I.base.tbls⟩, ⟨_, hn', fun j y v' e1 e2 e3 => ?_⟩, fun y c e => ?_, I.free, I.freeC, fun p hp => ?_, tracked ⟨oL, hoL, I.free⟩ hs, by simpa using I.len⟩ ⟨_, hs, .inl rfl⟩
    · exact (hs.2 b (Nat.ne_of_lt (Nat.lt_of_lt_of_le (Heap.lt_size e) I.ok.above))).trans (I.base.keep b o e n hb hx)
    · obtain ⟨sl, e1⟩ := I.base.slot b o e n hb hx
      exact ⟨sl, (hs.2 b (Nat.ne_of_lt (Nat.lt_of_lt_of_le (Heap.lt_size e) I.ok.above))).trans e1⟩
    · obtain ⟨o', e1⟩ := I.base.there b o e hx
      exact ⟨o', (hs.2 b (Nat.ne_of_lt (Nat.lt_of_lt_of_le (Heap.lt_size e) I.ok.above))).trans e1⟩
    · by_cases hj : j = i
      · subst hj
        rw [hi] at e1; cases e1
        rw [List.getElem?_set_self hiσ] at e2
        cases e2
        exact ⟨u, r, .inl ⟨hk, by simp⟩⟩
      · rw [List.getElem?_set_ne (Ne.symm hj)] at e2
        obtain ⟨u', r', q⟩ := hl j y v' e1 e2 e3
        refine ⟨u', r', ?_⟩
        rcases q with ⟨k, e⟩ | ⟨k, c, e, z⟩
        · refine .inl ⟨k, ?_⟩
          have : y ≠ x := fun e => hj (nodup_ix hN e1 (e ▸ hi))
          simp [this, e]
        · exact .inr ⟨k, c, e, z.sameBut hs (cne y c e)⟩
    · obtain ⟨w', z⟩ := I.cell y c e
      exact ⟨w', z.sameBut hs (cne y c e)⟩
    · obtain ⟨e, n, ne, nf, d⟩ := I.pin p hp
      exact ⟨(hs.2 p.1 ne).trans e, n, ne, nf, d⟩
  · have hfn : X.fn x = true := by
      rcases hf with z | z
      · exact z
      · rw [z] at hk; cases hk
    obtain ⟨c, hc⟩ := I.ok.has x (.inl hk)
    obtain ⟨w', z⟩ := I.cell x c hc
    refine wpAny_storeName_cell I.ok.kind hk hc z (fun h' hc' hs => ?_)
    obtain ⟨oc, hoc, hocd⟩ := id z
    refine h { s with heap := h' } ⟨I.ok, I.os, I.bare, ⟨fun b o e n hb hx => ?_, fun b o e n hb hx => ?_, I.base.free, fun b o e hx => ?_, I.base.tups, I.base.frzs, I.base.tbls⟩, ⟨m, hn.sameBut hs (Ne.symm (cne x c hc)), fun j y v' e1 e2 e3 => ?_⟩, fun y c' e => ?_, I.free, I.freeC, fun p hp => ?_, tracked ⟨oc, hoc, I.freeC x c hc⟩ hs, by simpa using I.len⟩ ⟨c, hs, .inr hc⟩
    · exact (hs.2 b (Nat.ne_of_lt (Nat.lt_of_lt_of_le (Heap.lt_size e) (I.ok.cab x c hfn hc)))).trans (I.base.keep b o e n hb hx)
    · obtain ⟨sl, e1⟩ := I.base.slot b o e n hb hx
      exact ⟨sl, (hs.2 b (Nat.ne_of_lt (Nat.lt_of_lt_of_le (Heap.lt_size e) (I.ok.cab x c hfn hc)))).trans e1⟩
    · obtain ⟨o', e1⟩ := I.base.there b o e hx
      exact ⟨o', (hs.2 b (Nat.ne_of_lt (Nat.lt_of_lt_of_le (Heap.lt_size e) (I.ok.cab x c hfn hc)))).trans e1⟩
    · by_cases hj : j = i
      · subst hj
        rw [hi] at e1; cases e1
        rw [List.getElem?_set_self hiσ] at e2
        cases e2
        exact ⟨u, r, .inr ⟨.inl hk, c, hc, hc'⟩⟩
      · rw [List.getElem?_set_ne (Ne.symm hj)] at e2
        obtain ⟨u', r', q⟩ := hl j y v' e1 e2 e3
        refine ⟨u', r', ?_⟩
        rcases q with q | ⟨k, c', e, z'⟩
        · exact .inl q
        · refine .inr ⟨k, c', e, z'.sameBut hs ?_⟩
          rintro rfl
          exact hj (nodup_ix hN e1 (I.ok.inj _ _ _ e hc ▸ hi))
    · by_cases hcc : c' = c
      · subst hcc; exact ⟨_, hc'⟩
      · obtain ⟨w2, z2⟩ := I.cell y c' e
        exact ⟨w2, z2.sameBut hs hcc⟩
    · obtain ⟨e, n, ne, nf, d⟩ := I.pin p hp
      refine ⟨(hs.2 p.1 ?_).trans e, n, ne, nf, d⟩
      intro q
      rw [q, hoc] at e
      have q' : oc = p.2 := Option.some.inj e
      exact d w' (by rw [← q']; exact hocd)
theorem store_ok {M : Model} {A : Around} {E : Value → Shared → Prop} {i : Nat} {x : Str} {v : V} {u : Value} {Q : Unit → Shared → Prop} (I : Inv X pins σ H s) (hN : X.N.Nodup) (hi : X.N[i]? = some x) (hx : Loc X.env.scope x) (r : RelV v u)
    (h : ∀ s', Inv X pins (σ.set i (some v)) H s' → Q () s') (hf : X.fn x = true ∨ X.env.scope.names.lookup x = some .local := by first | exact .inl rfl | exact .inr rfl | assumption) : wpAny M A (storeName X.env x u) Q E s :=
  store_ok2 I hN hi hx r (fun s' I' _ => h s' I') hf
theorem Inv.call' {s' : Shared} {ch : List Addr} (I : Inv X pins σ H s) (ho : s'.os = s.os) (u : Un (frs X.stack) ch H H' s.heap s'.heap) (hok : HOk X.prog X.w H' s'.heap) (hg : AllBare s'.gens)
    (hch : ∀ b ∈ ch, (b ∈ X.ex ∨ X.s₀.heap.objs.size ≤ b) ∧ b ≠ X.env.locals ∧ (∀ x c, X.env.cells.lookup x = some c → c ≠ b) ∧ ∀ p ∈ X.pn ++ pins, p.1 ≠ b) : Inv X pins σ H' s' := by
  obtain ⟨h', g', d', t', o'⟩ := s'
  have e : o' = s.os := ho
  subst e
  exact I.call (g' := g') (t' := t') (d' := d') u hok hg hch
end

abbrev XK := Value → Option Addr → Hp → Prop
abbrev St := List (Option V)
abbrev VK := V → Hp → Prop
abbrev TE := St → Hp → VK → Prop
abbrev TT := St → Hp → (Bool → Hp → Prop) → Prop
abbrev TA := St → Hp → (List V → Hp → Prop) → Prop
structure Ends where
  nx : St → Hp → Prop
  rt : VK
  bk : St → Hp → Prop := fun _ _ => False
  ct : St → Hp → Prop := fun _ _ => False
abbrev TS := Ends → St → Hp → Prop

def EP (X : Cx) (pins : List (Addr × Obj)) (σ : St) (Q : VK) (u : Value) (s' : Shared) : Prop := ∃ v H', Inv X pins σ H' s' ∧ RelV v u ∧ Q v H'
def TP (X : Cx) (pins : List (Addr × Obj)) (σ : St) (Q : Bool → Hp → Prop) (b : Bool) (s' : Shared) : Prop := ∃ H', Inv X pins σ H' s' ∧ Q b H'
def AP (X : Cx) (pins : List (Addr × Obj)) (σ : St) (Q : List V → Hp → Prop) (us : List Value) (s' : Shared) : Prop := ∃ vs H', Inv X pins σ H' s' ∧ Vals vs us ∧ Q vs H'
def SP (X : Cx) (pins : List (Addr × Obj)) (D : Ends) (f : Flow) (s' : Shared) : Prop :=
  match f with
  | .next => ∃ σ' H', Inv X pins σ' H' s' ∧ D.nx σ' H'
  | .brk => ∃ σ' H', Inv X pins σ' H' s' ∧ D.bk σ' H'
  | .cont => ∃ σ' H', Inv X pins σ' H' s' ∧ D.ct σ' H'
  | .ret u => ∃ v σ' H', Inv X pins σ' H' s' ∧ RelV v u ∧ D.rt v H'

def PE (X : Cx) (e : Expr) (t : TE) : Prop :=
  ∀ (pins : List (Addr × Obj)) (s : Shared) (σ : St) (H : Hp) (Q : VK), Inv X pins σ H s → t σ H Q → wpAny (model X.prog X.w) X.A (eval e X.env) (EP X pins σ Q) X.xe s
def PT (X : Cx) (e : Expr) (t : TT) : Prop :=
  ∀ (pins : List (Addr × Obj)) (s : Shared) (σ : St) (H : Hp) (Q : Bool → Hp → Prop), Inv X pins σ H s → t σ H Q → wpAny (model X.prog X.w) X.A (isTrue e X.env (eval e X.env)) (TP X pins σ Q) X.xe s
def PW (X : Cx) (e : Expr) (t : TT) : Prop :=
  ∀ (whole : Sem Value) (pins : List (Addr × Obj)) (s : Shared) (σ : St) (H : Hp) (Q : Bool → Hp → Prop), Inv X pins σ H s → t σ H Q → wpAny (model X.prog X.w) X.A (isTrue e X.env whole) (TP X pins σ Q) X.xe s
theorem PW.pt {X : Cx} {e : Expr} {t : TT} (h : PW X e t) : PT X e t := h _
def PA (X : Cx) (es : List Expr) (t : TA) : Prop :=
  ∀ (pos : Pos) (pins : List (Addr × Obj)) (s : Shared) (σ : St) (H : Hp) (Q : List V → Hp → Prop), Inv X pins σ H s → t σ H Q → wpAny (model X.prog X.w) X.A (spliced (backTo pos (starEach es X.env))) (AP X pins σ Q) X.xe s
def PS (X : Cx) (st : Stmt) (t : TS) : Prop :=
  ∀ (pins : List (Addr × Obj)) (s : Shared) (σ : St) (H : Hp) (D : Ends), Inv X pins σ H s → t D σ H → wpAny (model X.prog X.w) X.A (exec st X.env) (SP X pins D) X.xe s
def PSs (X : Cx) (st : List Stmt) (t : TS) : Prop :=
  ∀ (pins : List (Addr × Obj)) (s : Shared) (σ : St) (H : Hp) (D : Ends), Inv X pins σ H s → t D σ H → wpAny (model X.prog X.w) X.A (execs st X.env) (SP X pins D) X.xe s
theorem thn {α : Type} {t : Sem α} {Q Q' : α → Shared → Prop} {M : Model} {A : Around} {E : Value → Shared → Prop} {s : Shared} (h : wpAny M A t Q E s) (hQ : ∀ a s, Q a s → Q' a s) : wpAny M A t Q' E s := wpAny_mono h hQ fun _ _ x => x
end L2

namespace L2
open PySem PySem.Spec PyProof.Rows
section
variable {X : Cx}


def tVar (i : Nat) : TE := fun σ H Q => ∃ v, σ[i]? = some (some v) ∧ Q v H
def tC (v : V) : TE := fun _ H Q => Q v H
theorem pe_var {i : Nat} {x : Str} {pos : Pos} (hN : X.N[i]? = some x) (hv : Vis X.env.scope x) (hd : (x == ("__debug__" : Str)) = false := by decide) (hcd : (x == ("__classdict__" : Str)) = false := by decide) : PE X (.Name x pos) (tVar i) := by
  intro pins s σ H Q I h
  obtain ⟨v, e, h⟩ := h
  obtain ⟨m, hn, hl⟩ := I.loc
  obtain ⟨u, r, l⟩ := hl i x v hN e hv
  have fin : EP X pins σ Q u s := ⟨v, H, I, r, h⟩
  rcases l with ⟨hk, hm⟩ | ⟨hk, c, hc, hcell⟩
  · exact wpAny_Name (wpAny_loadName_local I.ok.kind hk hn hm fin) hd
  · rcases hk with hk | hk
    · exact wpAny_Name (wpAny_loadName_cell I.ok.kind hk hc hcell fin) hd
    · exact wpAny_Name (wpAny_loadName_free I.ok.kind hk hc hcell fin hcd) hd
theorem pe_int {i j pos} : PE X (.Constant (.int i) j pos) (tC (.int i)) := fun _ _ _ H _ I h => wpAny_Constant_int ⟨.int i, H, I.tok _, ⟨_, rfl⟩, h⟩
theorem pe_bl {b j pos} : PE X (.Constant (.bool b) j pos) (tC (.bl b)) := fun _ _ _ H _ I h => Constant_bool ⟨.bl b, H, I, rfl, h⟩
theorem pe_non {j pos} : PE X (.Constant .none j pos) (tC .non) := fun _ _ _ H _ I h => Constant_none ⟨.non, H, I, rfl, h⟩
theorem pe_str {x j pos} : PE X (.Constant (.str x) j pos) (tC (.str x)) := fun _ _ _ H _ I h => Calls.Constant_str ⟨.str x, H, I.tok _, ⟨_, rfl⟩, h⟩

def Gl (X : Cx) (x : Str) : Prop := X.env.kindOf x = some .globalImplicit
theorem ld_glob {E : Value → Shared → Prop} {pins : List (Addr × Obj)} {s : Shared} {σ : St} {H : Hp} {x : Str} {u : Value} {pos : Pos} {Q : Value → Shared → Prop} (I : Inv X pins σ H s) (hg : Gl X x) (hm : X.mg x = some u) (h : Q u s)
    (hd : (x == ("__debug__" : Str)) = false := by decide) : wpAny (model X.prog X.w) X.A (eval (.Name x pos) X.env) Q E s :=
  Calls.Name_function_global I.ok.kind hg (Calls.loadGlobal_global (by rw [I.ok.glob]; exact I.mod.glob.keeps I.bk) hm h) hd
theorem ld_blt {E : Value → Shared → Prop} {pins : List (Addr × Obj)} {s : Shared} {σ : St} {H : Hp} {x : Str} {u : Value} {pos : Pos} {Q : Value → Shared → Prop} (I : Inv X pins σ H s) (hg : Gl X x) (hm : X.mg x = none) (hv : bootBuiltins x = some u) (h : Q u s)
    (hn : x ≠ "__name__" := by decide) (hd : (x == ("__debug__" : Str)) = false := by decide) : wpAny (model X.prog X.w) X.A (eval (.Name x pos) X.env) Q E s := by
  obtain ⟨mb, h1, h2⟩ := I.mod.blt
  exact Calls.Name_function_global I.ok.kind hg (Calls.loadGlobal_builtin (by rw [I.ok.glob]; exact I.mod.glob.keeps I.bk) hm (by rw [I.ok.blt]; exact h1.keeps I.bk) ((h2 x hn).trans hv) h) hd
theorem pe_glob {x : Str} {v : V} {u : Value} {pos : Pos} (hg : Gl X x) (hm : X.mg x = some u) (r : RelV v u) (hd : (x == ("__debug__" : Str)) = false := by decide) : PE X (.Name x pos) (tC v) :=
  fun _ _ _ H _ I h => ld_glob I hg hm ⟨v, H, I, r, h⟩ hd
theorem pe_bltn {x : Str} {v : V} {u : Value} {pos : Pos} (hg : Gl X x) (hm : X.mg x = none) (hv : bootBuiltins x = some u) (r : RelV v u) (hn : x ≠ "__name__" := by decide) (hd : (x == ("__debug__" : Str)) = false := by decide) : PE X (.Name x pos) (tC v) :=
  fun _ _ _ H _ I h => ld_blt I hg hm hv ⟨v, H, I, r, h⟩ hn hd

variable {a b : Expr} {ta tb : TE} {pos : Pos}

def tB (t : TE) : TT := fun σ H Q => t σ H fun x H1 => ∃ c, x = .bl c ∧ Q c H1
theorem pt_val {e : Expr} {t : TE} (h : PE X e t) (he : ∀ whole, isTrue e X.env whole = (do let v ← whole; standAt e.pos; holding [v] (truthy v)) := by intro _; rfl) : PT X e (tB t) := by
  intro pins s σ H Q I hw
  refine isTrue_plain (thn (h pins s σ H _ I hw) fun v s1 ⟨x, H1, I1, r1, q1⟩ => ?_) (he _)
  obtain ⟨d, rfl, q⟩ := q1
  cases r1
  exact wpAny_truthy_bool ⟨H1, I1, q⟩

variable {tA tB' : TT} {rest : List Expr}
def tOr (t u : TT) : TT := fun σ H Q => t σ H fun c H1 => if c = true then Q true H1 else u σ H1 Q
def tNot (t : TT) : TT := fun σ H Q => t σ H fun c H1 => Q (!c) H1
theorem pw_or1 (ha : PT X a tA) : PW X (.BoolOp .Or [a] pos) tA := by
  intro wh pins s σ H Q I h
  refine isTrue_or (thn (ha pins s σ H Q I h) fun c s1 e => ?_)
  cases c with
  | false => exact isTrue_or_nil e
  | true => exact e
theorem pw_or (ha : PT X a tA) (hb : PW X (.BoolOp .Or (b :: rest) pos) tB') : PW X (.BoolOp .Or (a :: b :: rest) pos) (tOr tA tB') := by
  intro wh pins s σ H Q I h
  refine isTrue_or (thn (ha pins s σ H _ I h) fun c s1 ⟨H1, I1, q1⟩ => ?_)
  cases c with
  | true => exact ⟨H1, I1, q1⟩
  | false => exact hb wh pins s1 σ H1 Q I1 q1
theorem pt_not (ha : PT X a tA) : PT X (.UnaryOp .Not a pos) (tNot tA) := by
  intro pins s σ H Q I h
  exact isTrue_not (ha pins s σ H (fun c H1 => Q (!c) H1) I h)
def tAndV (ta tb : TE) : TE := fun σ H Q => ta σ H fun x H1 => ∃ c, x = .bl c ∧ if c = true then tb σ H1 Q else Q (.bl false) H1
def tOrV (ta tb : TE) : TE := fun σ H Q => ta σ H fun x H1 => ∃ c, x = .bl c ∧ if c = true then Q (.bl true) H1 else tb σ H1 Q
def tNotV (ta : TE) : TE := fun σ H Q => ta σ H fun x H1 => ∃ c, x = .bl c ∧ Q (.bl (!c)) H1
theorem pe_one {op} {t : TE} (h : PE X a t) : PE X (.BoolOp op [a] pos) t := fun pins s σ H Q I hw => BoolOp_one (h pins s σ H Q I hw)
theorem pe_and (ha : PE X a ta) (hb : PE X (.BoolOp .And (b :: rest) pos) tb) : PE X (.BoolOp .And (a :: b :: rest) pos) (tAndV ta tb) := by
  intro pins s σ H Q I h
  refine BoolOp_and (thn (ha pins s σ H _ I h) fun v s1 ⟨x, H1, I1, r1, q1⟩ => ?_)
  obtain ⟨c, rfl, q1⟩ := q1
  cases r1
  refine wpAny_truthy_bool ?_
  cases c with
  | true => exact hb pins s1 σ H1 Q I1 q1
  | false => exact ⟨.bl false, H1, I1, rfl, q1⟩
theorem pe_or (ha : PE X a ta) (hb : PE X (.BoolOp .Or (b :: rest) pos) tb) : PE X (.BoolOp .Or (a :: b :: rest) pos) (tOrV ta tb) := by
  intro pins s σ H Q I h
  refine BoolOp_or (thn (ha pins s σ H _ I h) fun v s1 ⟨x, H1, I1, r1, q1⟩ => ?_)
  obtain ⟨c, rfl, q1⟩ := q1
  cases r1
  refine wpAny_truthy_bool ?_
  cases c with
  | false => exact hb pins s1 σ H1 Q I1 q1
  | true => exact ⟨.bl true, H1, I1, rfl, q1⟩
theorem pe_not (ha : PE X a ta) : PE X (.UnaryOp .Not a pos) (tNotV ta) := by
  intro pins s σ H Q I h
  refine UnaryOp_ (thn (ha pins s σ H _ I h) fun v s1 ⟨x, H1, I1, r1, q1⟩ => ?_)
  obtain ⟨c, rfl, q1⟩ := q1
  cases r1
  exact not_of (wpAny_truthy_bool ⟨.bl (!c), H1, I1, rfl, q1⟩)
def tIf (t : TT) (ta tb : TE) : TE := fun σ H Q => t σ H fun c H1 => if c = true then ta σ H1 Q else tb σ H1 Q
theorem pe_ifExp {c : Expr} (hc : PT X c tA) (ha : PE X a ta) (hb : PE X b tb) : PE X (.IfExp c a b pos) (tIf tA ta tb) := by
  intro pins s σ H Q I h
  refine wpAny_IfExp (thn (hc pins s σ H _ I h) fun d s1 ⟨H1, I1, q1⟩ => ?_)
  cases d with
  | true => exact ha pins s1 σ H1 Q I1 q1
  | false => exact hb pins s1 σ H1 Q I1 q1
end
end L2

namespace L2
open PySem PySem.Spec PyProof.Rows

def SqL (K : PySem.W.Frag) (H : Hp) (a : Addr) (xs : List V) : Prop :=
  Rd H a (.lst xs) ∨
    ∃ (o : Obj) (its : Array Value) (n : Nat), K.lookup a = some o ∧ o.cls = .type "list" ∧ o.dict = none ∧ o.data = .seq its n ∧ its.size ≤ sizeLine ∧ Vals xs its.toList
def SqT (K : PySem.W.Frag) (H : Hp) (a : Addr) (xs : List V) : Prop :=
  Rd H a (.tup xs) ∨
    ∃ (o : Obj) (its : Array Value) (n : Nat), K.lookup a = some o ∧ o.cls = .type "tuple" ∧ o.data = .seq its n ∧ its.size ≤ sizeLine ∧ Vals xs its.toList
def absV : Value → Option V
  | .none => some .non
  | .bool b => some (.bl b)
  | .int i _ => some (.int i)
  | .str x _ => some (.str x)
  | .bytes b _ => some (.byt b)
  | .float b _ => some (.flt b)
  | .ref a => some (.ref a)
  | .type n => some (.ty n)
  | _ => none
theorem RelV.abs {x : V} {u : Value} (r : RelV x u) : absV u = some x := by
  cases x with
  | non => cases r; rfl
  | bl _ => cases r; rfl
  | int _ => obtain ⟨t, rfl⟩ := r; rfl
  | str _ => obtain ⟨t, rfl⟩ := r; rfl
  | byt _ => obtain ⟨t, rfl⟩ := r; rfl
  | flt _ => obtain ⟨t, rfl⟩ := r; rfl
  | ref _ => cases r; rfl
  | ty _ => cases r; rfl
theorem RelV.inj {x y : V} {u : Value} (r : RelV x u) (q : RelV y u) : x = y := Option.some.inj (r.abs.symm.trans q.abs)
theorem Vals.inj : ∀ {xs ys : List V} {us : List Value}, Vals xs us → Vals ys us → xs = ys
  | _, _, _, .nil, .nil => rfl
  | _, _, _, .cons r t, .cons r' t' => by rw [r.inj r', Vals.inj t t']
section
variable {X : Cx} {pins : List (Addr × Obj)} {σ : St} {H : Hp} {s : Shared} {a : Addr} {xs ys : List V}
theorem SqL.of {K : PySem.W.Frag} (h : H a = some (.lst xs)) : SqL K H a xs := .inl (.inl h)
theorem SqT.of {K : PySem.W.Frag} (h : H a = some (.tup xs)) : SqT K H a xs := .inl (.inl h)
theorem Inv.list (I : Inv X pins σ H s) (h : SqL X.K H a xs) : ∃ its : List Value, Vals xs its ∧ PlainL s.heap a its.toArray ∧ xs.length ≤ sizeLine := by
  rcases h with h | ⟨o, its, n, hk, hc, hd, hs, hz, r⟩
  · obtain ⟨z, its, n, r, e⟩ := h.ok I.hok
    exact ⟨its, r, ⟨_, n, e, rfl, rfl, rfl⟩, z⟩
  · refine ⟨its.toList, r, ⟨o, n, I.kIn a o hk, hc, hd, by simpa using hs⟩, ?_⟩
    have e := r.length
    simp only [Array.length_toList] at e
    omega
theorem Inv.tuple (I : Inv X pins σ H s) (h : SqT X.K H a xs) : ∃ its : List Value, Vals xs its ∧ IsTup s.heap a its.toArray ∧ xs.length ≤ sizeLine := by
  rcases h with h | ⟨o, its, n, hk, hc, hs, hz, r⟩
  · obtain ⟨z, its, r, p, _⟩ := h.ok I.hok
    exact ⟨its, r, p, z⟩
  · refine ⟨its.toList, r, ⟨o, I.kIn a o hk, hc, n, by simpa using hs⟩, ?_⟩
    have e := r.length
    simp only [Array.length_toList] at e
    omega
theorem Inv.list_inj (I : Inv X pins σ H s) (h : SqL X.K H a xs) (h' : SqL X.K H a ys) : xs = ys := by
  obtain ⟨its, r, ⟨o, n, e, _, _, d⟩, _⟩ := I.list h
  obtain ⟨its', r', ⟨o', n', e', _, _, d'⟩, _⟩ := I.list h'
  rw [e] at e'; cases e'
  rw [d] at d'
  injection d' with d1 _
  have : its = its' := by simpa using congrArg Array.toList d1
  subst this
  exact r.inj r'
theorem Inv.tuple_inj (I : Inv X pins σ H s) (h : SqT X.K H a xs) (h' : SqT X.K H a ys) : xs = ys := by
  obtain ⟨its, r, ⟨o, e, _, n, d⟩, _⟩ := I.tuple h
  obtain ⟨its', r', ⟨o', e', _, n', d'⟩, _⟩ := I.tuple h'
  rw [e] at e'; cases e'
  rw [d] at d'
  injection d' with d1 _
  have : its = its' := by simpa using congrArg Array.toList d1
  subst this
  exact r.inj r'
end

abbrev Cx.wish (X : Cx) (E : Value → Shared → Prop) : Cx := { X with xe := E }
abbrev Cx.nox (X : Cx) : Cx := X.wish fun _ _ => False
theorem Cx.Ok.wish {X : Cx} (ok : X.Ok) (E : Value → Shared → Prop) : (X.wish E).Ok :=
  ⟨ok.mod, ok.kind, ok.glob, ok.blt, ok.above, ok.inj, ok.has, ok.cab, ok.hd, ok.frames, ok.stk, ok.exf, ok.bs, ok.bsz, ok.noex, ok.exfs, ok.funs, ok.frf⟩
theorem Cx.Ok.unwish {X : Cx} {E : Value → Shared → Prop} (ok : (X.wish E).Ok) : X.Ok :=
  ⟨ok.mod, ok.kind, ok.glob, ok.blt, ok.above, ok.inj, ok.has, ok.cab, ok.hd, ok.frames, ok.stk, ok.exf, ok.bs, ok.bsz, ok.noex, ok.exfs, ok.funs, ok.frf⟩
section
variable {X : Cx} {pins : List (Addr × Obj)} {σ : St} {H : Hp} {s : Shared} {E : Value → Shared → Prop}
theorem Inv.wish (I : Inv X pins σ H s) (E : Value → Shared → Prop) : Inv (X.wish E) pins σ H s := ⟨I.ok.wish E, I.os, I.bare, I.base, I.loc, I.cell, I.free, I.freeC, I.pin, I.hok, I.len⟩
theorem Inv.unwish (I : Inv (X.wish E) pins σ H s) : Inv X pins σ H s := ⟨I.ok.unwish, I.os, I.bare, I.base, I.loc, I.cell, I.free, I.freeC, I.pin, I.hok, I.len⟩
theorem SP.unwish {D : Ends} {f : Flow} {s' : Shared} (h : SP (X.wish E) pins D f s') : SP X pins D f s' := by
  cases f with
  | next => obtain ⟨σ', H', I, q⟩ := h; exact ⟨σ', H', I.unwish, q⟩
  | brk => obtain ⟨σ', H', I, q⟩ := h; exact ⟨σ', H', I.unwish, q⟩
  | cont => obtain ⟨σ', H', I, q⟩ := h; exact ⟨σ', H', I.unwish, q⟩
  | ret u => obtain ⟨v, σ', H', I, r, q⟩ := h; exact ⟨v, σ', H', I.unwish, r, q⟩
theorem PE.nox {e : Expr} {t : TE} (h : PE X.nox e t) : PE X e t := fun pins s σ H Q I hw =>
  wpAny_mono (h pins s σ H Q (I.wish _) hw) (fun _ _ ⟨v, H', I', r, q⟩ => ⟨v, H', I'.unwish, r, q⟩) fun _ _ z => False.elim z
theorem PT.nox {e : Expr} {t : TT} (h : PT X.nox e t) : PT X e t := fun pins s σ H Q I hw =>
  wpAny_mono (h pins s σ H Q (I.wish _) hw) (fun _ _ ⟨H', I', q⟩ => ⟨H', I'.unwish, q⟩) fun _ _ z => False.elim z
theorem PSs.nox {st : List Stmt} {t : TS} (h : PSs X.nox st t) : PSs X st t := fun pins s σ H D I hw =>
  wpAny_mono (h pins s σ H D (I.wish _) hw) (fun _ _ q => q.unwish) fun _ _ z => False.elim z
end

section
variable {X : Cx} {st : Stmt} {rest : List Stmt} {t u : TS} {e : Expr} {te : TE} {pos : Pos}
def tNext : TS := fun D σ H => D.nx σ H
def tSeq (t u : TS) : TS := fun D σ H => t { D with nx := u D } σ H
theorem pss_nil : PSs X [] tNext := fun _ _ σ H _ I h => wpAny_execs_nil ⟨σ, H, I, h⟩
theorem pss_cons (h1 : PS X st t) (h2 : PSs X rest u) : PSs X (st :: rest) (tSeq t u) := by
  intro pins s σ H D I h
  refine wpAny_execs_cons (thn (h1 pins s σ H { D with nx := u D } I h) fun f s1 q => ?_)
  cases f with
  | next =>
    obtain ⟨σ', H', I', q⟩ := q
    exact h2 pins s1 σ' H' D I' q
  | ret v => exact q
  | brk => exact q
  | cont => exact q
theorem pss_one (h1 : PS X st t) : PSs X [st] t := by
  intro pins s σ H D I h
  refine wpAny_execs_cons (thn (h1 pins s σ H D I h) fun f s1 q => ?_)
  cases f with
  | next => exact wpAny_execs_nil q
  | ret v => exact q
  | brk => exact q
  | cont => exact q
theorem Inv.quiet {pins : List (Addr × Obj)} {σ : St} {H : Hp} {s : Shared} (I : Inv X pins σ H s) : interactive X.env = false := by simp [interactive, I.ok.kind]
def tRet (te : TE) : TS := fun D σ H => te σ H D.rt
theorem ps_ret (he : PE X e te) : PS X (.Return (some e) pos) (tRet te) := by
  intro pins s σ H D I h
  exact wpAny_Return_some (thn (he pins s σ H _ I h) fun v s1 ⟨x, H1, I1, r1, q1⟩ => ⟨x, σ, H1, I1, r1, q1⟩)
def tIfS (c : TT) (t u : TS) : TS := fun D σ H => c σ H fun b H1 => if b = true then t D σ H1 else u D σ H1
theorem ps_if {c : Expr} {a b : List Stmt} {tc : TT} (hc : PT X c tc) (ha : PSs X a t) (hb : PSs X b u) : PS X (.If c a b pos) (tIfS tc t u) := by
  intro pins s σ H D I h
  refine wpAny_If (thn (hc pins s σ H _ I h) fun d s1 ⟨H1, I1, q1⟩ => ?_)
  cases d with
  | true => exact ha pins s1 σ H1 D I1 q1
  | false => exact hb pins s1 σ H1 D I1 q1
end

abbrev TG := V → St → Hp → (St → Hp → Prop) → Prop
abbrev TGs := List V → St → Hp → (St → Hp → Prop) → Prop
def PG (X : Cx) (target : Expr) (t : TG) : Prop :=
  ∀ (pins : List (Addr × Obj)) (s : Shared) (σ : St) (H : Hp) (v : V) (u : Value) (Q : St → Hp → Prop), Inv X pins σ H s → RelV v u → t v σ H Q →
    wpAny (model X.prog X.w) X.A (assign target X.env u) (fun _ s' => ∃ σ' H', Inv X pins σ' H' s' ∧ Q σ' H') X.xe s
def PGs (X : Cx) (ts : List Expr) (t : TGs) : Prop :=
  ∀ (pins : List (Addr × Obj)) (s : Shared) (σ : St) (H : Hp) (vs : List V) (us : List Value) (Q : St → Hp → Prop), Inv X pins σ H s → Vals vs us → t vs σ H Q →
    wpAny (model X.prog X.w) X.A (assignInOrder ((assignEach ts X.env).map (·.2)) us) (fun _ s' => ∃ σ' H', Inv X pins σ' H' s' ∧ Q σ' H') X.xe s
section
variable {X : Cx} {pos : Pos}
def gName (i : Nat) : TG := fun v σ H Q => Q (σ.set i (some v)) H
theorem pg_name {i : Nat} {x : Str} (hN : X.N.Nodup) (hi : X.N[i]? = some x) (hx : Loc X.env.scope x) (hf : X.fn x = true ∨ X.env.scope.names.lookup x = some .local := by first | exact .inl rfl | exact .inr rfl | assumption) : PG X (.Name x pos) (gName i) := by
  intro pins s σ H v u Q I r h
  exact wpAny_assign_Name (store_ok I hN hi hx r (fun s' I' => ⟨_, H, I', h⟩) hf)
def tAsg (te : TE) (g : TG) : TS := fun D σ H => te σ H fun x H1 => g x σ H1 D.nx
theorem ps_set {i : Nat} {x : Str} {e : Expr} {te : TE} {pos' : Pos} (hN : X.N.Nodup) (hi : X.N[i]? = some x) (hx : Loc X.env.scope x) (he : PE X e te) (hs : swapsWith e (some (.Name x pos')) pos.line X.env = pure false := by rfl) (hf : X.fn x = true ∨ X.env.scope.names.lookup x = some .local := by first | exact .inl rfl | exact .inr rfl | assumption) :
    PS X (.Assign [.Name x pos'] e pos) (tAsg te (gName i)) := by
  intro pins s σ H D I h
  refine wpAny_Assign_Name (thn (he pins s σ H _ I h) fun v s1 ⟨y, H1, I1, r1, q1⟩ => ?_) hs
  exact store_ok I1 hN hi hx r1 (fun s2 I2 => ⟨_, H1, I2, q1⟩) hf
def tPar (i j : Nat) (ta : TA) : TS := fun D σ H => ta σ H fun vs H1 => ∃ v w, vs = [v, w] ∧ D.nx ((σ.set i (some v)).set j (some w)) H1
theorem ps_par {i j : Nat} {x y : Str} {a b : Expr} {ta : TA} {px py pt : Pos} {kt k2 pt2} (hc : X.calm = true) (hN : X.N.Nodup) (hi : X.N[i]? = some x) (hj : X.N[j]? = some y) (hij : i ≠ j)
    (hx : X.env.scope.names.lookup x = some .local) (hy : X.env.scope.names.lookup y = some .local) (ha : PA X [a, b] ta)
    (hw : swappedStores [.Tuple [.Name x px, .Name y py] kt pt] (.Tuple [a, b] k2 pt2) X.env = pure (some [x, y]))
    (hs : swapsWithSole [.Tuple [.Name x px, .Name y py] kt pt] (.Tuple [a, b] k2 pt2) pos.line X.env = pure false := by rfl) :
    PS X (.Assign [.Tuple [.Name x px, .Name y py] kt pt] (.Tuple [a, b] k2 pt2) pos) (tPar i j ta) := by
  intro pins s σ H D I h
  rw [exec_Assign_arm]
  refine wpAny_bind (wpAny_standAt ?_)
  rw [hs]
  refine wpAny_bind (wpAny_pure ?_)
  rw [if_neg (by decide)]
  refine wpAny_bind (Tuple_ (thn (ha _ pins s σ H _ I h) fun us s1 ⟨vs, H1, I1, r1, q1⟩ => ?_))
  obtain ⟨v, w, e1, q1⟩ := q1
  subst e1
  obtain ⟨u1, u2, rfl, rv, rw'⟩ : ∃ u1 u2, us = [u1, u2] ∧ RelV v u1 ∧ RelV w u2 := by
    cases r1 with
    | cons p q =>
      cases q with
      | cons p' q' =>
        cases q'
        exact ⟨_, _, rfl, p, p'⟩
  refine wpAny_newObj_type ?_ (by show 2 ≤ sizeLine; decide)
  have I2 : Inv X pins σ H1 { s1 with heap := s1.heap.push { cls := .type "tuple", data := .seq [u1, u2].toArray } } := I1.kept (t' := s1.toks) fun b o e => Heap.get?_push_of_some _ e
  rw [hw]
  refine wpAny_bind (wpAny_pure ?_)
  show wpAny (model X.prog X.w) X.A (do rule "assign.swapped-stores"; let items ← unpackItems (.ref s1.heap.objs.size) 2 none; assignInOrder [fun v => bindName X.env y v, fun v => bindName X.env x v] items.reverse; pure Flow.next) _ _ _
  refine wpAny_bind (wpAny_rule (wpAny_bind (unpackItems_tuple (items := #[u1, u2]) (I.ok.hd hc) (IsTup.new s1.heap _) fun h' hx' => ?_)))
  have I3 := I2.kept (h' := h') (t' := s1.toks) fun b o e => hx' b o (Nat.ne_of_lt (Heap.lt_size e)) e
  show wpAny _ _ (assignInOrder [fun v => bindName X.env y v, fun v => bindName X.env x v] [u2, u1] >>= fun _ => pure Flow.next) _ _ _
  refine wpAny_bind (assignInOrder_cons (wpAny_bindName (store_ok I3 hN hj (.inl hy) rw' (fun s2 I4 => ?_) (.inr hy))))
  refine assignInOrder_cons (wpAny_bindName (store_ok I4 hN hi (.inl hx) rv (fun s3 I5 => assignInOrder_nil (wpAny_pure ?_)) (.inr hx)))
  rw [List.set_comm _ _ (Ne.symm hij)] at I5
  exact ⟨_, H1, I5, q1⟩
end

section
variable {X : Cx} {pos : Pos}
def tWhile (c : TT) (tb : TS) : TS := fun D σ H => ∃ W : Nat → St → Hp → Prop, (∃ m, W m σ H) ∧ ∀ m σ H, W m σ H →
  c σ H fun b H1 => if b = true then ∃ N : St → Hp → Prop, (∀ σ' H', N σ' H' → ∃ m', m' < m ∧ W m' σ' H') ∧ tb { D with nx := N, ct := N, bk := D.nx } σ H1 else D.nx σ H1
theorem ps_while {c : Expr} {body : List Stmt} {tc : TT} {tb : TS} (hp : PassesOwn (model X.prog X.w) X.A X.env X.xe) (hc : PT X c tc) (hb : PSs X body tb) : PS X (.While c body [] pos) (tWhile tc tb) := by
  intro pins s σ H D I h
  obtain ⟨W, ⟨m0, w0⟩, turn⟩ := h
  refine wpAny_While (codeAny_whileLoop (fun n s' => ∃ σ' H', Inv X pins σ' H' s' ∧ W n σ' H') ?_ m0 ⟨σ, H, I, w0⟩)
  rintro n s1 ⟨σ1, H1, I1, w1⟩
  refine wpAny_passesOwn hp (thn (hc pins s1 σ1 H1 _ I1 (turn n σ1 H1 w1)) fun b s2 ⟨H2, I2, q2⟩ => ?_)
  cases b with
  | true =>
    obtain ⟨N, hN, q2⟩ := q2
    rw [if_pos rfl]
    refine wpAny_passesOwn hp (thn (hb pins s2 σ1 H2 _ I2 q2) fun f s3 q3 => ?_)
    cases f with
    | next =>
      obtain ⟨σ3, H3, I3, n3⟩ := q3
      obtain ⟨m', hm, w3⟩ := hN σ3 H3 n3
      exact ⟨m', hm, σ3, H3, I3, w3⟩
    | cont =>
      obtain ⟨σ3, H3, I3, n3⟩ := q3
      obtain ⟨m', hm, w3⟩ := hN σ3 H3 n3
      exact ⟨m', hm, σ3, H3, I3, w3⟩
    | brk => exact q3
    | ret v => exact q3
  | false =>
    rw [if_neg Bool.false_ne_true]
    exact wpAny_execs_nil ⟨σ1, H2, I2, q2⟩
end

structure It where
  go : Nat → Hp → Prop
  yld : Nat → Hp → V → Hp → Prop
  stop : Nat → Hp → Prop
def FpOk (X : Cx) (pins : List (Addr × Obj)) (H : Hp) (b : Addr) : Prop :=
  H b = none ∧ b ≠ X.env.locals ∧ b ∉ X.fs ∧ (b ∈ X.ex ∨ X.s₀.heap.objs.size ≤ b) ∧ (∀ x c, X.env.cells.lookup x = some c → c ≠ b) ∧ ∀ p ∈ X.pn ++ pins, p.1 ≠ b
theorem Inv.fpOk {X : Cx} {pins : List (Addr × Obj)} {σ : St} {H H' : Hp} {s : Shared} {b : Addr} (I : Inv X pins σ H s) (hb : s.heap.objs.size ≤ b) (hn : H' b = none) : FpOk X pins H' b := by
  refine ⟨hn, Nat.ne_of_gt (Nat.lt_of_lt_of_le I.lt hb), I.nofs hb, .inr (Nat.le_trans I.sz hb), fun x c e z => ?_, fun p hp z => ?_⟩
  · obtain ⟨v, q⟩ := I.cell x c e
    exact absurd (Nat.lt_of_lt_of_le q.lt (by rw [z]; exact hb)) (Nat.lt_irrefl _)
  · exact absurd (Nat.lt_of_lt_of_le (Heap.lt_size (I.pin p hp).1) (by rw [z]; exact hb)) (Nat.lt_irrefl _)
structure Turn (P : Program) (w : World) (K : PySem.W.Frag) (tg : Expr) (J : It) (fp : List Addr) (it : Addr) (tn : Nat → Heap → Prop) : Prop where
  mem : it ∈ fp
  obj : ∀ i h, tn i h → ∀ b ∈ fp, ∃ o, h.get? b = some o ∧ ∀ v, o.data ≠ .cell v
  keep : ∀ i h h', tn i h → (∀ b ∈ fp, ∀ o, h.get? b = some o → h'.get? b = some o) → tn i h'
  item : ∀ (X : Cx), X.prog = P → X.w = w → X.K = K → X.calm = true → ∀ (i : Nat) (pins : List (Addr × Obj)) (s : Shared) (σ : St) (H : Hp) (E : Value → Shared → Prop), Inv X pins σ H s → (∀ b ∈ fp, FpOk X pins H b) → tn i s.heap → J.go i H →
    wpAny (model P w) X.A (pyNext (.ref it)) (fun r s1 => ∃ u, r = some u ∧
      wpAny (model P w) X.A (letOwnedTupleGo tg (.ref it) u) (fun _ s2 => ∃ x H', Inv X pins σ H' s2 ∧ RelV x u ∧ J.yld i H x H' ∧ tn (i + 1) s2.heap ∧ ∀ b ∈ fp, H' b = none) E s1) E s
  done : ∀ (X : Cx), X.prog = P → X.w = w → X.K = K → X.calm = true → ∀ (i : Nat) (pins : List (Addr × Obj)) (s : Shared) (σ : St) (H : Hp) (E : Value → Shared → Prop), Inv X pins σ H s → (∀ b ∈ fp, FpOk X pins H b) → tn i s.heap → J.stop i H →
    wpAny (model P w) X.A (pyNext (.ref it)) (fun r s1 => r = none ∧ Inv X pins σ H s1) E s
  self : ∀ (A : Around) (i : Nat) (s : Shared) (Q : Value → Shared → Prop) (E : Value → Shared → Prop), tn i s.heap → Q (.ref it) s → wpAny (model P w) A (pyIter (.ref it)) Q E s
abbrev TI := St → Hp → (It → Hp → Prop) → Prop
def PIE (X : Cx) (pins : List (Addr × Obj)) (σ : St) (tg : Expr) (R : It → Hp → Prop) (itv : Value) (s2 : Shared) : Prop :=
  ∃ (it : Addr) (fp : List Addr) (tn : Nat → Heap → Prop) (J : It) (H' : Hp), itv = .ref it ∧ Inv X pins σ H' s2 ∧ Turn X.prog X.w X.K tg J fp it tn ∧ tn 0 s2.heap ∧ (∀ b ∈ fp, FpOk X pins H' b) ∧ R J H'
def PI (X : Cx) (tg iter : Expr) (wi : TI) : Prop :=
  ∀ (pins : List (Addr × Obj)) (s : Shared) (σ : St) (H : Hp) (R : It → Hp → Prop), Inv X pins σ H s → wi σ H R →
    wpAny (model X.prog X.w) X.A (eval iter X.env) (fun v s1 => wpAny (model X.prog X.w) X.A (pyIter v) (PIE X pins σ tg R) X.xe s1) X.xe s

theorem go_of {M : Model} {A : Around} {E : Value → Shared → Prop} {s : Shared} {tg : Expr} {it : Addr} {u : Value} {o : Obj} {n : String} {vs : Array Value} {Q : Unit → Shared → Prop} (ho : s.heap.get? it = some o) (hc : o.cls = .type n) (hd : o.data = .fields vs)
    (hn : ["enumerate", "zip", "dict_itemiterator", "dict_reverseitemiterator", "odict_iterator", "itertools.zip_longest", "itertools.pairwise"].contains n = false) (hQ : Q () s) : wpAny M A (letOwnedTupleGo tg (.ref it) u) Q E s := by
  unfold letOwnedTupleGo
  cases tg <;> first
    | exact wpAny_pure hQ
    | (cases u <;> first
        | exact wpAny_pure hQ
        | (refine wpAny_bind (wpAny_load ho ?_)
           rw [hc, hd]
           show wpAny M A (if (["enumerate", "zip", "dict_itemiterator", "dict_reverseitemiterator", "odict_iterator", "itertools.zip_longest", "itertools.pairwise"].contains n && vs[0]? == some (rawInt _)) = true then _ else _) Q E s
           rw [if_neg (by intro h; rw [hn, Bool.false_and] at h; cases h)]
           exact wpAny_pure hQ))

def Itr (lo : Int) (n : Nat) : It := ⟨fun i _ => i < n, fun i H x H' => H' = H ∧ x = .int (lo + i), fun i _ => n ≤ i⟩
theorem turn_range {P : Program} {w : World} {K : PySem.W.Frag} {tg : Expr} (it : Addr) (lo : Int) (n : Nat) : Turn P w K tg (Itr lo n) [it] it (fun i h => IsRangeIter h it (lo + (i : Nat) * 1) ((n : Int) - (i : Nat)) 1) where
  mem := by simp
  obj := fun i h st b hb => by
    have e : b = it := by simpa using hb
    subst e
    exact ⟨_, st, fun v z => by
      have z' : Data.fields _ = Data.cell v := z
      cases z'⟩
  keep := fun i h h' st k => k it (by simp) _ st
  item := by
    intro X hP hw hK hc i pins s σ H E I hf st hg
    subst hP hw hK
    obtain ⟨f0, f1, f2, f3, f4, f5⟩ := hf it (by simp)
    have W := Walks.range (prog := X.prog) (w := X.w) (I.ok.hd hc) it lo 1 n
    refine W.item i s _ _ hg st fun v h' tk hv st' kk => ?_
    obtain ⟨t, rfl⟩ := hv
    have I1 : Inv X pins σ H { s with heap := h', toks := tk } := I.turned (fun b o hb e => kk b o (by simpa using hb) e) f0 f1 f3 f4 f5
    refine ⟨_, rfl, go_of (s := { s with heap := h', toks := tk }) (n := "range_iterator") st' rfl rfl (by decide) ⟨.int (lo + i), H, I1, ⟨t, ?_⟩, ⟨rfl, rfl⟩, st', fun b hb => (hf b hb).1⟩⟩
    rw [Int.mul_one]
  done := by
    intro X hP hw hK hc i pins s σ H E I hf st hg
    subst hP hw hK
    obtain ⟨f0, f1, f2, f3, f4, f5⟩ := hf it (by simp)
    exact wpAny_pyNext_range_end (I.ok.hd hc) st (by have : n ≤ i := hg; omega) fun h' eb => ⟨rfl, I.turned (t' := s.toks) (fun b o hb e => eb b o hb e) f0 f1 f3 f4 f5⟩
  self := fun _ _ _ _ _ st h => wpAny_pyIter_rangeiter st h
end L2

namespace L2
open PySem PySem.Spec PyProof.Rows
section
variable {X : Cx} {tg : Expr}
theorem range_it {pins : List (Addr × Obj)} {σ : St} {H : Hp} {s : Shared} {R : It → Hp → Prop} {E : Value → Shared → Prop} {lo hi : Int} {t u v : Tok} {tk : Nat} (I : Inv X pins σ H s) (h1 : -(2 ^ 62) ≤ lo) (h2 : lo < 2 ^ 62) (h3 : -(2 ^ 62) ≤ hi) (h4 : hi < 2 ^ 62)
    (q : R (Itr lo (hi - lo).toNat) H) : wpAny (model X.prog X.w) X.A (pyIter (.ref s.heap.objs.size)) (PIE X pins σ tg R) E { s with heap := s.heap.push { cls := .type "range", data := .fields #[.int lo t, .int hi u, .int 1 v] }, toks := tk } := by
  refine wpAny_pyIter_range (IsRange.new ..) (small_one h1 h2 h3 h4) ?_
  have I1 : Inv X pins σ H { s with heap := s.heap.push { cls := .type "range", data := .fields #[.int lo t, .int hi u, .int 1 v] }, toks := tk } := I.kept fun b o e => Heap.get?_push_of_some _ e
  refine ⟨(s.heap.push { cls := .type "range", data := .fields #[.int lo t, .int hi u, .int 1 v] }).objs.size, [(s.heap.push { cls := .type "range", data := .fields #[.int lo t, .int hi u, .int 1 v] }).objs.size], _, _, H, rfl,
    I1.kept (t' := tk) fun b o e => Heap.get?_push_of_some _ e, turn_range _ lo (hi - lo).toNat, ?_, fun b hb => ?_, q⟩
  · have e1 : lo + ((0 : Nat) : Int) * 1 = lo := by simp
    have e2 : (((hi - lo).toNat : Nat) : Int) - ((0 : Nat) : Int) = Builtin.Range.rangeSize lo hi 1 := by rw [rangeSize_one]; split <;> omega
    show IsRangeIter _ _ (lo + ((0 : Nat) : Int) * 1) ((((hi - lo).toNat : Nat) : Int) - ((0 : Nat) : Int)) 1
    rw [e1, e2]
    exact Heap.get?_push_size _ rfl
  · have e : b = (s.heap.push { cls := .type "range", data := .fields #[.int lo t, .int hi u, .int 1 v] }).objs.size := by simpa using hb
    subst e
    exact I1.fpOk (Nat.le_refl _) (I1.hok.fresh (Nat.le_refl _))
def iRng1 (ta : TA) : TI := fun σ H R => ta σ H fun vs H1 => ∃ j : Int, vs = [.int j] ∧ -(2 ^ 62) ≤ j ∧ j < 2 ^ 62 ∧ R (Itr 0 j.toNat) H1
theorem pi_range1 {a : Expr} {ta : TA} {p pos : Pos} (hg : Gl X "range") (hm : X.mg "range" = none) (ha : PA X [a] ta) (hs : starEach [a] X.env = [(false, eval a X.env)] := by rfl) : PI X tg (.Call (.Name "range" p) [a] [] pos) (iRng1 ta) := by
  intro pins s σ H R I h
  refine Call_ (ld_blt I hg hm boot_range (PyProof.Rows.callWith_type1 (thn (ha pos pins s σ H _ I h) fun us s1 ⟨vs, H1, I1, r1, q1⟩ => ?_) hs rfl))
  obtain ⟨j, e, q1, q2, q⟩ := q1
  subst e
  cases r1 with
  | cons r rr =>
    cases rr
    obtain ⟨t, rfl⟩ := r
    exact call_range_1 (range_it I1 (by omega) (by omega) q1 q2 (by simpa using q))

def tFor (wi : TI) (g : TG) (tb : TS) : TS := fun D σ H => wi σ H fun J H1 => ∃ W : Nat → Nat → St → Hp → Prop, (∃ m, W 0 m σ H1) ∧ ∀ i m σ H, W i m σ H →
  (J.stop i H ∧ D.nx σ H) ∨ (J.go i H ∧ ∃ N : St → Hp → Prop, (∀ σ' H', N σ' H' → ∃ m', m' < m ∧ W (i + 1) m' σ' H') ∧ ∀ x H', J.yld i H x H' → g x σ H' fun σ2 H2 => tb { D with nx := N, ct := N, bk := D.nx } σ2 H2)
def pinsAt (fp : List Addr) (h : Heap) : List (Addr × Obj) := fp.filterMap fun b => (h.get? b).map fun o => (b, o)
theorem mem_pinsAt {fp : List Addr} {h : Heap} {b : Addr} {o : Obj} (hb : b ∈ fp) (e : h.get? b = some o) : (b, o) ∈ pinsAt fp h := List.mem_filterMap.mpr ⟨b, hb, by rw [e]; rfl⟩
theorem of_pinsAt {fp : List Addr} {h : Heap} {p : Addr × Obj} (hp : p ∈ pinsAt fp h) : p.1 ∈ fp ∧ h.get? p.1 = some p.2 := by
  obtain ⟨b, hb, e⟩ := List.mem_filterMap.mp hp
  cases q : h.get? b with
  | none => rw [q] at e; cases e
  | some o =>
    rw [q] at e
    have e' : (b, o) = p := Option.some.inj e
    subst e'
    exact ⟨hb, q⟩
theorem Inv.pinned {pins : List (Addr × Obj)} {σ : St} {H : Hp} {s : Shared} {fp : List Addr} (I : Inv X pins σ H s) (hf : ∀ b ∈ fp, FpOk X pins H b) (ho : ∀ b ∈ fp, ∃ o, s.heap.get? b = some o ∧ ∀ v, o.data ≠ .cell v) : Inv X (pins ++ pinsAt fp s.heap) σ H s :=
  I.pins_of fun p hp => (List.mem_append.mp hp).elim (fun z => I.pin p (List.mem_append_right _ z)) fun z => by
    obtain ⟨hb, e⟩ := of_pinsAt z
    obtain ⟨f0, f1, f2, _⟩ := hf p.1 hb
    obtain ⟨o, e', d⟩ := ho p.1 hb
    rw [e] at e'; cases e'
    exact ⟨e, f0, f1, f2, d⟩
theorem Inv.unpinned {pins pl : List (Addr × Obj)} {σ : St} {H : Hp} {s : Shared} (I : Inv X (pins ++ pl) σ H s) : Inv X pins σ H s := I.pins_of fun p hp => I.pin p (List.mem_append_right _ (List.mem_append_left _ hp))
theorem ps_for {iter : Expr} {body : List Stmt} {wi : TI} {g : TG} {tb : TS} {pos : Pos} (hp : PassesOwn (model X.prog X.w) X.A X.env X.xe) (hc : X.calm = true) (hi : PI X tg iter wi) (hg : PG X tg g) (hb : PSs X body tb)
    (hs : ∀ x, foldedSetIterable iter X.env x = pure x := by intro _; rfl) : PS X (.For tg iter body [] pos) (tFor wi g tb) := by
  intro pins s σ H D I h
  refine wpAny_For (thn (hi pins s σ H _ I h) fun v s1 h1 => thn h1 fun itv s2 h2 => ?_) hs
  obtain ⟨it, fp, tn, J, H2, e, I2, T, st2, f2, W, ⟨m0, w0⟩, turn⟩ := h2
  subst e
  -- what stays true of the iterator's objects through the loop
  have stat : ∀ {H' : Hp}, (∀ b ∈ fp, H' b = none) → ∀ b ∈ fp, FpOk X pins H' b := fun hn b hb => ⟨hn b hb, (f2 b hb).2⟩
  refine codeAny_forLoop_any (fun n s' => ∃ i σ' H', Inv X pins σ' H' s' ∧ tn i s'.heap ∧ (∀ b ∈ fp, H' b = none) ∧ W i n σ' H') ?_ m0 ⟨0, σ, H2, I2, st2, fun b hb => (f2 b hb).1, w0⟩
  rintro n s3 ⟨i, σ3, H3, I3, st3, fr3, w3⟩
  rcases turn i n σ3 H3 w3 with ⟨stop, qn⟩ | ⟨go, N, hN, step⟩
  · refine wpAny_passesOwn hp (thn (T.done X rfl rfl rfl hc i pins s3 σ3 H3 X.xe I3 (stat fr3) st3 stop) fun r s4 ⟨hr, I4⟩ => ?_)
    subst hr
    exact wpAny_execs_nil ⟨σ3, H3, I4, qn⟩
  · refine wpAny_passesOwn hp (thn (T.item X rfl rfl rfl hc i pins s3 σ3 H3 X.xe I3 (stat fr3) st3 go) fun r s4 ⟨u, hr, h4⟩ => ?_)
    subst hr
    refine wpAny_passesOwn hp (thn h4 fun _ s5 ⟨x, H5, I5, r5, y5, st5, fr5⟩ => ?_)
    have I5' := I5.pinned (stat fr5) (T.obj _ _ st5)
    refine wpAny_passesOwn hp (thn (hg _ s5 σ3 H5 x u _ I5' r5 (step x H5 y5)) fun _ s6 ⟨σ6, H6, I6, q6⟩ => ?_)
    refine wpAny_passesOwn hp (thn (hb _ s6 σ6 H6 _ I6 q6) fun f s7 q7 => ?_)
    have again : ∀ {σ7 : St} {H7 : Hp}, Inv X (pins ++ pinsAt fp s5.heap) σ7 H7 s7 → N σ7 H7 → ∃ m, m < n ∧ ∃ i σ' H', Inv X pins σ' H' s7 ∧ tn i s7.heap ∧ (∀ b ∈ fp, H' b = none) ∧ W i m σ' H' := fun {σ7 H7} I7 n7 => by
      obtain ⟨m', hm, w7⟩ := hN σ7 H7 n7
      refine ⟨m', hm, i + 1, σ7, H7, I7.unpinned, T.keep _ _ _ st5 fun b hb o e => (I7.pin (b, o) (List.mem_append_right _ (List.mem_append_right _ (mem_pinsAt hb e)))).1, fun b hb => ?_, w7⟩
      obtain ⟨o, e, d⟩ := T.obj _ _ st5 b hb
      exact (I7.pin (b, o) (List.mem_append_right _ (List.mem_append_right _ (mem_pinsAt hb e)))).2.1
    cases f with
    | next => obtain ⟨σ7, H7, I7, n7⟩ := q7; exact again I7 n7
    | cont => obtain ⟨σ7, H7, I7, n7⟩ := q7; exact again I7 n7
    | brk => obtain ⟨σ7, H7, I7, q7⟩ := q7; exact ⟨σ7, H7, I7.unpinned, q7⟩
    | ret v => obtain ⟨x7, σ7, H7, I7, r7, q7⟩ := q7; exact ⟨x7, σ7, H7, I7.unpinned, r7, q7⟩
end

end L2

namespace L2
open PySem PySem.Spec PyProof.Rows

abbrev R2 := V → V → Hp → VK → Prop
def OpR (X : Cx) (f : Value → Value → Sem Value) (r : R2) : Prop :=
  ∀ (pins : List (Addr × Obj)) (s : Shared) (σ : St) (H : Hp) (x y : V) (v u : Value) (Q : VK), Inv X pins σ H s → RelV x v → RelV y u → r x y H Q →
    wpAny (model X.prog X.w) X.A (f v u) (EP X pins σ Q) X.xe s
def UnR (X : Cx) (f : Value → Sem Value) (r : V → Hp → VK → Prop) : Prop :=
  ∀ (pins : List (Addr × Obj)) (s : Shared) (σ : St) (H : Hp) (x : V) (v : Value) (Q : VK), Inv X pins σ H s → RelV x v → r x H Q →
    wpAny (model X.prog X.w) X.A (f v) (EP X pins σ Q) X.xe s
def CallR (X : Cx) (f : Value) (r : List V → Hp → VK → Prop) : Prop :=
  ∀ (pins : List (Addr × Obj)) (s : Shared) (σ : St) (H : Hp) (xs : List V) (us : List Value) (Q : VK), Inv X pins σ H s → Vals xs us → r xs H Q →
    wpAny (model X.prog X.w) X.A (call f us) (EP X pins σ Q) X.xe s

def tOp (r : R2) (ta tb : TE) : TE := fun σ H Q => ta σ H fun x H1 => tb σ H1 fun y H2 => r x y H2 Q
def tUn (r : V → Hp → VK → Prop) (ta : TE) : TE := fun σ H Q => ta σ H fun x H1 => r x H1 Q
def rI (C : Int → Int → Prop) (g : Int → Int → V) : R2 := fun x y H Q => ∃ i j, x = .int i ∧ y = .int j ∧ C i j ∧ Q (g i j) H
def rI0 (g : Int → Int → V) : R2 := fun x y H Q => ∃ i j, x = .int i ∧ y = .int j ∧ Q (g i j) H
def rU (g : Int → V) : V → Hp → VK → Prop := fun x H Q => ∃ i, x = .int i ∧ Q (g i) H

section
variable {X : Cx} {a b c : Expr} {ta tb tc : TE} {pos : Pos}

theorem binT (ha : PE X a ta) (hb : PE X b tb) {pins : List (Addr × Obj)} {s : Shared} {σ : St} {H : Hp} {R : V → V → Hp → Prop} (I : Inv X pins σ H s)
    (h : ta σ H fun x H1 => tb σ H1 fun y H2 => R x y H2) {Q : Value → Shared → Prop} {f : Value → Value → Sem Value}
    (hf : ∀ v u s2 x y H2, Inv X pins σ H2 s2 → RelV x v → RelV y u → R x y H2 → wpAny (model X.prog X.w) X.A (f v u) Q X.xe s2) :
    wpAny (model X.prog X.w) X.A (eval a X.env) (fun v s₁ => wpAny (model X.prog X.w) X.A (eval b X.env) (fun u s₂ => wpAny (model X.prog X.w) X.A (f v u) Q X.xe s₂) X.xe s₁) X.xe s := by
  refine thn (ha pins s σ H _ I h) fun v s1 ⟨x, H1, I1, r1, q1⟩ => ?_
  refine thn (hb pins s1 σ H1 _ I1 q1) fun u s2 ⟨y, H2, I2, r2, q2⟩ => ?_
  exact hf v u s2 x y H2 I2 r1 r2 q2

theorem pe_op {op : Operator} {r : R2} (ho : OpR X (binaryOp op) r) (ha : PE X a ta) (hb : PE X b tb) : PE X (.BinOp a op b pos) (tOp r ta tb) := by
  intro pins s σ H Q I h
  exact wpAny_BinOp (binT ha hb I h fun v u s2 x y H2 I2 rx ry q => ho pins s2 σ H2 x y v u Q I2 rx ry q)
theorem pe_un {op : UnaryOp} {r : V → Hp → VK → Prop} (ho : UnR X (unaryOp op) r) (ha : PE X a ta) : PE X (.UnaryOp op a pos) (tUn r ta) := by
  intro pins s σ H Q I h
  exact UnaryOp_ (thn (ha pins s σ H _ I h) fun v s1 ⟨x, H1, I1, r1, q1⟩ => ho pins s1 σ H1 x v Q I1 r1 q1)

theorem opI {f : Value → Value → Sem Value} {C : Int → Int → Prop} {g : Int → Int → Int}
    (rule : ∀ (i j : Int) (t u : Tok) (s : Shared) (Q : Value → Shared → Prop) (E : Value → Shared → Prop), C i j → Q (.int (g i j) s.toks) { s with toks := s.toks + 1 } → wpAny (model X.prog X.w) X.A (f (.int i t) (.int j u)) Q E s) :
    OpR X f (rI C fun i j => .int (g i j)) := by
  intro pins s σ H x y v u Q I rx ry h
  obtain ⟨i, j, rfl, rfl, hc, q⟩ := h
  obtain ⟨t, rfl⟩ := rx
  obtain ⟨t', rfl⟩ := ry
  exact rule i j t t' s _ _ hc ⟨.int (g i j), H, I.tok _, ⟨_, rfl⟩, q⟩
theorem opI0 {f : Value → Value → Sem Value} {g : Int → Int → Int}
    (rule : ∀ (i j : Int) (t u : Tok) (s : Shared) (Q : Value → Shared → Prop) (E : Value → Shared → Prop), Q (.int (g i j) s.toks) { s with toks := s.toks + 1 } → wpAny (model X.prog X.w) X.A (f (.int i t) (.int j u)) Q E s) :
    OpR X f (rI0 fun i j => .int (g i j)) := by
  intro pins s σ H x y v u Q I rx ry h
  obtain ⟨i, j, rfl, rfl, q⟩ := h
  obtain ⟨t, rfl⟩ := rx
  obtain ⟨t', rfl⟩ := ry
  exact rule i j t t' s _ _ ⟨.int (g i j), H, I.tok _, ⟨_, rfl⟩, q⟩
theorem opB0 {f : Value → Value → Sem Value} {g : Int → Int → Bool}
    (rule : ∀ (i j : Int) (t u : Tok) (s : Shared) (Q : Value → Shared → Prop) (E : Value → Shared → Prop), Q (.bool (g i j)) s → wpAny (model X.prog X.w) X.A (f (.int i t) (.int j u)) Q E s) :
    OpR X f (rI0 fun i j => .bl (g i j)) := by
  intro pins s σ H x y v u Q I rx ry h
  obtain ⟨i, j, rfl, rfl, q⟩ := h
  obtain ⟨t, rfl⟩ := rx
  obtain ⟨t', rfl⟩ := ry
  exact rule i j t t' s _ _ ⟨.bl (g i j), H, I, rfl, q⟩

def CPow (i j : Int) : Prop := 0 ≤ j ∧ j ≤ 1000000 ∧ i.natAbs < 2 ^ 64
def CMul (i j : Int) : Prop := (-(2 ^ 64) < i ∧ i < 2 ^ 64) ∨ (-(2 ^ 64) < j ∧ j < 2 ^ 64)
theorem CMul.ok {i j : Int} (h : CMul i j) : IntMulOk i j := by
  rcases h with ⟨h1, h2⟩ | ⟨h1, h2⟩
  · exact .of_left (intBits_le_64 h1 h2)
  · exact .of_right (intBits_le_64 h1 h2)

theorem op_add : OpR X (binaryOp .Add) (rI0 fun i j => .int (i + j)) := opI0 fun _ _ _ _ _ _ _ q => add_int q
theorem op_sub : OpR X (binaryOp .Sub) (rI0 fun i j => .int (i - j)) := opI0 fun _ _ _ _ _ _ _ q => sub_int q
theorem op_mul : OpR X (binaryOp .Mult) (rI CMul fun i j => .int (i * j)) := opI fun _ _ _ _ _ _ _ hc q => mul_int q hc.ok
theorem op_modN : OpR X (binaryOp .Mod) (rI (fun _ j => j ≠ 0) fun i j => .int (i.fmod j)) := opI fun _ _ _ _ _ _ _ hc q => mod_int' hc q
theorem op_pow : OpR X (binaryOp .Pow) (rI CPow fun i j => .int (i ^ j.toNat)) := opI fun _ _ _ _ _ _ _ hc q => pow_int_small hc.1 hc.2.1 hc.2.2 q


theorem unI {f : Value → Sem Value} {g : Int → Int}
    (rule : ∀ (i : Int) (t : Tok) (s : Shared) (Q : Value → Shared → Prop) (E : Value → Shared → Prop), Q (.int (g i) s.toks) { s with toks := s.toks + 1 } → wpAny (model X.prog X.w) X.A (f (.int i t)) Q E s) :
    UnR X f (rU fun i => .int (g i)) := by
  intro pins s σ H x v Q I rx h
  obtain ⟨i, rfl, q⟩ := h
  obtain ⟨t, rfl⟩ := rx
  exact rule i t s _ _ ⟨.int (g i), H, I.tok _, ⟨_, rfl⟩, q⟩
theorem un_neg : UnR X (unaryOp .USub) (rU fun i => .int (-i)) := unI fun _ _ _ _ _ q => neg_int q

end

def scal : V → V → Bool
  | .non, .non => true | .non, .int _ => true | .int _, .non => true | .non, .bl _ => true | .bl _, .non => true | .non, .str _ => true | .str _, .non => true
  | .int _, .int _ => true | .bl _, .bl _ => true | .str _, .str _ => true | .byt _, .byt _ => true
  | .int _, .str _ => true | .str _, .int _ => true | .bl _, .str _ => true | .str _, .bl _ => true
  | _, _ => false
def rEq : R2 := fun x y H Q => scal x y = true ∧ Q (.bl (decide (x = y))) H
def rNe : R2 := fun x y H Q => scal x y = true ∧ Q (.bl (!decide (x = y))) H

theorem dec_int {i j : Int} : decide (V.int i = V.int j) = (i == j) := by
  rw [Bool.eq_iff_iff]
  simp
theorem dec_bl {i j : Bool} : decide (V.bl i = V.bl j) = (i == j) := by
  rw [Bool.eq_iff_iff]
  simp
theorem dec_str {i j : Str} : decide (V.str i = V.str j) = (i == j) := by
  rw [Bool.eq_iff_iff]
  simp
theorem dec_byt {i j : Array UInt8} : decide (V.byt i = V.byt j) = (i.toList == j.toList) := by
  rw [Bool.eq_iff_iff]
  cases i
  cases j
  simp

section
variable {X : Cx} {a b c : Expr} {ta tb tc : TE} {pos : Pos}
theorem fin_bl {pins : List (Addr × Obj)} {σ : St} {H : Hp} {s : Shared} {Q : VK} {k k' : Bool} (I : Inv X pins σ H s) (q : Q (.bl k) H) (e : k = k') : EP X pins σ Q (.bool k') s := by
  subst e
  exact ⟨.bl k, H, I, rfl, q⟩
theorem op_eq : OpR X (compareOp .Eq) rEq := by
  intro pins s σ H x y v u Q I rx ry h
  obtain ⟨hs, q⟩ := h
  cases x with
  | non =>
    cases rx
    cases y with
    | non => cases ry; exact PySem.EqNone.eq_none_none (fin_bl I q (by simp))
    | bl j => cases ry; exact PySem.EqNone.eq_none_bool (fin_bl I q (by simp))
    | int j => obtain ⟨t', rfl⟩ := ry; exact PySem.EqNone.eq_none_int (fin_bl I q (by simp))
    | str j => obtain ⟨t', rfl⟩ := ry; exact PySem.EqNone.eq_none_str (fin_bl I q (by simp))
    | _ => exact absurd (show false = true from hs) Bool.false_ne_true
  | bl i =>
    cases rx
    cases y with
    | non => cases ry; exact PySem.EqNone.eq_bool_none (fin_bl I q (by simp))
    | bl j => cases ry; exact eq_bool (fin_bl I q dec_bl)
    | str j => obtain ⟨t', rfl⟩ := ry; exact PySem.EqMixed.eq_bool_str (fin_bl I q (by simp))
    | _ => exact absurd (show false = true from hs) Bool.false_ne_true
  | int i =>
    obtain ⟨t, rfl⟩ := rx
    cases y with
    | non => cases ry; exact PySem.EqNone.eq_int_none (fin_bl I q (by simp))
    | int j => obtain ⟨t', rfl⟩ := ry; exact eq_int (fin_bl I q dec_int)
    | str j => obtain ⟨t', rfl⟩ := ry; exact PySem.EqMixed.eq_int_str (fin_bl I q (by simp))
    | _ => exact absurd (show false = true from hs) Bool.false_ne_true
  | str i =>
    obtain ⟨t, rfl⟩ := rx
    cases y with
    | non => cases ry; exact PySem.EqNone.eq_str_none (fin_bl I q (by simp))
    | bl j => cases ry; exact PySem.EqMixed.eq_str_bool (fin_bl I q (by simp))
    | int j => obtain ⟨t', rfl⟩ := ry; exact PySem.EqMixed.eq_str_int (fin_bl I q (by simp))
    | str j => obtain ⟨t', rfl⟩ := ry; exact eq_str (fin_bl I q dec_str)
    | _ => exact absurd (show false = true from hs) Bool.false_ne_true
  | byt i =>
    obtain ⟨t, rfl⟩ := rx
    cases y with
    | byt j => obtain ⟨t', rfl⟩ := ry; exact PySem.W.eq_bytes (fin_bl I q dec_byt)
    | _ => exact absurd (show false = true from hs) Bool.false_ne_true
  | _ => cases y <;> exact absurd (show false = true from hs) Bool.false_ne_true
theorem op_ne : OpR X (compareOp .NotEq) rNe := by
  intro pins s σ H x y v u Q I rx ry h
  obtain ⟨hs, q⟩ := h
  cases x with
  | non =>
    cases rx
    cases y with
    | non => cases ry; exact PySem.EqNone.ne_none_none (fin_bl I q (by simp))
    | bl j => cases ry; exact PySem.EqNone.ne_none_bool (fin_bl I q (by simp))
    | int j => obtain ⟨t', rfl⟩ := ry; exact PySem.EqNone.ne_none_int (fin_bl I q (by simp))
    | str j => obtain ⟨t', rfl⟩ := ry; exact PySem.EqNone.ne_none_str (fin_bl I q (by simp))
    | _ => exact absurd (show false = true from hs) Bool.false_ne_true
  | bl i =>
    cases rx
    cases y with
    | non => cases ry; exact PySem.EqNone.ne_bool_none (fin_bl I q (by simp))
    | bl j => cases ry; exact ne_bool (fin_bl I q (congrArg not dec_bl))
    | str j => obtain ⟨t', rfl⟩ := ry; exact PySem.EqMixed.ne_bool_str (fin_bl I q (by simp))
    | _ => exact absurd (show false = true from hs) Bool.false_ne_true
  | int i =>
    obtain ⟨t, rfl⟩ := rx
    cases y with
    | non => cases ry; exact PySem.EqNone.ne_int_none (fin_bl I q (by simp))
    | int j => obtain ⟨t', rfl⟩ := ry; exact ne_int (fin_bl I q (congrArg not dec_int))
    | str j => obtain ⟨t', rfl⟩ := ry; exact PySem.EqMixed.ne_int_str (fin_bl I q (by simp))
    | _ => exact absurd (show false = true from hs) Bool.false_ne_true
  | str i =>
    obtain ⟨t, rfl⟩ := rx
    cases y with
    | non => cases ry; exact PySem.EqNone.ne_str_none (fin_bl I q (by simp))
    | bl j => cases ry; exact PySem.EqMixed.ne_str_bool (fin_bl I q (by simp))
    | int j => obtain ⟨t', rfl⟩ := ry; exact PySem.EqMixed.ne_str_int (fin_bl I q (by simp))
    | str j => obtain ⟨t', rfl⟩ := ry; exact ne_str (fin_bl I q (congrArg not dec_str))
    | _ => exact absurd (show false = true from hs) Bool.false_ne_true
  | byt i =>
    obtain ⟨t, rfl⟩ := rx
    cases y with
    | byt j => obtain ⟨t', rfl⟩ := ry; exact PySem.W.ne_bytes (fin_bl I q (congrArg not dec_byt))
    | _ => exact absurd (show false = true from hs) Bool.false_ne_true
  | _ => cases y <;> exact absurd (show false = true from hs) Bool.false_ne_true

theorem op_lt : OpR X (compareOp .Lt) (rI0 fun i j => .bl (decide (i < j))) := opB0 fun _ _ _ _ _ _ _ q => lt_int q
theorem op_le : OpR X (compareOp .LtE) (rI0 fun i j => .bl (decide (i ≤ j))) := opB0 fun _ _ _ _ _ _ _ q => le_int q
theorem op_gt : OpR X (compareOp .Gt) (rI0 fun i j => .bl (decide (j < i))) := opB0 fun _ _ _ _ _ _ _ q => gt_int q
theorem op_ge : OpR X (compareOp .GtE) (rI0 fun i j => .bl (decide (j ≤ i))) := opB0 fun _ _ _ _ _ _ _ q => ge_int q
theorem op_in_str : OpR X (compareOp .In) (fun x y H Q => ∃ i j, x = .str i ∧ y = .str j ∧ Q (.bl (!(Builtin.Str.occurrences j i 0 j.length 1).isEmpty)) H) := by
  intro pins s σ H x y v u Q I rx ry h
  obtain ⟨i, j, rfl, rfl, q⟩ := h
  obtain ⟨t, rfl⟩ := rx
  obtain ⟨t', rfl⟩ := ry
  exact in_str (fin_bl I q rfl)

theorem op_isN : OpR X (compareOp .Is) (fun x y H Q => y = .non ∧ Q (.bl (decide (x = .non))) H) := by
  intro pins s σ H x y v u Q I rx ry h
  obtain ⟨rfl, q⟩ := h
  cases ry
  refine is_none_gen (fin_bl I q ?_)
  cases x <;> first
    | (cases rx; rfl)
    | (obtain ⟨t, rfl⟩ := rx; rfl)

theorem op_notin_str : OpR X (compareOp .NotIn) (fun x y H Q => ∃ i j, x = .str i ∧ y = .str j ∧ Q (.bl (!(!(Builtin.Str.occurrences j i 0 j.length 1).isEmpty))) H) := by
  intro pins s σ H x y v u Q I rx ry h
  obtain ⟨i, j, rfl, rfl, q⟩ := h
  obtain ⟨t, rfl⟩ := rx
  obtain ⟨t', rfl⟩ := ry
  exact notIn_str (fin_bl I q rfl)

theorem OpR.or {f : Value → Value → Sem Value} {r r' : R2} (h : OpR X f r) (h' : OpR X f r') : OpR X f (fun x y H Q => r x y H Q ∨ r' x y H Q) := by
  intro pins s σ H x y v u Q I rx ry q
  rcases q with q | q
  · exact h pins s σ H x y v u Q I rx ry q
  · exact h' pins s σ H x y v u Q I rx ry q

theorem nomark (b : Expr) {op : CmpOp} (h : op ≠ .In := by decide) (h2 : op ≠ .NotIn := by decide) : behindInMarks op b = false := by
  have e1 : (op == CmpOp.In) = false := by cases op <;> first | rfl | exact absurd rfl h
  have e2 : (op == CmpOp.NotIn) = false := by cases op <;> first | rfl | exact absurd rfl h2
  cases b <;> simp [behindInMarks, e1, e2]
theorem pe_cmpR {op : CmpOp} {r : R2} (ho : OpR X (compareOp op) r) (ha : PE X a ta) (hb : PE X b tb) (hm : behindInMarks op b = false) : PE X (.Compare a [op] [b] pos) (tOp r ta tb) := by
  intro pins s σ H Q I h
  exact wpAny_Compare1 (binT ha hb I h fun v u s2 x y H2 I2 rx ry q => ho pins s2 σ H2 x y v u Q I2 rx ry q) hm
def tTest (t : TE) : TT := fun σ H Q => t σ H fun x H' => ∃ k, x = .bl k ∧ Q k H'
theorem pt_cmpR {op : CmpOp} {r : R2} (ho : OpR X (compareOp op) r) (ha : PE X a ta) (hb : PE X b tb) (hm : behindInMarks op b = false) : PT X (.Compare a [op] [b] pos) (tTest (tOp r ta tb)) := by
  intro pins s σ H Q I h
  refine wpAny_isTrue_Compare1 (thn (ha pins s σ H _ I h) fun v s1 ⟨x, H1, I1, r1, q1⟩ => thn (hb pins s1 σ H1 _ I1 q1) fun u s2 ⟨y, H2, I2, r2, q2⟩ =>
    thn (ho pins s2 σ H2 x y v u _ I2 r1 r2 q2) fun c s3 ⟨z, H3, I3, r3, k, e, q3⟩ => ?_) hm
  subst e
  cases r3
  exact wpAny_truthy_bool ⟨H3, I3, q3⟩
def tChain (r r' : R2) (ta tb tc : TE) : TE := fun σ H Q => ta σ H fun x H1 => tb σ H1 fun y H2 => r x y H2 fun z H3 => ∃ k, z = .bl k ∧
  (if k = true then tc σ H3 fun w' H4 => r' y w' H4 Q else Q (.bl false) H3)
theorem pe_chain {op op' : CmpOp} {r r' : R2} (ho : OpR X (compareOp op) r) (ho' : OpR X (compareOp op') r') (ha : PE X a ta) (hb : PE X b tb) (hc : PE X c tc)
    (hm : lastMarks [op, op'] [b, c] = false := by with_unfolding_all rfl) : PE X (.Compare a [op, op'] [b, c] pos) (tChain r r' ta tb tc) := by
  intro pins s σ H Q I h
  refine Compare_chain (thn (ha pins s σ H _ I h) fun v s1 ⟨x, H1, I1, r1, q1⟩ => chain_link (thn (hb pins s1 σ H1 _ I1 q1) fun u s2 ⟨y, H2, I2, r2, q2⟩ =>
    thn (ho pins s2 σ H2 x y v u _ I2 r1 r2 q2) fun d s3 ⟨z, H3, I3, r3, k, e, q3⟩ => ?_)) hm
  subst e
  cases r3
  refine wpAny_truthy_bool ?_
  cases k with
  | false => exact ite_ff ⟨.bl false, H3, I3, rfl, q3⟩
  | true => exact ite_tt (chain_last (thn (hc pins s3 σ H3 _ I3 q3) fun w' s4 ⟨z', H4, I4, r4, q4⟩ => ho' pins s4 σ H4 y z' u w' Q I4 r2 r4 q4))

theorem line63 : (sizeLine : Nat) < 2 ^ 63 := by rw [sizeLine_eq]; decide

theorem op_add_str : OpR X (binaryOp .Add) (fun x y H Q => ∃ i j, x = .str i ∧ y = .str j ∧ i.length + j.length ≤ sizeLine ∧ Q (.str (i ++ j)) H) := by
  intro pins s σ H x y v u Q I rx ry h
  obtain ⟨i, j, rfl, rfl, hz, q⟩ := h
  obtain ⟨t, rfl⟩ := rx
  obtain ⟨t', rfl⟩ := ry
  exact add_str (fun t' tk => ⟨.str (i ++ j), H, I.tok _, ⟨_, rfl⟩, q⟩) hz


theorem vals1 {x : V} {us : List Value} (r : Vals [x] us) : ∃ u, us = [u] ∧ RelV x u := by
  cases r with
  | cons r1 r2 => cases r2; exact ⟨_, rfl, r1⟩
theorem call_abs : CallR X (.builtin "abs") (fun xs H Q => ∃ i, xs = [.int i] ∧ Q (.int (if i < 0 then -i else i)) H) := by
  intro pins s σ H xs us Q I r h
  obtain ⟨i, rfl, q⟩ := h
  obtain ⟨u, rfl, t, rfl⟩ := vals1 r
  exact call_abs_int fun u tk => ⟨.int (if i < 0 then -i else i), H, I.tok _, ⟨_, rfl⟩, q⟩
theorem call_str_int : CallR X (.type "str") (fun xs H Q => ∃ i, xs = [.int i] ∧ i.natAbs.log2 < 1920 ∧ Q (.str (toString i)) H) := by
  intro pins s σ H xs us Q I r h
  obtain ⟨i, rfl, hz, q⟩ := h
  obtain ⟨u, rfl, t, rfl⟩ := vals1 r
  exact PySem.P.str_of_int hz ⟨.str _, H, I.tok _, ⟨_, rfl⟩, q⟩
def LenV (K : PySem.W.Frag) (x : V) (H : Hp) (n : Nat) : Prop :=
  match x with
  | .str y => y.length ≤ sizeLine ∧ n = y.length
  | .byt y => y.size ≤ sizeLine ∧ n = y.size
  | .ref p => (∃ xs, SqL K H p xs ∧ n = xs.length) ∨ ∃ xs, SqT K H p xs ∧ n = xs.length
  | _ => False
theorem call_len : CallR X (.builtin "len") (fun xs H Q => ∃ x n, xs = [x] ∧ LenV X.K x H n ∧ Q (.int n) H) := by
  intro pins s σ H xs us Q I r h
  obtain ⟨x, n, rfl, e, q⟩ := h
  obtain ⟨u, rfl, rx⟩ := vals1 r
  have hl := line63
  have hs : sizeLine = 16777216 := sizeLine_eq
  cases x with
  | str y =>
    obtain ⟨t, rfl⟩ := rx
    obtain ⟨hy, e'⟩ : y.length ≤ sizeLine ∧ n = y.length := e
    subst e'
    exact len_str (by omega) ⟨.int _, H, I.tok _, ⟨_, rfl⟩, q⟩
  | byt y =>
    obtain ⟨t, rfl⟩ := rx
    obtain ⟨hy, e'⟩ : y.size ≤ sizeLine ∧ n = y.size := e
    subst e'
    exact PySem.W.len_bytes (by omega) ⟨.int _, H, I.tok _, ⟨_, rfl⟩, q⟩
  | ref p =>
    cases rx
    have e' : (∃ xs, SqL X.K H p xs ∧ n = xs.length) ∨ ∃ xs, SqT X.K H p xs ∧ n = xs.length := e
    rcases e' with ⟨xs, hx, e'⟩ | ⟨xs, hx, e'⟩
    · subst e'
      obtain ⟨its, r', pl, hz⟩ := I.list hx
      have hlen := r'.length
      exact Calls.call_len_list pl.isList (by simp only [List.size_toArray]; omega) ⟨.int xs.length, H, I.tok _, ⟨_, by simp only [List.size_toArray]; rw [hlen]⟩, q⟩
    · subst e'
      obtain ⟨its, r', pl, hz⟩ := I.tuple hx
      have hlen := r'.length
      exact len_tuple pl (by simp only [List.size_toArray]; omega) ⟨.int xs.length, H, I.tok _, ⟨_, by simp only [List.size_toArray]; rw [hlen]⟩, q⟩
  | _ => exact (show False from e).elim
end
end L2

namespace L2
open PySem PySem.Spec PyProof.Rows

structure ObjM (h : Heap) (x dx C : Addr) (mA : Str → Option Value) : Prop where
  obj : h.get? x = some (PySem.W.instObj C dx)
  ns : h.Ns1 dx mA
  ne : dx ≠ x

theorem lookIn_ns {h : Heap} {dx : Addr} {mA : Str → Option Value} (n : h.Ns1 dx mA) : ∃ od, h.get? dx = some od ∧ ∀ name, PySem.W.lookIn name od = some (mA name) := by
  obtain ⟨o, es, ep, ho, hd, hk, _, hm⟩ := n
  refine ⟨o, ho, fun name => ?_⟩
  have e := hm name
  unfold nsFind findBy at e
  rw [← Array.find?_toList] at e
  unfold PySem.W.lookIn
  rw [hd]
  dsimp only
  split
  · rename_i y q
    rw [q] at e
    exact congrArg some e
  · rename_i q
    rw [q] at e
    have a : es.toList.any (·.refKey) = false := by
      rw [List.any_eq_false]
      intro y hy
      obtain ⟨z, t, hkey⟩ := hk y (Array.mem_toList_iff.mp hy)
      simp [DictEntry.refKey, hkey]
    have a' : ¬ es.toList.any (·.refKey) = true := by rw [a]; exact Bool.false_ne_true
    rw [if_neg a']
    exact congrArg some e

theorem ObjM.look {h : Heap} {x dx C : Addr} {mA : Str → Option Value} (I : ObjM h x dx C mA) : ∃ od, PySem.W.InstAt h x (PySem.W.instObj C dx) C (some od) ∧ ∀ name, PySem.W.lookIn name od = some (mA name) :=
  let ⟨od, ho, hl⟩ := lookIn_ns I.ns
  ⟨od, ⟨I.obj, rfl, rfl, ho⟩, hl⟩

section
variable {prog : Program} {w : World} {A : Around} {E : Value → Shared → Prop} {s : Shared} {K : PySem.W.Frag} {x dx C f : Addr} {mA : Str → Option Value} {name : Str} {v : Value}

theorem get_map {expr : Bool} {Q : Value → Shared → Prop} (X : K.In s.heap) (I : ObjM s.heap x dx C mA) (hg : PySem.W.plainGet K C name = true) (hh : PySem.W.hasDictIn K C = true)
    (ha : PySem.W.findIn K (.ref C) name = some none) (hv : mA name = some v) (hv' : PySem.W.handedIn v = true) (h : Q v { s with toks := s.toks + 1 }) :
    wpAny (model prog w) A (getAttr (.ref x) name expr) Q E s := by
  obtain ⟨od, J, hl⟩ := I.look
  exact PySem.W.get_value X J (PySem.W.plainGet_of hg).1 (PySem.W.findObj_own hh ha rfl (by rw [hl, hv])) hv' h


theorem get_meth {pl : Sem Bool} {Q : Value × List Value → Shared → Prop} (X : K.In s.heap) (I : ObjM s.heap x dx C mA) (hg : PySem.W.plainGet K C name = true)
    (hf : PySem.W.findIn K (.ref C) name = some (some (.ref f))) (ht : PySem.W.isFn K (.ref f) = true) (hv : mA name = none) (h : Q (.ref f, [.ref x]) s) :
    wpAny (model prog w) A (getMethod (.ref x) name pl) Q E s := by
  obtain ⟨od, J, hl⟩ := I.look
  exact PySem.W.method_fn X J (PySem.W.plainGet_of hg).1 (PySem.W.plainGet_of hg).2 hf (beq_iff_eq.mp ht) (by show (PySem.W.lookIn name od).map (·.isSome) = some false; rw [hl, hv]; rfl) h

theorem set_map {ns : List Str} {Q : Unit → Shared → Prop} (X : K.In s.heap) (I : ObjM s.heap x dx C mA)
    (hs : PySem.W.findIn K (.ref C) "__setattr__" = some (some (.builtin "object.__setattr__"))) (hp : PySem.W.plainOver K C = true) (ht : PySem.W.takerIn K C name = some none) (hh : PySem.W.hasDictIn K C = true)
    (hw : PySem.Within mA ns) (hsz : ns.length ≤ sizeLine)
    (h : ∀ h', ObjM h' x dx C (fun y => if y = name then some v else mA y) → Heap.SameBut dx s.heap h' → Q () { s with heap := h', toks := s.toks + 2 }) :
    wpAny (model prog w) A (setAttr (.ref x) name v) Q E s := by
  obtain ⟨od, J, hl⟩ := I.look
  refine PySem.W.set_plain X J hs (PySem.W.osa_open (s := { s with toks := s.toks + 1 }) (r := none) X J hp ht fun b => ?_)
  obtain ⟨cd, hc, hd'⟩ := PySem.W.any_some hh
  have hx : s.heap.get? x = some ⟨.ref C, some dx, .plain, #[]⟩ := I.obj
  refine wpAny_bind (wpAny_pure (wpAny_bind (wpAny_bind (wpAny_loadPart hx (wpAny_bind (PySem.W.Looks.here (s := { s with toks := s.toks + 1 }) (PySem.W.looks_clsIn X hc) ?_))))))
  rw [hd']
  refine wpAny_pure (a := some dx) (wpAny_bind (wpAny_pure (wpAny_bind ?_)))
  refine wpAny_nsSet1 (s := { s with toks := s.toks + 1 }) I.ns fun h' hn2 hs2 => ?_
  obtain ⟨oD, esD, epD, hoD, hdD, hcD⟩ := hn2.count (PySem.Within.cons name v hw)
  refine wpAny_bind (wpAny_lookBehind hoD (by rw [hdD]; exact pastItsLine_dict (Nat.le_trans hcD (by rw [List.length_cons]; omega))) ?_)
  exact wpAny_pure (h _ ⟨(hs2.2 _ (Ne.symm I.ne)).trans I.obj, hn2, I.ne⟩ hs2)

theorem make_map {R : Result → Shared → Prop} {vs : List Value} {kw : List (Str × Value)} (X : K.In s.heap) (hm : PySem.W.makesIn K C = true)
    (hi : PySem.W.findIn K (.ref C) "__init__" = some (some (.ref f))) (hf : PySem.W.typeIn K (.ref f) = some (.type "function"))
    (h : codeAny (model prog w) (A.under (.builtin "type.__call__" ⟨.ref C :: vs, kw⟩)) (.call (.ref f) ⟨.ref (s.heap.objs.size + 1) :: vs, kw⟩) (PySem.W.InitBack (s.heap.objs.size + 1) R)
      { s with heap := (s.heap.push PySem.W.emptyDict).push (PySem.W.instObj C s.heap.objs.size) }) :
    codeAny (model prog w) A (.call (.ref C) ⟨vs, kw⟩) R s := by
  obtain ⟨hh, g, d, t, os⟩ := s
  exact PySem.W.make_core (PySem.W.makes_of X hm) (PySem.W.looks_findIn X hi) (fun self => PySem.W.bind_fn X self hf) (.inl rfl) h
theorem make_map0 {R : Result → Shared → Prop} (X : K.In s.heap) (hm : PySem.W.makesIn K C = true)
    (hi : PySem.W.findIn K (.ref C) "__init__" = some (some (.builtin "object.__init__")))
    (hb : ∀ self, PySem.W.Looks (model prog w) s.heap (bindSpecial (.builtin "object.__init__") self) (.builtin "object.__init__", [self]))
    (h : codeAny (model prog w) (A.under (.builtin "type.__call__" ⟨[.ref C], []⟩)) (.call (.builtin "object.__init__") ⟨[.ref (s.heap.objs.size + 1)], []⟩) (PySem.W.InitBack (s.heap.objs.size + 1) R)
      { s with heap := (s.heap.push PySem.W.emptyDict).push (PySem.W.instObj C s.heap.objs.size) }) :
    codeAny (model prog w) A (.call (.ref C) ⟨[], []⟩) R s := by
  obtain ⟨hh, g, d, t, os⟩ := s
  exact PySem.W.make_core (PySem.W.makes_of X hm) (PySem.W.looks_findIn X hi) hb (.inr ⟨rfl, rfl⟩) h
end

def putF (f : Str) (v : V) : List (Str × V) → List (Str × V)
  | [] => [(f, v)]
  | (g, x) :: r => if g = f then (g, v) :: r else (g, x) :: putF f v r
theorem lookup_putF (f g : Str) (v : V) : ∀ fs : List (Str × V), (putF f v fs).lookup g = if g = f then some v else fs.lookup g
  | [] => by
    show List.lookup g [(f, v)] = _
    by_cases h : g = f
    · have hb : (g == f) = true := beq_iff_eq.mpr h
      simp only [List.lookup, hb, if_pos h]
    · have hb : (g == f) = false := beq_eq_false_iff_ne.mpr h
      simp only [List.lookup, hb, if_neg h]
  | (k, x) :: r => by
    have ih := lookup_putF f g v r
    rw [show putF f v ((k, x) :: r) = (if k = f then (k, v) :: r else (k, x) :: putF f v r) from rfl]
    by_cases hk : k = f
    · rw [if_pos hk]
      by_cases h : g = k
      · have hb : (g == k) = true := beq_iff_eq.mpr h
        simp only [List.lookup, hb, if_pos (h.trans hk)]
      · have hb : (g == k) = false := beq_eq_false_iff_ne.mpr h
        simp only [List.lookup, hb, if_neg (fun e : g = f => h (e.trans hk.symm))]
    · rw [if_neg hk]
      by_cases h : g = k
      · have hb : (g == k) = true := beq_iff_eq.mpr h
        simp only [List.lookup, hb, if_neg (fun e : g = f => hk (h.symm.trans e))]
      · have hb : (g == k) = false := beq_eq_false_iff_ne.mpr h
        simp only [List.lookup, hb]
        exact ih
theorem keys_putF (f : Str) (v : V) : ∀ fs : List (Str × V), f ∈ (putF f v fs).map (·.1) ∧ ∀ g, g ∈ fs.map (·.1) → g ∈ (putF f v fs).map (·.1)
  | [] => ⟨by simp [putF], fun g h => by simp at h⟩
  | (k, x) :: r => by
    obtain ⟨i1, i2⟩ := keys_putF f v r
    rw [show putF f v ((k, x) :: r) = (if k = f then (k, v) :: r else (k, x) :: putF f v r) from rfl]
    by_cases hk : k = f
    · rw [if_pos hk]
      subst hk
      exact ⟨by simp, fun g h => by simpa using h⟩
    · rw [if_neg hk]
      refine ⟨?_, fun g h => ?_⟩
      · rw [List.map_cons]
        exact List.mem_cons_of_mem _ i1
      · rw [List.map_cons] at h ⊢
        rcases List.mem_cons.mp h with e | e
        · exact List.mem_cons.mpr (.inl e)
        · exact List.mem_cons_of_mem _ (i2 g e)
theorem length_putF (f : Str) (v : V) : ∀ fs : List (Str × V), (putF f v fs).length ≤ fs.length + 1
  | [] => by simp [putF]
  | (k, x) :: r => by
    have ih := length_putF f v r
    rw [show putF f v ((k, x) :: r) = (if k = f then (k, v) :: r else (k, x) :: putF f v r) from rfl]
    by_cases hk : k = f
    · rw [if_pos hk, List.length_cons, List.length_cons]; omega
    · rw [if_neg hk, List.length_cons, List.length_cons]; omega

theorem RelO.some_of {v : V} {o : Option Value} (r : RelO (some v) o) : ∃ u, o = some u ∧ RelV v u := by
  cases o with
  | none => exact (show False from r).elim
  | some u => exact ⟨u, rfl, r⟩
theorem RelO.none_of {o : Option Value} (r : RelO none o) : o = none := by
  cases o with
  | none => rfl
  | some u => exact (show False from r).elim
theorem handed_of {v : V} {u : Value} (r : RelV v u) : PySem.W.handedIn u = true := by
  cases v with
  | non => cases (show u = Value.none from r); rfl
  | bl b => cases (show u = Value.bool b from r); rfl
  | int i => obtain ⟨t, e⟩ := (show ∃ t, u = Value.int i t from r); cases e; rfl
  | str x => obtain ⟨t, e⟩ := (show ∃ t, u = Value.str x t from r); cases e; rfl
  | byt b => obtain ⟨t, e⟩ := (show ∃ t, u = Value.bytes b t from r); cases e; rfl
  | flt b => obtain ⟨t, e⟩ := (show ∃ t, u = Value.float b t from r); cases e; rfl
  | ref a => cases (show u = Value.ref a from r); rfl
  | ty n => cases (show u = Value.type n from r); rfl

section
variable {P : Program} {w : World} {H H' : Hp} {h h' : Heap} {a C dx : Addr} {fs fs' : List (Str × V)}
theorem ins_get (hok : HOk P w H h) (e : H a = some (.ins C dx fs)) : ∃ mA, ObjM h a dx C mA ∧ (∀ f, RelO (fs.lookup f) (mA f)) ∧ PySem.Within mA (fs.map (·.1)) ∧ fs.length ≤ 1000 ∧ H dx = some (.own a) := by
  obtain ⟨d, z, ne, ob, mA, n, r, q⟩ := (show ObjOk P w H h a (.ins C dx fs) from hok a _ e)
  exact ⟨mA, ⟨ob, n, ne⟩, r, q, z, d⟩
end

structure Cls (K : PySem.W.Frag) (C : Addr) : Prop where
  pg : PySem.W.plainGet K C Str.empty = true
  hd : PySem.W.hasDictIn K C = true
  po : PySem.W.plainOver K C = true
  sa : PySem.W.findIn K (.ref C) "__setattr__" = some (some (.builtin "object.__setattr__"))
theorem Cls.get {K : PySem.W.Frag} {C : Addr} (c : Cls K C) (f : Str) : PySem.W.plainGet K C f = true := c.pg
def NoAttr (K : PySem.W.Frag) (C : Addr) (f : Str) : Prop := PySem.W.findIn K (.ref C) f = some none
theorem NoAttr.taker {K : PySem.W.Frag} {C : Addr} {f : Str} (n : NoAttr K C f) : PySem.W.takerIn K C f = some none := by
  unfold PySem.W.takerIn
  rw [show PySem.W.findIn K (.ref C) f = some none from n]
  rfl
structure Con (K : PySem.W.Frag) (C : Addr) (f : Str) (v : V) (u : Value) : Prop where
  at_ : PySem.W.findIn K (.ref C) f = some (some u)
  rel : RelV v u
  get : PySem.W.specialIn K u "__get__" = some none
  cp : PySem.W.copiedNames.contains f = false
structure Meth (K : PySem.W.Frag) (C : Addr) (m : Str) (f : Addr) : Prop where
  at_ : PySem.W.findIn K (.ref C) m = some (some (.ref f))
  fn : PySem.W.isFn K (.ref f) = true
  kp : PySem.W.keepIn K (.ref f) = true

section
variable {X : Cx} {pins : List (Addr × Obj)} {σ : St} {H : Hp} {s : Shared} {a C dx : Addr} {fs : List (Str × V)} {f : Str} {v : V} {A : Around} {E : Value → Shared → Prop}

theorem getattr_ok {b : Bool} {Q : Value → Shared → Prop} (I : Inv X pins σ H s) (e : H a = some (.ins C dx fs)) (c : Cls X.K C) (n : NoAttr X.K C f) (l : fs.lookup f = some v)
    (h : ∀ u s', Inv X pins σ H s' → RelV v u → Q u s') : wpAny (model X.prog X.w) A (getAttr (.ref a) f b) Q E s := by
  obtain ⟨mA, O, r, _, _, _⟩ := ins_get I.hok e
  obtain ⟨u, hu, ru⟩ := RelO.some_of (v := v) (o := mA f) (by rw [← l]; exact r f)
  exact get_map I.kIn O (c.get f) c.hd n hu (handed_of ru) (h u _ (I.tok _) ru)


theorem getmeth_ok {m : Str} {g : Addr} {pl : Sem Bool} {Q : Value × List Value → Shared → Prop} (I : Inv X pins σ H s) (e : H a = some (.ins C dx fs)) (c : Cls X.K C) (k : Meth X.K C m g) (l : fs.lookup m = none)
    (h : Q (.ref g, [.ref a]) s) : wpAny (model X.prog X.w) A (getMethod (.ref a) m pl) Q E s := by
  obtain ⟨mA, O, r, _, _, _⟩ := ins_get I.hok e
  have hn : mA m = none := RelO.none_of (by rw [← l]; exact r m)
  exact get_meth I.kIn O (c.get m) k.at_ k.fn hn h

theorem setattr_ok {y : V} {u : Value} {Q : Unit → Shared → Prop} (I : Inv X pins σ H s) (e : H a = some (.ins C dx fs)) (c : Cls X.K C) (n : NoAttr X.K C f) (hl : fs.length < 1000) (ry : RelV y u)
    (h : ∀ s', Inv X pins σ (upd H a (.ins C dx (putF f y fs))) s' → Q () s') : wpAny (model X.prog X.w) A (setAttr (.ref a) f u) Q E s := by
  obtain ⟨mA, O, r, wi, _, ho⟩ := ins_get I.hok e
  have hz : (fs.map (·.1)).length ≤ sizeLine := by rw [List.length_map, sizeLine_eq]; omega
  refine set_map I.kIn O c.sa c.po n.taker c.hd wi hz fun h' O' sb => h _ ?_
  have hd : ∃ o, h'.get? dx = some o := let ⟨o, _, _, e', _⟩ := O'.ns; ⟨o, e'⟩
  refine I.write (x := a) (e := dx) (by rw [e]; exact True.intro) (.inr ho) (fun b q hb z => (sb.2 b hb).trans z) hd ?_
  refine ⟨by rw [upd_ne O.ne]; exact ho, ?_, O.ne, O'.obj, _, O'.ns, fun g => ?_, fun g hg => ?_⟩
  · have := length_putF f y fs; omega
  · show RelO ((putF f y fs).lookup g) (if g = f then some u else mA g)
    rw [lookup_putF]
    by_cases q : g = f
    · rw [if_pos q, if_pos q]; exact ry
    · rw [if_neg q, if_neg q]; exact r g
  · by_cases q : g = f
    · rw [q]; exact (keys_putF f y fs).1
    · refine (keys_putF f y fs).2 g (wi g fun z => hg ?_)
      show (if g = f then some u else mA g) = none
      rw [if_neg q]; exact z

theorem Inv.made (I : Inv X pins σ H s) : Inv X pins σ (upd (upd H s.heap.objs.size (.own (s.heap.objs.size + 1))) (s.heap.objs.size + 1) (.ins C s.heap.objs.size []))
    { s with heap := (s.heap.push PySem.W.emptyDict).push (PySem.W.instObj C s.heap.objs.size) } := by
  have e1 : (s.heap.push PySem.W.emptyDict).get? s.heap.objs.size = some PySem.W.emptyDict := Heap.get?_push_size s.heap rfl
  have e2 : ((s.heap.push PySem.W.emptyDict).push (PySem.W.instObj C s.heap.objs.size)).get? (s.heap.objs.size + 1) = some (PySem.W.instObj C s.heap.objs.size) := by
    have := Heap.get?_push_size (s.heap.push PySem.W.emptyDict) (o := PySem.W.instObj C s.heap.objs.size) rfl
    rwa [Heap.size_push] at this
  have e3 : (s.heap.push PySem.W.emptyDict).Ns s.heap.objs.size (fun _ => none) := ⟨PySem.W.emptyDict, #[], _, e1, rfl, (fun e he => absurd he (by simp)), fun _ => rfl⟩
  have I1 := I.laid (a := s.heap.objs.size) (o := .own (s.heap.objs.size + 1)) (h' := s.heap.push PySem.W.emptyDict) (t' := s.toks) (fun b u q => Heap.get?_push_of_some _ q) (Nat.le_refl _) ⟨_, e1⟩
  refine I1.laid (a := s.heap.objs.size + 1) (o := .ins C s.heap.objs.size []) (t' := s.toks) (fun b u q => Heap.get?_push_of_some _ q) (Nat.le_of_eq (Heap.size_push _ _)) ?_
  have ne : s.heap.objs.size ≠ s.heap.objs.size + 1 := Nat.ne_of_lt (Nat.lt_succ_self _)
  refine ⟨by rw [upd_ne ne, upd_same], Nat.zero_le _, ne, e2, fun _ => none, (Heap.Ns1.of_empty e3).at fun o q => Heap.get?_push_of_some _ q, fun _ => True.intro, fun y hy => absurd rfl hy⟩

theorem attr_of {prog : Program} {w : World} {env : Env} {e : Expr} {f : Str} {pos : Pos} {s : Shared} {Q : Value → Shared → Prop} (hb : attributeBase e f env (eval e env) = eval e env)
    (h : wpAny (model prog w) A (eval e env) (fun o s₁ => wpAny (model prog w) A (getAttr o f true) Q E s₁) E s) : wpAny (model prog w) A (eval (.Attribute e f pos) env) Q E s :=
  Attribute_any_ h (by rw [arm_eval_Attribute, hb])
end

def tFld (K : PySem.W.Frag) (ta : TE) (f : Str) : TE := fun σ H Q => ta σ H fun x H1 => ∃ a C dx fs v, x = .ref a ∧ H1 a = some (.ins C dx fs) ∧ Cls K C ∧ NoAttr K C f ∧ fs.lookup f = some v ∧ Q v H1
def sFld (K : PySem.W.Frag) (ta tv : TE) (f : Str) : TS := fun D σ H => tv σ H fun y H1 => ta σ H1 fun x H2 => ∃ a C dx fs, x = .ref a ∧ H2 a = some (.ins C dx fs) ∧ Cls K C ∧ NoAttr K C f ∧ fs.length < 1000 ∧
  D.nx σ (upd H2 a (.ins C dx (putF f y fs)))

section
variable {X : Cx} {o e value : Expr} {f : Str} {pos pos' tpos : Pos} {ta tv : TE}
theorem pe_fld (he : PE X e ta) (hb : attributeBase e f X.env (eval e X.env) = eval e X.env) : PE X (.Attribute e f pos) (tFld X.K ta f) := by
  intro pins s σ H Q I h
  refine attr_of hb (thn (he pins s σ H _ I h) fun u s1 ⟨x, H1, I1, rx, a, C, dx, fs, v, ex, ea, c, n, l, q⟩ => ?_)
  subst ex
  obtain rfl : u = Value.ref a := rx
  exact getattr_ok I1 ea c n l fun u' s2 I2 ru => ⟨v, H1, I2, ru, q⟩
theorem ps_fld (ha : PE X o ta) (hv : PE X value tv) (hs : swapsWith value (some (.Attribute o f pos')) pos.line X.env = pure false) : PS X (.Assign [.Attribute o f pos'] value pos) (sFld X.K ta tv f) := by
  intro pins s σ H D I h
  refine plainObj_wpAny_Assign_Attribute (thn (hv pins s σ H _ I h) fun u s1 ⟨y, H1, I1, ry, q⟩ => thn (ha pins s1 σ H1 _ I1 q) fun ov s2 ⟨x, H2, I2, rx, a, C, dx, fs, ex, ea, c, n, l, q2⟩ => ?_) hs
  subst ex
  obtain rfl : ov = Value.ref a := rx
  exact setattr_ok I2 ea c n l ry fun s3 I3 => ⟨σ, _, I3, q2⟩

end

section
variable {X : Cx} {pins : List (Addr × Obj)} {σ : St} {H : Hp} {s : Shared} {A : Around} {E : Value → Shared → Prop} {Q : Value → Shared → Prop} {c : Value} {b : Bool}
inductive TyOf (K : PySem.W.Frag) (H : Hp) : V → Value → Prop where
  | non : TyOf K H .non (.type "NoneType")
  | bl (x : Bool) : TyOf K H (.bl x) (.type "bool")
  | int (i : Int) : TyOf K H (.int i) (.type "int")
  | str (x : Str) : TyOf K H (.str x) (.type "str")
  | flt (x : UInt64) : TyOf K H (.flt x) (.type "float")
  | lst {a : Addr} {xs : List V} (e : H a = some (.lst xs)) : TyOf K H (.ref a) (.type "list")
  | frz {a : Addr} {o : Obj} {xs : List V} (e : H a = some (.frz o (.lst xs))) : TyOf K H (.ref a) (.type "list")
  | tup {a : Addr} {xs : List V} (e : H a = some (.tup xs)) : TyOf K H (.ref a) (.type "tuple")
  | dK {a : Addr} {kvs : List (Key × V)} (e : H a = some (.dK kvs)) : TyOf K H (.ref a) (.type "dict")
  | dT {a : Addr} {kvs : List (List Key × V)} (e : H a = some (.dT kvs)) : TyOf K H (.ref a) (.type "dict")
  | ins {a C dx : Addr} {fs : List (Str × V)} (e : H a = some (.ins C dx fs)) (cl : Cls K C) (ha : PySem.W.findIn K (.ref C) "__class__" = some (some (.builtin "object.__class__")))
      (hn : PySem.W.specialIn K (.builtin "object.__class__") "__get__" = some (some (.builtin "getset_descriptor.__get__"))) (htk : PySem.W.takesIn K (.builtin "object.__class__") = some true)
      (hm : PySem.W.mroIn K C (.type "object") = some true) : TyOf K H (.ref a) (.ref C)
theorem isinst_ok {x : V} {u t : Value} (I : Inv X pins σ H s) (rx : RelV x u) (ty : TyOf X.K H x t) (e : PySem.W.kitOne X.K t c = some b) (h : ∀ tk, Q (.bool b) { s with toks := tk }) :
    wpAny (model X.prog X.w) A (call (.builtin "isinstance") [u, c]) Q E s := by
  cases ty with
  | non => cases (show u = Value.none from rx); exact PySem.W.kia_one PySem.W.kitx_none I.kIn True.intro e (fun z => nomatch z) h
  | bl y => cases (show u = Value.bool y from rx); exact PySem.W.kia_one PySem.W.kitx_bool I.kIn True.intro e (fun z => nomatch z) h
  | int i => obtain ⟨t, q⟩ := (show ∃ t, u = Value.int i t from rx); cases q; exact PySem.W.kia_one PySem.W.kitx_int I.kIn True.intro e (fun z => nomatch z) h
  | str y => obtain ⟨t, q⟩ := (show ∃ t, u = Value.str y t from rx); cases q; exact PySem.W.kia_one PySem.W.kitx_str I.kIn True.intro e (fun z => nomatch z) h
  | flt y => obtain ⟨t, q⟩ := (show ∃ t, u = Value.float y t from rx); cases q; exact PySem.W.kia_one PySem.W.kitx_float I.kIn True.intro e (fun z => nomatch z) h
  | @lst a xs ea =>
    cases (show u = Value.ref a from rx)
    obtain ⟨_, _, n, _, h1⟩ := (show ObjOk X.prog X.w H s.heap a (.lst xs) from I.hok a _ ea)
    exact PySem.W.kia_one PySem.W.kitx_list I.kIn ⟨_, h1, rfl⟩ e (fun z => nomatch z) h
  | @frz a ob xs ea =>
    cases (show u = Value.ref a from rx)
    obtain ⟨_, _, _, n, _, h1⟩ := (show ObjOk X.prog X.w H s.heap a (.frz ob (.lst xs)) from I.hok a _ ea)
    exact PySem.W.kia_one PySem.W.kitx_list I.kIn ⟨_, h1, rfl⟩ e (fun z => nomatch z) h
  | @tup a xs ea =>
    cases (show u = Value.ref a from rx)
    obtain ⟨_, _, _, p, _⟩ := (show ObjOk X.prog X.w H s.heap a (.tup xs) from I.hok a _ ea)
    obtain ⟨o, h1, h2, _⟩ := p
    exact PySem.W.kia_one PySem.W.kitx_tuple I.kIn ⟨o, h1, h2⟩ e (fun z => nomatch z) h
  | @dK a kvs ea =>
    cases (show u = Value.ref a from rx)
    obtain ⟨_, _, vs, _, p⟩ := (show ObjOk X.prog X.w H s.heap a (.dK kvs) from I.hok a _ ea)
    obtain ⟨o, es, ep, h1, h2, _⟩ := p
    exact PySem.W.kia_one PySem.W.kitx_dict I.kIn ⟨o, h1, h2.1⟩ e (fun z => nomatch z) h
  | @dT a kvs ea =>
    cases (show u = Value.ref a from rx)
    obtain ⟨_, _, xs, _, o, es, ep, h1, h2, _⟩ := (show ObjOk X.prog X.w H s.heap a (.dT kvs) from I.hok a _ ea)
    exact PySem.W.kia_one PySem.W.kitx_dict I.kIn ⟨o, h1, h2.1⟩ e (fun z => nomatch z) h
  | @ins a C dx fs ea cl ha hn htk hm =>
    cases (show u = Value.ref a from rx)
    obtain ⟨mA, O, _⟩ := ins_get I.hok ea
    obtain ⟨od, J, _⟩ := O.look
    exact PySem.W.kia_one (PySem.W.kitx_own (cl.get _) cl.hd ha hn htk hm) I.kIn J e (fun z => nomatch z) h
end
end L2

namespace L2
open PySem PySem.Spec PyProof.Rows

structure Room (k : Nat) (A : Around) : Prop where
  hd : A.handled = none
  dp : A.depth + 3 * k + 5 < recursionLimit
  un : A.units + 16 * k + 200 < cLine
theorem Room.mono {j k : Nat} {A : Around} (r : Room k A) (h : j ≤ k) : Room j A := ⟨r.hd, by have := r.dp; omega, by have := r.un; omega⟩
theorem Room.deeper {k : Nat} {A : Around} (r : Room (k + 1) A) (env : Env) : Room k (A.deeper env) :=
  ⟨r.hd, by have := r.dp; show A.depth + 1 + 3 * k + 5 < _; omega, by have := r.un; show A.units + 3 + 16 * k + 200 < _; omega⟩
theorem Room.in1 {k : Nat} {A : Around} (r : Room (k + 1) A) : Room k A.in1 :=
  ⟨r.hd, by have := r.dp; show A.depth + 3 * k + 5 < _; omega, by have := r.un; show A.units + 1 + 16 * k + 200 < _; omega⟩
theorem make_depth {A : Around} {C : Addr} {us : List Value} {kw : List (Str × Value)} : (A.under (.builtin "type.__call__" ⟨.ref C :: us, kw⟩)).depth = A.depth + 1 := by
  first | rfl | simp [Around.under, Code.weight, Code.isCreation, Code.isGuard, Code.isCaller, Code.frames, Code.isFrame, guardIds]
theorem make_units {A : Around} {C : Addr} {us : List Value} {kw : List (Str × Value)} : (A.under (.builtin "type.__call__" ⟨.ref C :: us, kw⟩)).units = A.units + 1 := by
  first | rfl | simp [Around.under, Code.cUnits, Code.frames, Code.isFrame]
theorem Room.make {k : Nat} {A : Around} (r : Room (k + 1) A) (C : Addr) (us : List Value) (kw : List (Str × Value)) : Room k (A.under (.builtin "type.__call__" ⟨.ref C :: us, kw⟩)) :=
  ⟨r.hd, by have := r.dp; rw [make_depth]; omega, by have := r.un; rw [make_units]; omega⟩
theorem Room.depth {k : Nat} {A : Around} (r : Room k A) : A.depth < recursionLimit := by have := r.dp; omega
theorem Room.units {k : Nat} {A : Around} (r : Room k A) : A.units + 64 < cLine := by have := r.un; omega

def tNil : TA := fun _ H Q => Q [] H
def tCons (ta : TE) (tr : TA) : TA := fun σ H Q => ta σ H fun x H1 => tr σ H1 fun xs H2 => Q (x :: xs) H2
section
variable {X : Cx} {e : Expr} {es : List Expr} {te : TE} {t : TA} {pos : Pos}
theorem pa_nil : PA X [] tNil := fun _ _ _ _ H Q I h => Calls.spliced_nil ⟨[], H, I, .nil, h⟩
theorem pa_cons (ha : PE X e te) (hr : PA X es t) (hs : starEach (e :: es) X.env = (false, eval e X.env) :: starEach es X.env := by rfl) : PA X (e :: es) (tCons te t) := by
  intro pos pins s σ H Q I h
  rw [hs]
  show wpAny _ _ (spliced ((false, eval e X.env) :: backTo pos (starEach es X.env))) _ _ s
  refine Calls.spliced_cons (thn (ha pins s σ H _ I h) fun u s1 ⟨x, H1, I1, r1, q1⟩ => ?_)
  exact thn (hr pos pins s1 σ H1 _ I1 q1) fun us s2 ⟨xs, H2, I2, r2, q2⟩ => ⟨x :: xs, H2, I2, .cons r1 r2, q2⟩

def tTup (t : TA) : TE := fun σ H Q => t σ H fun xs H1 => xs.length ≤ sizeLine ∧ ∀ p, H1 p = none → Q (.ref p) (upd H1 p (.tup xs))
def tLst (t : TA) : TE := fun σ H Q => t σ H fun xs H1 => xs.length ≤ sizeLine ∧ ∀ p, H1 p = none → Q (.ref p) (upd H1 p (.lst xs))
theorem pe_tup {x1} (h : PA X es t) : PE X (.Tuple es x1 pos) (tTup t) := by
  intro pins s σ H Q I hq
  refine wpAny_Tuple_spliced (thn (h pos pins s σ H _ I hq) fun us s1 ⟨xs, H1, I1, r, z, q⟩ => ⟨by rw [← r.length]; exact z, ?_⟩)
  have hf : H1 s1.heap.objs.size = none := I1.hok.fresh (Nat.le_refl _)
  refine ⟨.ref s1.heap.objs.size, upd H1 s1.heap.objs.size (.tup xs), I1.laid (t' := s1.toks) (fun b u e => Heap.get?_push_of_some _ e) (Nat.le_refl _) ?_, rfl, q _ hf⟩
  exact ⟨z, us, r, ⟨_, Heap.get?_push_size _ rfl, rfl, _, rfl⟩, fun _ => ⟨_, Heap.get?_push_size _ rfl, rfl⟩⟩
theorem pe_lst (h : PA X es t) : PE X (.List es pos) (tLst t) := by
  intro pins s σ H Q I hq
  refine wpAny_List_spliced (thn (h pos pins s σ H _ I hq) fun us s1 ⟨xs, H1, I1, r, z, q⟩ => ⟨by rw [← r.length]; exact z, ?_⟩)
  have hf : H1 s1.heap.objs.size = none := I1.hok.fresh (Nat.le_refl _)
  refine ⟨.ref s1.heap.objs.size, upd H1 s1.heap.objs.size (.lst xs), I1.laid (t' := s1.toks) (fun b u e => Heap.get?_push_of_some _ e) (Nat.le_refl _) ?_, rfl, q _ hf⟩
  exact ⟨z, us, 0, r, Heap.get?_push_size _ rfl⟩
end

abbrev Sp := List V → Hp → VK → XK → Prop
abbrev CXT := List Env → Hp → Shared → XK → Value → Shared → Prop

structure Env0 (P : Program) (w : World) (K : PySem.W.Frag) (mg : Str → Option Value) (base : Heap) (A : Around) (outer : List Env) (s : Shared) (H : Hp) : Prop where
  frames : A.frames = some outer
  mod : Mod K mg base
  bs : ∀ b o, base.get? b = some o → s.heap.get? b = some o ∧ H b = none
  bsz : base.objs.size ≤ s.heap.objs.size
  funs : s.heap.FunFrames base outer
  frf : ∀ b ∈ frs outer, H b = none
  hok : HOk P w H s.heap
  bare : AllBare s.gens
def CE (outer : List Env) (P : Program) (w : World) (H : Hp) (s : Shared) (Q : VK) (u : Value) (s' : Shared) : Prop :=
  ∃ v H', s'.os = s.os ∧ AllBare s'.gens ∧ Un (frs outer) [] H H' s.heap s'.heap ∧ HOk P w H' s'.heap ∧ RelV v u ∧ Q v H'
def CR (CX : CXT) (outer : List Env) (P : Program) (w : World) (H : Hp) (s : Shared) (Q : VK) (E : XK) (r : Result) (s' : Shared) : Prop :=
  match r with
  | .ok (.ret u) => CE outer P w H s Q u s'
  | .ok _ => False
  | .error e => CX outer H s E e s'
structure FnOk (P : Program) (w : World) (K : PySem.W.Frag) (mg : Str → Option Value) (base : Heap) (CX : CXT) (k : Nat) (f : Addr) (fd : FuncData) (ps : List Str) (sp : Sp) : Prop where
  len : ∀ vs H Q E, sp vs H Q E → vs.length = ps.length
  run : ∀ (A : Around) (outer : List Env) (s : Shared) (H : Hp) (args : Args) (us : List Value) (vs : List V) (Q : VK) (E : XK), Room k A → Env0 P w K mg base A outer s H → BindsTo s fd args (ps.zip us) → Vals vs us → sp vs H Q E →
    codeAny (model P w) A (.call (.ref f) args) (CR CX outer P w H s Q E) s
theorem FnOk.mono {P : Program} {w : World} {K : PySem.W.Frag} {mg : Str → Option Value} {base : Heap} {CX : CXT} {j k : Nat} {f : Addr} {fd : FuncData} {ps : List Str} {sp : Sp} (F : FnOk P w K mg base CX j f fd ps sp) (h : j ≤ k) :
    FnOk P w K mg base CX k f fd ps sp := ⟨F.len, fun A outer s H args us vs Q E hr => F.run A outer s H args us vs Q E (hr.mono h)⟩
theorem FnOk.imp {P : Program} {w : World} {K : PySem.W.Frag} {mg : Str → Option Value} {base : Heap} {CX : CXT} {k : Nat} {f : Addr} {fd : FuncData} {ps : List Str} {sp sp' : Sp} (F : FnOk P w K mg base CX k f fd ps sp)
    (h : ∀ vs H Q E, sp' vs H Q E → sp vs H Q E) : FnOk P w K mg base CX k f fd ps sp' :=
  ⟨fun vs H Q E q => F.len vs H Q E (h _ _ _ _ q), fun A outer s H args us vs Q E hr he hb hv hs => F.run A outer s H args us vs Q E hr he hb hv (h _ _ _ _ hs)⟩

theorem Env0.make {P : Program} {w : World} {K : PySem.W.Frag} {mg : Str → Option Value} {base : Heap} {A : Around} {outer : List Env} {s : Shared} {H : Hp} (e : Env0 P w K mg base A outer s H) (C : Addr) (us : List Value) (kw : List (Str × Value)) :
    Env0 P w K mg base (A.under (.builtin "type.__call__" ⟨.ref C :: us, kw⟩)) outer s H := ⟨by first | exact e.frames | (simpa [Around.under, Code.envs, Code.isFrame, pushEnvs] using e.frames), e.mod, e.bs, e.bsz, e.funs, e.frf, e.hok, e.bare⟩
theorem Env0.in1 {P : Program} {w : World} {K : PySem.W.Frag} {mg : Str → Option Value} {base : Heap} {A : Around} {outer : List Env} {s : Shared} {H : Hp} (e : Env0 P w K mg base A outer s H) :
    Env0 P w K mg base A.in1 outer s H := ⟨e.frames, e.mod, e.bs, e.bsz, e.funs, e.frf, e.hok, e.bare⟩

section
variable {X : Cx} {pins : List (Addr × Obj)} {σ : St} {H : Hp} {s s' : Shared}
theorem Inv.env0 (I : Inv X pins σ H s) : Env0 X.prog X.w X.K X.mg X.base X.A X.stack s H :=
  ⟨I.ok.frames, I.ok.mod, I.bs, Nat.le_trans I.ok.bsz I.sz, I.stack, I.stkFree, I.hok, I.bare⟩
theorem Inv.after {Q : VK} {u : Value} (I : Inv X pins σ H s) (h : CE X.stack X.prog X.w H s Q u s') : EP X pins σ Q u s' := by
  obtain ⟨v, H', os, bare, un, hok, r, q⟩ := h
  obtain ⟨hh, g, d, t, os'⟩ := s'
  obtain rfl : os' = s.os := os
  exact ⟨v, H', I.call (h' := hh) (g' := g) (d' := d) (t' := t) (ch := []) un hok bare (fun b z => absurd z (by simp)), r, q⟩
end

def tCall (sp : Sp) (dvs : List V) (E : XK) (t : TA) : TE := fun σ H Q => t σ H fun vs H1 => sp (vs ++ dvs) H1 Q E
def tMake (C : Addr) (sp : Sp) (dvs : List V) (E : XK) (t : TA) : TE := fun σ H Q => t σ H fun vs H1 => ∀ x dx, H1 x = none → H1 dx = none → dx ≠ x →
  sp (.ref x :: (vs ++ dvs)) (upd (upd H1 dx (.own x)) x (.ins C dx [])) (fun v H2 => v = .non ∧ Q (.ref x) H2) E

def Binds (K : PySem.W.Frag) (fd : FuncData) (ps : List Str) (ds : List Value) : Prop :=
  ∀ (s : Shared) (us : List Value), K.In s.heap → (us ++ ds).length = ps.length → BindsTo s fd ⟨us, []⟩ (ps.zip (us ++ ds))
theorem Binds.all {K : PySem.W.Frag} {fd : FuncData} {ps : List Str} (h : ∀ us : List Value, us.length = ps.length → bindArgs fd ⟨us, []⟩ = pure (ps.zip us)) : Binds K fd ps [] := fun s us _ hl => by
  rw [List.append_nil] at hl ⊢
  exact .of_eq (h us hl)

def Passes (CX : CXT) (X : Cx) (E : XK) : Prop := ∀ (pins : List (Addr × Obj)) (σ : St) (H : Hp) (s : Shared) (e : Value) (s' : Shared), Inv X pins σ H s → CX X.stack H s E e s' → X.xe e s'

section
variable {X : Cx} {CX : CXT} {k : Nat} {f C : Addr} {fd : FuncData} {ps : List Str} {sp : Sp} {dvs : List V} {ds : List Value} {E : XK} {x m : Str} {p pos apos : Pos} {e o : Expr} {es : List Expr} {ta : TE} {t : TA}

theorem run_fn {pins : List (Addr × Obj)} {σ : St} {H : Hp} {s : Shared} {Q : VK} {us : List Value} {vs : List V} (F : FnOk X.prog X.w X.K X.mg X.base CX k f fd ps sp) (hr : Room k X.A) (hb : Binds X.K fd ps ds) (hd : Vals dvs ds) (hx : Passes CX X E)
    (I : Inv X pins σ H s) (r : Vals vs us) (h : sp (vs ++ dvs) H Q E) : wpAny (model X.prog X.w) X.A (call (.ref f) us) (EP X pins σ Q) X.xe s := by
  have r2 : Vals (vs ++ dvs) (us ++ ds) := r.append hd
  have hl : (us ++ ds).length = ps.length := by rw [← r2.length]; exact F.len _ _ _ _ h
  refine wpAny_call (codeAny_mono (F.run X.A X.stack s H ⟨us, []⟩ (us ++ ds) (vs ++ dvs) Q E hr I.env0 (hb s us I.kIn hl) r2 h) fun r s' hq => ?_)
  cases r with
  | error e => exact hx pins σ H s e s' I hq
  | ok fl =>
    cases fl with
    | ret u => exact I.after hq
    | next => exact False.elim hq
    | brk => exact False.elim hq
    | cont => exact False.elim hq

theorem pe_call (F : FnOk X.prog X.w X.K X.mg X.base CX k f fd ps sp) (hr : Room k X.A) (hg : Gl X x) (hm : X.mg x = some (.ref f)) (hk : PySem.W.keepIn X.K (.ref f) = true) (hb : Binds X.K fd ps ds) (hd : Vals dvs ds) (hx : Passes CX X E)
    (ha : PA X (e :: es) t) (hdb : (x == ("__debug__" : Str)) = false := by decide) (he : starEach (e :: es) X.env = (false, eval e X.env) :: starEach es X.env := by rfl) (hpl : (backTo pos (starEach es X.env)).any (·.1) = false := by rfl) :
    PE X (.Call (.Name x p) (e :: es) [] pos) (tCall sp dvs E t) := by
  intro pins s σ H Q I h
  refine wpAny_Call_Name_kw (ld_glob I hg hm ?_ hdb)
  refine PySem.W.callWith_K (h₀ := X.base) I.ok.mod.kin hk (thn (ha pos pins s σ H _ I h) fun us s1 ⟨vs, H1, I1, r, q⟩ => ⟨I1.kIn, ?_⟩) he hpl
  exact run_fn F hr hb hd hx I1 r q


structure Mk (K : PySem.W.Frag) (C f : Addr) : Prop where
  makes : PySem.W.makesIn K C = true
  init : PySem.W.findIn K (.ref C) "__init__" = some (some (.ref f))
  fn : PySem.W.isFn K (.ref f) = true
  kp : PySem.W.keepIn K (.ref C) = true

end

section
variable {X : Cx} {CX : CXT} {k : Nat} {f C : Addr} {fd : FuncData} {ps ks : List Str} {sp : Sp} {E : XK} {x m : Str} {p pos apos kpos : Pos} {e o : Expr} {es : List Expr} {kws : List Keyword} {te ta : TE} {t tk : TA} {nm : Option Str}

structure KBinds (K : PySem.W.Frag) (fd : FuncData) (ps ks : List Str) (g : List Value → List Value → List Value) (gV : List V → List V → List V) : Prop where
  to : ∀ (s : Shared) (us ws : List Value), K.In s.heap → (g us ws).length = ps.length → BindsTo s fd ⟨us, ks.zip ws⟩ (ps.zip (g us ws))
  rel : ∀ {vs : List V} {us : List Value} {zs : List V} {ws : List Value}, Vals vs us → Vals zs ws → Vals (gV vs zs) (g us ws)
variable {g : List Value → List Value → List Value} {gV : List V → List V → List V}
end

structure FnScope (N P : List Str) (sc : Scope) : Prop where
  kind : sc.kind = .function
  co : sc.isCoroutine = false
  gen : sc.isGenerator = false
  nd : N.Nodup
  pre : N.take P.length = P
  par : ∀ x ∈ P, sc.names.lookup x = some .local ∨ sc.names.lookup x = some .cell
  nofree : ∀ y ∈ sc.names, y.2 ≠ .free

theorem bindL_out {kindOf : Str → Option NameKind} {x : Str} : ∀ {binds : List (Str × Value)} {m : Str → Option Value}, (∀ v, (x, v) ∉ binds) → bindL kindOf binds m x = m x
  | [], _, _ => rfl
  | (n, v) :: r, m, h => by
    unfold bindL
    rw [bindL_out fun w hw => h w (List.mem_cons_of_mem _ hw)]
    split
    · have : x ≠ n := by rintro rfl; exact h v List.mem_cons_self
      simp [this]
    · rfl
theorem bindC_out {kindOf : Str → Option NameKind} {x : Str} : ∀ {binds : List (Str × Value)} {m : Str → Option Value}, (∀ v, (x, v) ∉ binds) → bindC kindOf binds m x = m x
  | [], _, _ => rfl
  | (n, v) :: r, m, h => by
    unfold bindC
    rw [bindC_out fun w hw => h w (List.mem_cons_of_mem _ hw)]
    split
    · rfl
    · have : x ≠ n := by rintro rfl; exact h v List.mem_cons_self
      simp [this]
theorem bindL_get {kindOf : Str → Option NameKind} {x : Str} {v : Value} : ∀ {P : List Str} {vs : List Value} {i : Nat} {m : Str → Option Value}, P.Nodup → P[i]? = some x → vs[i]? = some v → kindOf x = some .local →
    bindL kindOf (P.zip vs) m x = some v
  | [], _, _, _, _, h, _, _ => by simp at h
  | _ :: _, [], _, _, _, _, h, _ => by simp at h
  | p :: P, w :: vs, 0, m, nd, h1, h2, hk => by
    simp at h1 h2; subst h1; subst h2
    show bindL kindOf ((p, w) :: P.zip vs) m p = _
    unfold bindL
    rw [bindL_out fun v hv => (List.nodup_cons.mp nd).1 (List.of_mem_zip hv).1, if_pos hk]
    simp
  | p :: P, w :: vs, i + 1, m, nd, h1, h2, hk => by
    show bindL kindOf ((p, w) :: P.zip vs) m x = _
    unfold bindL
    exact bindL_get (i := i) (List.nodup_cons.mp nd).2 (by simpa using h1) (by simpa using h2) hk
theorem bindC_get {kindOf : Str → Option NameKind} {x : Str} {v : Value} : ∀ {P : List Str} {vs : List Value} {i : Nat} {m : Str → Option Value}, P.Nodup → P[i]? = some x → vs[i]? = some v → kindOf x ≠ some .local →
    bindC kindOf (P.zip vs) m x = some v
  | [], _, _, _, _, h, _, _ => by simp at h
  | _ :: _, [], _, _, _, _, h, _ => by simp at h
  | p :: P, w :: vs, 0, m, nd, h1, h2, hk => by
    simp at h1 h2; subst h1; subst h2
    show bindC kindOf ((p, w) :: P.zip vs) m p = _
    unfold bindC
    rw [bindC_out fun v hv => (List.nodup_cons.mp nd).1 (List.of_mem_zip hv).1, if_neg hk]
    simp
  | p :: P, w :: vs, i + 1, m, nd, h1, h2, hk => by
    show bindC kindOf ((p, w) :: P.zip vs) m x = _
    unfold bindC
    exact bindC_get (i := i) (List.nodup_cons.mp nd).2 (by simpa using h1) (by simpa using h2) hk

def start (N : List Str) (vs : List V) : St := vs.map some ++ List.replicate (N.length - vs.length) none

def cxOf (CX : CXT) (P : Program) (w : World) (K : PySem.W.Frag) (mg : Str → Option Value) (base : Heap) (N : List Str) (qual : Str) (scope : Scope) (f : Addr) (cd : Value) (A : Around) (outer : List Env) (s : Shared) (H : Hp) (E : XK) : Cx where
  prog := P
  w := w
  K := K
  mg := mg
  base := base
  A := A.deeper (envOfC qual scope s.heap.objs.size f cd)
  N := N
  s₀ := s
  H₀ := H
  env := envOfC qual scope s.heap.objs.size f cd
  outer := outer
  stack := envOfC qual scope s.heap.objs.size f cd :: outer
  ex := []
  calm := true
  fn := fun _ => true
  pn := []
  xe := fun e s' => wpAny (model P w) (A.deeper (envOfC qual scope s.heap.objs.size f cd)) (leaving (envOfC qual scope s.heap.objs.size f cd) e) (fun _ s'' => CX outer H s E e s'') (fun e' s'' => CX outer H s E e' s'') s'

theorem cell_has {sc : Scope} {n : Nat} {x : Str} (h : sc.names.lookup x = some .cell) : ∃ c, (cellsFrom n sc.names []).lookup x = some c := by
  have q := PySem.W.cellsFrom_some sc.names n [] (.inl h)
  exact Option.isSome_iff_exists.mp q

theorem inv_start {CX : CXT} {P : Program} {w : World} {K : PySem.W.Frag} {mg : Str → Option Value} {base : Heap} {N ps : List Str} {qual : Str} {scope : Scope} {f : Addr} {cd : Value} {A : Around} {outer : List Env} {s s1 : Shared} {H : Hp} {E : XK} {us : List Value} {vs : List V}
    (S : FnScope N ps scope) (hd : A.handled = none) (e0 : Env0 P w K mg base A outer s H) (hl : vs.length = ps.length) (r : Vals vs us)
    (x : InCallC s s.heap.objs.size (bindL (envOfC qual scope s.heap.objs.size f cd).kindOf (ps.zip us) fun _ => none) (cellsFrom (s.heap.objs.size + 1) scope.names []) (bindC (envOfC qual scope s.heap.objs.size f cd).kindOf (ps.zip us) fun _ => none) s1) :
    Inv (cxOf CX P w K mg base N qual scope f cd A outer s H E) [] (start N vs) H s1 := by
  have hpl : ps.length ≤ N.length := by have := congrArg List.length S.pre; rw [List.length_take] at this; omega
  obtain ⟨h1, tk, rfl, hk⟩ := x.done
  have noA : ∀ b : Addr, b ∉ (cxOf CX P w K mg base N qual scope f cd A outer s H E).ex := fun b z => absurd (show b ∈ ([] : List Addr) from z) (by simp)
  refine ⟨⟨e0.mod, S.kind, rfl, rfl, Nat.le_refl _, fun y z c h1 h2 => ?_, fun y hy => ?_, fun y c _ h => ?_, fun _ => hd, Around.frames_deeper e0.frames, .inr ⟨rfl, rfl⟩, fun b z => absurd z (noA b), e0.bs, e0.bsz, fun b _ _ => noA b, fun b z => absurd z (noA b), e0.funs, e0.frf⟩,
    rfl, e0.bare, Un.kept hk, ⟨_, x.toInCall.ns, fun i y v h1 h2 h3 => ?_⟩, fun y c h => ⟨_, x.cell y c h⟩, e0.hok.fresh (Nat.le_refl _), fun y c h => ?_, fun p hp => absurd (show p ∈ ([] : List (Addr × Obj)) from hp) (by simp), e0.hok.kept hk, ?_⟩
  · exact name_of_addr x.apart (PySem.mem_of_lookup h1) (PySem.mem_of_lookup h2)
  · have hy : scope.names.lookup y = some .cell ∨ scope.names.lookup y = some .free := hy
    rcases hy with hy | hy
    · exact cell_has hy
    · exact absurd rfl (S.nofree _ (PySem.mem_of_lookup hy))
  · exact Nat.le_of_lt (x.above y c (PySem.mem_of_lookup h))
  · have hi : i < vs.length := by
      unfold start at h2
      by_cases hi : i < vs.length
      · exact hi
      · rw [List.getElem?_append_right (by simpa using hi)] at h2
        rw [List.getElem?_replicate] at h2
        split at h2 <;> cases h2
    have ha : vs[i]? = some v := by
      unfold start at h2
      rw [List.getElem?_append_left (by simpa using hi), List.getElem?_map] at h2
      cases e : vs[i]? with
      | none => rw [e] at h2; cases h2
      | some a => rw [e] at h2; cases h2; rfl
    obtain ⟨u, hu, rv⟩ := r.get ha
    have hp : ps[i]? = some y := by
      rw [← S.pre, List.getElem?_take_of_lt (by omega)]; exact h1
    have ndP : ps.Nodup := by rw [← S.pre]; exact S.nd.sublist (List.take_sublist _ _)
    refine ⟨u, rv, ?_⟩
    rcases S.par y (List.mem_of_getElem? hp) with k | k
    · exact .inl ⟨k, bindL_get ndP hp hu k⟩
    · obtain ⟨c, e⟩ := cell_has (n := s.heap.objs.size + 1) k
      refine .inr ⟨.inl k, c, e, ?_⟩
      have q := x.cell y c e
      rw [bindC_get ndP hp hu (by show scope.names.lookup y ≠ _; rw [k]; decide)] at q
      exact q
  · exact e0.hok.fresh (Nat.le_of_lt (x.above y c (PySem.mem_of_lookup h)))
  · unfold start
    show _ = N.length
    rw [List.length_append, List.length_map, List.length_replicate]
    omega

theorem fn_of {CX : CXT} {P : Program} {w : World} {K : PySem.W.Frag} {mg : Str → Option Value} {base : Heap} {k : Nat} {f : Addr} {name qual : Str} {params : Arguments} {body : List Stmt} {scope : Scope} {dV kV doc pm cdv ct oc : Value} {an od : Option Addr}
    {osl : Array (Option Value)} {N ps : List Str} {sp : Sp} (lk : K.lookup f = some ⟨oc, od, .func (PySem.W.fnOf name qual params body scope dV kV doc pm an cdv ct), osl⟩) (hcd : PySem.W.codeIn K cdv qual = true) (S : FnScope N ps scope)
    (len : ∀ vs H Q E, sp vs H Q E → vs.length = ps.length)
    (hbody : ∀ (A : Around) (outer : List Env) (s : Shared) (H : Hp) (vs : List V) (Q : VK) (E : XK), Room k (A.deeper (envOfC qual scope s.heap.objs.size f cdv)) → sp vs H Q E →
      ∃ t, PSs (cxOf CX P w K mg base N qual scope f cdv A outer s H E) body t ∧ t { nx := fun _ H' => Q .non H', rt := Q } (start N vs) H) :
    FnOk P w K mg base CX (k + 1) f (PySem.W.fnOf name qual params body scope dV kV doc pm an cdv ct) ps sp := by
  refine ⟨len, fun A outer s H args us vs Q E hr e0 hb r hsp => ?_⟩
  have hl := len _ _ _ _ hsp
  have KX : K.In s.heap := e0.mod.kin.keeps fun b o e => (e0.bs b o e).1
  have lim : s.heap.NoLimit := e0.mod.nolimit.keeps fun b o e => (e0.bs b o e).1
  have hkind : ∀ y ∈ ps.zip us, scope.names.lookup y.1 = some .local ∨ (scope.names.lookup y.1 = some .cell ∧ ((cellsFrom (s.heap.objs.size + 1) scope.names []).lookup y.1).isSome = true) := fun ⟨n, v⟩ hy => by
    rcases S.par n (List.of_mem_zip hy).1 with q | q
    · exact .inl q
    · exact .inr ⟨q, PySem.W.cellsFrom_some _ _ _ (.inl q)⟩
  refine codeAny_call_function hr.depth (KX _ _ lk) rfl S.co S.gen rfl (PySem.W.codeRec_of KX hcd) (hb _ _ _ _ ?_)
  refine wpAny_newFunctionEnv_cells S.kind hkind fun env he s1 x => ?_
  subst he
  refine ⟨lim.keeps x.toInCall.keep, codeAny_func ?_⟩
  obtain ⟨t, ht, hq⟩ := hbody A outer s H vs Q E (hr.deeper _) hsp
  have I : Inv (cxOf CX P w K mg base N qual scope f cdv A outer s H E) [] (start N vs) H s1 := inv_start S hr.hd e0 hl r x
  refine wpAny_mono (ht [] s1 (start N vs) H _ I hq) (fun fl s' hs => ?_) fun e s' hs => hs
  have fin : ∀ {σ' : St} {H' : Hp} {v : V} {u : Value}, Inv (cxOf CX P w K mg base N qual scope f cdv A outer s H E) [] σ' H' s' → RelV v u → Q v H' → CE outer P w H s Q u s' :=
    fun {σ' H' v u} J rv q => ⟨v, H', J.os, J.bare, J.base, J.hok, rv, q⟩
  cases fl with
  | ret u =>
    obtain ⟨v, σ', H', J, rv, q⟩ := hs
    exact fin J rv q
  | next =>
    obtain ⟨σ', H', J, q⟩ := hs
    exact fin (v := V.non) (u := Value.none) J rfl q
  | brk =>
    obtain ⟨_, _, _, q⟩ := hs
    exact False.elim q
  | cont =>
    obtain ⟨_, _, _, q⟩ := hs
    exact False.elim q
end L2

namespace L2
open PySem PySem.Spec PyProof.Rows
section
variable {X : Cx} {x : Str} {p pos : Pos} {e : Expr} {es : List Expr} {t : TA} {id T : String} {r : List V → Hp → VK → Prop}

def tCB (r : List V → Hp → VK → Prop) (t : TA) : TE := fun σ H Q => t σ H fun vs H1 => r vs H1 Q
theorem pe_callB (hc : CallR X (.builtin id) r) (hg : Gl X x) (hm : X.mg x = none) (hv : bootBuiltins x = some (.builtin id)) (ha : PA X (e :: es) t) (hn : x ≠ "__name__" := by decide) (hdb : (x == ("__debug__" : Str)) = false := by decide)
    (he : starEach (e :: es) X.env = (false, eval e X.env) :: starEach es X.env := by rfl) (hpl : (backTo pos (starEach es X.env)).any (·.1) = false := by rfl) : PE X (.Call (.Name x p) (e :: es) [] pos) (tCB r t) := by
  intro pins s σ H Q I h
  refine wpAny_Call_Name_kw (ld_blt I hg hm hv ?_ hn hdb)
  exact PyProof.Rows.callWith_builtin1 (thn (ha pos pins s σ H _ I h) fun us s1 ⟨vs, H1, I1, r1, q1⟩ => hc pins s1 σ H1 vs us Q I1 r1 q1) he hpl
theorem pe_callTy (hc : CallR X (.type T) r) (hg : Gl X x) (hm : X.mg x = none) (hv : bootBuiltins x = some (.type T)) (ha : PA X (e :: es) t) (hn : x ≠ "__name__" := by decide) (hdb : (x == ("__debug__" : Str)) = false := by decide)
    (he : starEach (e :: es) X.env = (false, eval e X.env) :: starEach es X.env := by rfl) (hpl : (backTo pos (starEach es X.env)).any (·.1) = false := by rfl) : PE X (.Call (.Name x p) (e :: es) [] pos) (tCB r t) := by
  intro pins s σ H Q I h
  refine wpAny_Call_Name_kw (ld_blt I hg hm hv ?_ hn hdb)
  exact PyProof.Rows.callWith_type1 (thn (ha pos pins s σ H _ I h) fun us s1 ⟨vs, H1, I1, r1, q1⟩ => hc pins s1 σ H1 vs us Q I1 r1 q1) he hpl
end
end L2

namespace HT
open PySem PyProof.Rows



section
open PySem.SeqAt
open PySem.AutoSeq1 (wpAny_loadPart')
open PySem.MeetsSeq PySem.MeetsSeq2 PySem.MeetsSeq3

end

section
variable {prog : Program} {w : World} {A : Around} {E : Value → Shared → Prop} {s : Shared}



def sIx (n d : Nat) : Option Int → Nat
  | none => d
  | some v => if v < 0 then (v + (n : Int)).toNat else min v.toNat n
theorem sIx_none (n d : Nat) : sIx n d none = d := rfl
theorem sIx_nat (n d k : Nat) : sIx n d (some (k : Int)) = min k n := by
  show (if (k : Int) < 0 then ((k : Int) + (n : Int)).toNat else min (k : Int).toNat n) = min k n
  rw [if_neg (by omega), Int.toNat_natCast]

end
end HT

namespace L2
open PySem PySem.Spec PyProof.Rows

abbrev TO := St → Hp → (Option Int → Hp → Prop) → Prop
def PO (X : Cx) (e : Option Expr) (t : TO) : Prop :=
  ∀ (pins : List (Addr × Obj)) (s : Shared) (σ : St) (H : Hp) (Q : Option Int → Hp → Prop), Inv X pins σ H s → t σ H Q →
    wpAny (model X.prog X.w) X.A (evalPart e X.env) (fun u s' => ∃ o H', Inv X pins σ H' s' ∧ IsPart u o ∧ Q o H') X.xe s
def tNoPart : TO := fun _ H Q => Q none H
def tPart (t : TE) : TO := fun σ H Q => t σ H fun x H1 => ∃ i, x = .int i ∧ Q (some i) H1


section
variable {X : Cx} {e : Expr} {te : TE} {lo hi : Option Expr} {tl th : TO} {pos p2 : Pos}

theorem po_none : PO X none tNoPart := by
  intro pins s σ H Q I h
  rw [evalPart_none]
  exact wpAny_pure ⟨none, H, I, .none, h⟩
theorem po_some (h : PE X e te) : PO X (some e) (tPart te) := by
  intro pins s σ H Q I hw
  rw [evalPart_some]
  refine thn (h pins s σ H _ I hw) fun u s1 ⟨x, H1, I1, r1, q1⟩ => ?_
  obtain ⟨i, rfl, q⟩ := q1
  obtain ⟨t, rfl⟩ := r1
  exact ⟨some i, H1, I1, .int i t, q⟩

def SlR (X : Cx) (r : V → Option Int → Option Int → Hp → VK → Prop) : Prop :=
  ∀ (pins : List (Addr × Obj)) (s : Shared) (σ : St) (H : Hp) (x : V) (v vl vu : Value) (lo hi : Option Int) (sl : Addr) (Q : VK), Inv X pins σ H s → RelV x v → s.heap.IsSliceOf sl vl vu .none → IsPart vl lo → IsPart vu hi → r x lo hi H Q →
    ∃ T id, typeLookup (.type T) "__getitem__" = pure (some (.builtin id)) ∧ s.TypeIs v T ∧ wpAny (model X.prog X.w) X.A (getItem v (.ref sl)) (EP X pins σ Q) X.xe s
theorem SlR.or {r r' : V → Option Int → Option Int → Hp → VK → Prop} (h : SlR X r) (h' : SlR X r') : SlR X (fun x lo hi H Q => r x lo hi H Q ∨ r' x lo hi H Q) := by
  intro pins s σ H x v vl vu lo hi sl Q I rx hs pl pu q
  rcases q with q | q
  · exact h pins s σ H x v vl vu lo hi sl Q I rx hs pl pu q
  · exact h' pins s σ H x v vl vu lo hi sl Q I rx hs pl pu q
def tSl (r : V → Option Int → Option Int → Hp → VK → Prop) (te : TE) (tl th : TO) : TE := fun σ H Q => te σ H fun x H1 => tl σ H1 fun l H2 => th σ H2 fun u H3 => r x l u H3 Q
theorem pe_slice {r : V → Option Int → Option Int → Hp → VK → Prop} (hr : SlR X r) (he : PE X e te) (hl : PO X lo tl) (hu : PO X hi th) : PE X (.Subscript e (.Slice lo hi none p2) pos) (tSl r te tl th) := by
  intro pins s σ H Q I h
  refine Subscript_ (thn (he pins s σ H _ I h) fun v s1 ⟨x, H1, I1, r1, q1⟩ => ?_)
  refine wpAny_Slice (thn (hl pins s1 σ H1 _ I1 q1) fun vl s2 ⟨l, H2, I2, pl, q2⟩ => thn (hu pins s2 σ H2 _ I2 q2) fun vu s3 ⟨u, H3, I3, pu, q3⟩ => ?_)
  rw [evalPart_none]
  refine wpAny_pure ?_
  have I4 : Inv X pins σ H3 { s3 with heap := s3.heap.push { cls := .type "slice", data := .fields #[vl, vu, .none] } } := I3.kept (t' := s3.toks) fun b ob q => Heap.get?_push_of_some _ q
  obtain ⟨T, id, hT, ht, hg⟩ := hr pins { s3 with heap := s3.heap.push { cls := .type "slice", data := .fields #[vl, vu, .none] } } σ H3 x v vl vu l u s3.heap.objs.size Q I4 r1 (Heap.IsSliceOf.new ..) pl pu q3
  show wpAny (model X.prog X.w) X.A (subscriptTail e (.Slice lo hi none p2) v (.ref s3.heap.objs.size)) (EP X pins σ Q) X.xe { s3 with heap := s3.heap.push { cls := .type "slice", data := .fields #[vl, vu, .none] } }
  exact tail_any (ops := [.ref s3.heap.objs.size, v]) ht hT hg (by with_unfolding_all rfl)

def cutV (xs : List V) (lo hi : Option Int) : List V := (xs.drop (HT.sIx xs.length 0 lo)).take (HT.sIx xs.length xs.length hi - HT.sIx xs.length 0 lo)
theorem cutV_length (xs : List V) (lo hi : Option Int) : (cutV xs lo hi).length ≤ xs.length := by
  unfold cutV
  rw [List.length_take, List.length_drop]
  omega

end
end L2

namespace L2
open PySem PySem.Spec PyProof.Rows

def ixN (n : Nat) (i : Int) : Option Nat := if 0 ≤ i then (if i < n then some i.toNat else none) else if -(n : Int) ≤ i then some (i + n).toNat else none
def atI {α : Type} (xs : List α) (i : Int) : Option α := (ixN xs.length i).bind fun j => xs[j]?
theorem ixN_seq {n : Nat} {i : Int} {j : Nat} (h : ixN n i = some j) : seqIndex? i n = some j ∧ j < n ∧ -(n : Int) ≤ i ∧ i < n := by
  unfold ixN at h
  by_cases h0 : 0 ≤ i
  · rw [if_pos h0] at h
    by_cases h1 : i < n
    · rw [if_pos h1] at h
      have e : i.toNat = j := Option.some.inj h
      exact ⟨by rw [seqIndex_of h0 h1, e], by omega, by omega, h1⟩
    · rw [if_neg h1] at h; cases h
  · rw [if_neg h0] at h
    by_cases h1 : -(n : Int) ≤ i
    · rw [if_pos h1] at h
      have e : (i + n).toNat = j := Option.some.inj h
      exact ⟨by rw [seqIndex_neg (by omega) h1, e], by omega, h1, by omega⟩
    · rw [if_neg h1] at h; cases h
theorem atI_get {α : Type} {xs : List α} {i : Int} {v : α} (h : atI xs i = some v) : ∃ j, seqIndex? i xs.length = some j ∧ xs[j]? = some v ∧ j < xs.length ∧ -(xs.length : Int) ≤ i ∧ i < xs.length := by
  unfold atI at h
  cases e : ixN xs.length i with
  | none => rw [e] at h; cases h
  | some j =>
    rw [e] at h
    obtain ⟨h1, h2, h3, h4⟩ := ixN_seq e
    exact ⟨j, h1, h, h2, h3, h4⟩
theorem atI_nat {α : Type} {xs : List α} {j : Nat} {v : α} (h : xs[j]? = some v) : atI xs (j : Int) = some v := by
  have hj : j < xs.length := (List.getElem?_eq_some_iff.mp h).1
  have e : ixN xs.length (j : Int) = some j := by
    unfold ixN
    rw [if_pos (by omega), if_pos (by omega)]; simp
  unfold atI; rw [e]; exact h

def PlainIx (b : Expr) : Prop := ∀ o i, subscripted b false o i = operate [o, i] (getItem o i)
def IxR (X : Cx) (r : R2) : Prop :=
  ∀ (value slice : Expr) (pins : List (Addr × Obj)) (s : Shared) (σ : St) (H : Hp) (x y : V) (v u : Value) (Q : VK), Inv X pins σ H s → RelV x v → RelV y u → r x y H Q →
    subscripted slice false v u = operate [v, u] (getItem v u) → wpAny (model X.prog X.w) X.A (subscriptTail value slice v u) (EP X pins σ Q) X.xe s
def MtR (X : Cx) (id : String) (r : V → List V → Hp → VK → Prop) : Prop :=
  ∀ (pins : List (Addr × Obj)) (s : Shared) (σ : St) (H : Hp) (x : V) (xs : List V) (v : Value) (us : List Value) (Q : VK), Inv X pins σ H s → RelV x v → Vals xs us → r x xs H Q →
    wpAny (model X.prog X.w) X.A (call (.builtin id) (v :: us)) (EP X pins σ Q) X.xe s
section
variable {X : Cx} {a b : Expr} {ta tb : TE} {pos : Pos}
theorem IxR.or {r r' : R2} (h : IxR X r) (h' : IxR X r') : IxR X (fun x y H Q => r x y H Q ∨ r' x y H Q) := by
  intro value slice pins s σ H x y v u Q I rx ry q hs
  rcases q with q | q
  · exact h value slice pins s σ H x y v u Q I rx ry q hs
  · exact h' value slice pins s σ H x y v u Q I rx ry q hs
theorem MtR.or {id : String} {r r' : V → List V → Hp → VK → Prop} (h : MtR X id r) (h' : MtR X id r') : MtR X id (fun x xs H Q => r x xs H Q ∨ r' x xs H Q) := by
  intro pins s σ H x xs v us Q I rx rs q
  rcases q with q | q
  · exact h pins s σ H x xs v us Q I rx rs q
  · exact h' pins s σ H x xs v us Q I rx rs q
theorem pe_ix {r : R2} (hr : IxR X r) (ha : PE X a ta) (hb : PE X b tb) (hs : PlainIx b) : PE X (.Subscript a b pos) (tOp r ta tb) := by
  intro pins s σ H Q I h
  exact Subscript_ (binT ha hb I h fun v u s2 x y H2 I2 rx ry q => hr a b pins s2 σ H2 x y v u Q I2 rx ry q (hs _ _))

def rIxL (K : PySem.W.Frag) : R2 := fun x y H Q => ∃ p xs i v, x = .ref p ∧ y = .int i ∧ SqL K H p xs ∧ atI xs i = some v ∧ Q v H
def rIxT (K : PySem.W.Frag) : R2 := fun x y H Q => ∃ p xs i v, x = .ref p ∧ y = .int i ∧ SqT K H p xs ∧ atI xs i = some v ∧ Q v H
def rIxS : R2 := fun x y H Q => ∃ z i c, x = .str z ∧ y = .int i ∧ z.length ≤ sizeLine ∧ atI z.cps.toList i = some c ∧ Q (.str ⟨#[c]⟩) H
theorem ix_list : IxR X (rIxL X.K) := by
  intro value slice pins s σ H x y v u Q I rx ry h hs
  obtain ⟨p, xs, i, z, rfl, rfl, hq, he, q⟩ := h
  cases rx
  obtain ⟨t, rfl⟩ := ry
  obtain ⟨its, r, pl, hz⟩ := I.list hq
  obtain ⟨j, h1, h2, h3, h4, h5⟩ := atI_get he
  obtain ⟨w, ew, rw'⟩ := r.get h2
  have hl := r.length
  have hn := line63
  have fin : EP X pins σ Q w s := ⟨z, H, I, rw', q⟩
  by_cases h0 : 0 ≤ i
  · have hj : i.toNat = j := by
      rw [seqIndex_of h0 h5] at h1
      exact Option.some.inj h1
    exact item_listR pl.isList h0 (by omega) (by rw [hj]; simpa using ew) fin hs
  · have hj : (i + (its.toArray.size : Int)).toNat = j := by
      rw [seqIndex_neg (by omega) h4] at h1
      rw [List.size_toArray, ← hl]
      exact Option.some.inj h1
    exact subscriptTail_builtinR (x := w) pl.isList.typeIs slot_list_getitem.lookup
      (wpAny_getItem_list_neg (Q := fun r s' => r = w ∧ EP X pins σ Q r s') pl.isList (by omega) (by rw [List.size_toArray] <;> omega) (by omega) (by rw [hj]; simpa using ew) ⟨rfl, fin⟩) hs
theorem ix_tup : IxR X (rIxT X.K) := by
  intro value slice pins s σ H x y v u Q I rx ry h hs
  obtain ⟨p, xs, i, z, rfl, rfl, hq, he, q⟩ := h
  cases rx
  obtain ⟨t, rfl⟩ := ry
  obtain ⟨its, r, pl, hz⟩ := I.tuple hq
  obtain ⟨j, h1, h2, h3, h4, h5⟩ := atI_get he
  obtain ⟨w, ew, rw'⟩ := r.get h2
  have hl := r.length
  have hn := line63
  have fin : EP X pins σ Q w s := ⟨z, H, I, rw', q⟩
  exact subscriptTail_builtinR (x := w) pl.typeIs slot_tuple_getitem.lookup
    (getItem_tuple (j := j) (Q := fun r s' => r = w ∧ EP X pins σ Q r s') pl (by omega) (by omega) (by rw [List.size_toArray, ← hl]; exact h1) (by simpa using ew) ⟨rfl, fin⟩) hs
theorem ix_str : IxR X rIxS := by
  intro value slice pins s σ H x y v u Q I rx ry h hs
  obtain ⟨z, i, c, rfl, rfl, hz, he, q⟩ := h
  obtain ⟨t, rfl⟩ := rx
  obtain ⟨t', rfl⟩ := ry
  obtain ⟨j, h1, h2, h3, h4, h5⟩ := atI_get he
  have hl : z.cps.toList.length = z.length := by simp [Str.length]
  rw [hl] at h1 h4 h5
  have hn := line63
  exact tail_any (typeIs_str s z t) slot_str_getitem.lookup (getItem_str (c := c) (by
    have e1 : decide (i < -(2 ^ 63 : Int)) = false := decide_eq_false (by omega)
    have e2 : decide (i ≥ 2 ^ 63) = false := decide_eq_false (by omega)
    rw [e1, e2, Bool.or_false]) (by rw [h1]; simpa using h2) ⟨.str ⟨#[c]⟩, H, I.tok _, ⟨_, rfl⟩, q⟩) hs

theorem Inv.lst {pins : List (Addr × Obj)} {σ : St} {H : Hp} {s : Shared} {p : Addr} {xs : List V} (I : Inv X pins σ H s) (h : H p = some (.lst xs)) :
    ∃ (its : List Value) (n : Nat), Vals xs its ∧ s.heap.get? p = some { cls := .type "list", data := .seq its.toArray n } ∧ xs.length ≤ sizeLine := by
  obtain ⟨z, its, n, r, e⟩ := I.hok p _ h
  exact ⟨its, n, r, e, z⟩

theorem slice_bounds (lo hi : Option Int) (n : Nat) : (sliceBounds lo hi none n).1 = ((HT.sIx n 0 lo : Nat) : Int) ∧ (sliceBounds lo hi none n).2.1 = ((HT.sIx n n hi : Nat) : Int) ∧ (sliceBounds lo hi none n).2.2 = 1 := by
  refine ⟨?_, ?_, rfl⟩
  · cases lo with
    | none => simp [sliceBounds, HT.sIx]
    | some i =>
      simp only [sliceBounds, HT.sIx, Option.getD_none, show (1 : Int) > 0 by decide, if_true]
      by_cases h : i < 0
      · simp only [h, if_true] <;> omega
      · simp only [h, if_false] <;> omega
  · cases hi with
    | none => simp [sliceBounds, HT.sIx]
    | some i =>
      simp only [sliceBounds, HT.sIx, Option.getD_none, show (1 : Int) > 0 by decide, if_true]
      by_cases h : i < 0
      · simp only [h, if_true] <;> omega
      · simp only [h, if_false] <;> omega
theorem slicePick_cut (its : List Value) (lo hi : Option Int) : slicePick its.toArray lo hi none = ((its.drop (HT.sIx its.length 0 lo)).take (HT.sIx its.length its.length hi - HT.sIx its.length 0 lo)).toArray := by
  obtain ⟨h1, h2, h3⟩ := slice_bounds lo hi its.toArray.size
  unfold slicePick
  rw [h1, h2, h3]
  simp only [sliceRange_one, pick_run, List.size_toArray] <;> rfl
def rSlL (K : PySem.W.Frag) : V → Option Int → Option Int → Hp → VK → Prop := fun x lo hi H Q => ∃ a xs, x = .ref a ∧ SqL K H a xs ∧ ∀ p, H p = none → Q (.ref p) (upd H p (.lst (cutV xs lo hi)))
theorem sl_list : SlR X (rSlL X.K) := by
  intro pins s σ H x v vl vu lo hi sl Q I rx hs pl pu h
  obtain ⟨a, xs, rfl, hx, q⟩ := h
  cases rx
  obtain ⟨its, r, ht, hz⟩ := I.list hx
  have hlen := r.length
  refine ⟨"list", _, slot_list_getitem.lookup, ht.isList.typeIs, ?_⟩
  refine wpAny_getItem_list_slice ht.isList hs pl pu .none (by simp) ?_ (by rw [List.size_toArray] <;> omega)
  rw [slicePick_cut, ← hlen]
  refine ⟨.ref s.heap.objs.size, _, I.laid (t' := s.toks) (o := .lst (cutV xs lo hi)) (fun b ob q => Heap.get?_push_of_some _ q) (Nat.le_refl _) ?_, rfl, q _ (I.hok.fresh (Nat.le_refl _))⟩
  exact ⟨Nat.le_trans (cutV_length xs lo hi) hz, _, 0, (r.drop (HT.sIx xs.length 0 lo)).take (HT.sIx xs.length xs.length hi - HT.sIx xs.length 0 lo), Heap.get?_push_size _ rfl⟩


theorem CallR.or {f : Value} {r r' : List V → Hp → VK → Prop} (h : CallR X f r) (h' : CallR X f r') : CallR X f (fun xs H Q => r xs H Q ∨ r' xs H Q) := by
  intro pins s σ H xs us Q I rs q
  rcases q with q | q
  · exact h pins s σ H xs us Q I rs q
  · exact h' pins s σ H xs us Q I rs q

def tyV (K : PySem.W.Frag) (T : String) (x : V) (H : Hp) : Prop := match x with
  | .str _ => T = "str"
  | .int _ => T = "int"
  | .ref p => (T = "list" ∧ ∃ xs, SqL K H p xs) ∨ (T = "tuple" ∧ ∃ o, K.lookup p = some o ∧ o.cls = .type "tuple" ∧ o.dict = none) ∨
      (T = "dict" ∧ ((∃ kvs, H p = some (.dK kvs)) ∨ ∃ kvs, H p = some (.dT kvs))) ∨ (T = "set" ∧ ∃ S n, H p = some (.set S n))
  | _ => False
theorem tyV_is {pins : List (Addr × Obj)} {σ : St} {H : Hp} {s : Shared} {T : String} {x : V} {v : Value} (I : Inv X pins σ H s) (r : RelV x v) (ty : tyV X.K T x H) :
    s.TypeIs v T ∧ ∀ a, v = .ref a → ∃ ob, s.heap.get? a = some ob ∧ ob.dict = none := by
  cases x with
  | str z =>
    obtain ⟨t, rfl⟩ := r
    cases (show T = "str" from ty)
    exact ⟨typeIs_str s z t, fun _ e => nomatch e⟩
  | int i =>
    obtain ⟨t, rfl⟩ := r
    cases (show T = "int" from ty)
    exact ⟨typeIs_int s i t, fun _ e => nomatch e⟩
  | ref p =>
    cases r
    rcases ty with ⟨rfl, xs, hq⟩ | ⟨rfl, o, hk, hc, hd⟩ | ⟨rfl, hk⟩ | ⟨rfl, S, n, hk⟩
    · obtain ⟨its, _, pl, _⟩ := I.list hq
      refine ⟨pl.isList.typeIs, fun a e => ?_⟩
      cases e
      obtain ⟨o, n, e, c, hd, _⟩ := pl
      exact ⟨o, e, hd⟩
    · refine ⟨⟨o, I.kIn p o hk, hc⟩, fun a e => ?_⟩
      cases e
      exact ⟨o, I.kIn _ o hk, hd⟩
    · have z : ∃ o, s.heap.get? p = some o ∧ o.ExactDict := by
        rcases hk with ⟨kvs, hk⟩ | ⟨kvs, hk⟩
        · obtain ⟨_, _, _, _, o, _, _, e, ex, _⟩ := I.hok p _ hk
          exact ⟨o, e, ex⟩
        · obtain ⟨_, _, _, _, o, _, _, e, ex, _⟩ := I.hok p _ hk
          exact ⟨o, e, ex⟩
      obtain ⟨o, e, ex⟩ := z
      refine ⟨⟨o, e, ex.1⟩, fun a e2 => ?_⟩
      cases e2
      exact ⟨o, e, ex.2.1⟩
    · obtain ⟨o, _, _, _, e, ex, _⟩ := I.hok p _ hk
      refine ⟨⟨o, e, ex.1⟩, fun a e2 => ?_⟩
      cases e2
      exact ⟨o, e, ex.2.1⟩
  | _ => exact False.elim ty
def tBM (K : PySem.W.Frag) (T : String) (r : V → List V → Hp → VK → Prop) (to : TE) (t : TA) : TE := fun σ H Q => to σ H fun x H1 => tyV K T x H1 ∧ t σ H1 fun xs H2 => r x xs H2 Q
variable {o e : Expr} {es : List Expr} {to : TE} {t : TA} {name : Str} {apos cpos : Pos} {T id : String} {r : V → List V → Hp → VK → Prop}
theorem pe_bm (pa : PlainAttrs T) (slot : Slot T name id) (hty : typeOf (.builtin id) = pure (.type "method_descriptor")) (hm : MtR X id r) (ho : PE X o to) (ha : PA X (e :: es) t)
    (hbase : attributeBase o name X.env (eval o X.env) = eval o X.env := by rfl)
    (hfew : ((backTo cpos (starEach (e :: es) X.env)).all (fun x => !x.1) && (backToKw cpos (keywordEach [] X.env)).all (fun x => x.1.isSome)
      && decide ((e :: es).length + ([] : List Keyword).length + (if ([] : List Keyword).isEmpty then 0 else 1) < 30)) = true := by rfl)
    (hline : (apos.endLine == cpos.line) = true := by rfl) (hs : starEach (e :: es) X.env = (false, eval e X.env) :: starEach es X.env := by rfl) (hplain : (backTo cpos (starEach es X.env)).any (·.1) = false := by rfl) :
    PE X (.Call (.Attribute o name apos) (e :: es) [] cpos) (tBM X.K T r to t) := by
  intro pins s σ H Q I h
  refine wpAny_Call_method_late hbase hfew hline rfl (thn (ho pins s σ H _ I h) fun v s1 ⟨x, H1, I1, r1, ty, q1⟩ => ?_)
  obtain ⟨h1, h2⟩ := tyV_is I1 r1 ty
  refine ⟨T, id, pa, slot, hty, h1, h2, ?_⟩
  have hA := ha cpos pins s1 σ H1 _ I1 q1
  rw [hs] at hA ⊢
  refine Calls.callWith_builtin (by show (false || (backTo cpos (starEach es X.env)).any (·.1)) = false; rw [hplain] <;> rfl) (Calls.evalArgs_plain ?_)
  exact thn hA fun us s2 ⟨vs, H2, I2, r2, q2⟩ => hm pins s2 σ H2 x vs v us Q I2 r1 r2 q2
end
end L2

namespace L2
open PySem PySem.Spec PyProof.Rows


theorem Vals.one : ∀ {x : V} {us : List Value}, Vals [x] us → ∃ u, us = [u] ∧ RelV x u
  | _, _, .cons r .nil => ⟨_, rfl, r⟩
theorem Vals.two : ∀ {x y : V} {us : List Value}, Vals [x, y] us → ∃ u v, us = [u, v] ∧ RelV x u ∧ RelV y v
  | _, _, _, .cons r (.cons q .nil) => ⟨_, _, rfl, r, q⟩
theorem Vals.zero : ∀ {us : List Value}, Vals [] us → us = []
  | _, .nil => rfl
theorem Vals.reverse {xs : List V} {us : List Value} (h : Vals xs us) : Vals xs.reverse us.reverse := by
  induction h with
  | nil => exact .nil
  | cons r t ih => rw [List.reverse_cons, List.reverse_cons]; exact Vals.append ih (.cons r .nil)

section
variable {X : Cx} {pins : List (Addr × Obj)} {σ : St} {H : Hp} {s : Shared} {l b : Addr} {xs ys zs : List V}

theorem Inv.lnew {its : List Value} {t' : Nat} (I : Inv X pins σ H s) (hv : Vals ys its) (hz : ys.length ≤ sizeLine) :
    Inv X pins σ (upd H s.heap.objs.size (.lst ys)) { s with heap := s.heap.push { cls := .type "list", data := .seq its.toArray }, toks := t' } :=
  I.laid (fun _ _ q => Heap.get?_push_of_some _ q) (Nat.le_refl _) ⟨hz, its, 0, hv, Heap.get?_push_size _ rfl⟩
theorem Inv.fresh (I : Inv X pins σ H s) : H s.heap.objs.size = none := I.hok.fresh (Nat.le_refl _)
theorem Inv.lstM (I : Inv X pins σ H s) (hH : H l = some (.lst xs)) : xs.length ≤ sizeLine ∧ ∃ (its : List Value) (n : Nat), Vals xs its ∧ xs.length = its.length ∧ s.heap.get? l = some { cls := .type "list", data := .seq its.toArray n } := by
  obtain ⟨z, its, n, r, e⟩ := I.hok l _ hH
  exact ⟨z, its, n, r, r.length, e⟩

end

section
variable {X : Cx}







def rCat : R2 := fun x y H Q => ∃ l b xs zs, x = .ref l ∧ y = .ref b ∧ H l = some (.lst xs) ∧ H b = some (.lst zs) ∧ xs.length + zs.length ≤ sizeLine ∧ ∀ p, H p = none → Q (.ref p) (upd H p (.lst (xs ++ zs)))
theorem op_cat : OpR X (binaryOp .Add) rCat := by
  intro pins s σ H x y v u Q I rx ry h
  obtain ⟨l, b, xs, zs, rfl, rfl, hH, hB, hz, q⟩ := h
  cases rx
  cases ry
  obtain ⟨z, its, n, r, hl, e⟩ := I.lstM hH
  obtain ⟨z2, its2, n2, r2, hl2, e2⟩ := I.lstM hB
  refine PySem.P.add_list e e2 ?_ (by rw [List.size_toArray, List.size_toArray]; omega)
  have ea : its.toArray ++ its2.toArray = (its ++ its2).toArray := by simp
  rw [ea]
  exact ⟨.ref _, _, I.lnew (t' := s.toks) (r.append r2) (by rw [List.length_append]; omega), rfl, q _ I.fresh⟩

end

section
variable {prog : Program} {w : World} {A : Around} {E : Value → Shared → Prop} {s : Shared}
set_option maxRecDepth 100000 in
end

section
variable {X : Cx}
end
end L2

namespace Att
open PySem PySem.W PySem.Calls PyProof.Rows

theorem ints_of_wellAll {P : Params} {h : Heap} : ∀ (ns : List Int) (vs : List Value), WellAll P h vs (ns.map WData.int) → IntsAre vs ns := by
  intro ns
  induction ns with
  | nil =>
    intro vs w
    rw [List.map_nil] at w
    cases w
    exact .nil
  | cons n ns ih =>
    intro vs w
    rw [List.map_cons] at w
    cases w with
    | cons a b =>
      cases a
      exact .cons _ _ (ih _ b)

theorem script_of {l : OpenLaw} {n : Nat} (hn : l.most = some n) {P : Params} {h : Heap} {args : List WData} {vals : List Value}
    (hpre : l.row.toRowW.claim.pre args = true) (hwl : WellAll P h vals args) :
    ∃ a vs ns, vals = [Value.ref a] ∧ args = [WData.list (ns.map WData.int)] ∧ h.get? a = some { cls := .type "list", data := .seq vs.toArray } ∧ IntsAre vs ns ∧ ns.length ≤ n := by
  have hsh : WShape.hasAll [] args [.list .int] = true := (pre_splitW hpre).1
  have hc : l.pre.holds [] { args := args } = true := (pre_splitW hpre).2
  obtain ⟨d, r, rfl, h1, h2⟩ := hasAllW_cons hsh
  obtain rfl := hasAllW_nil h2
  obtain ⟨xs, rfl, h3⟩ := hasW_list h1
  obtain ⟨ns, rfl⟩ := items_int h3
  have hlen : ns.length ≤ n := by
    unfold OpenLaw.pre at hc
    have h4 : (WTm.not (.lt (.lit (.int (n : Int))) (.len (.arg 0)))).holds [] { args := [.list (ns.map .int)] } = true := by
      have h4 := (holds_andW hc).1
      rw [hn] at h4
      exact h4
    have h5 := condW_of h4 (w_not (w_lt w_lit (w_len_list (w_arg rfl))))
    rw [List.length_map] at h5
    refine Nat.le_of_not_lt fun q => ?_
    have q' : (n : Int) < ((ns.length : Nat) : Int) := by omega
    first
      | (rw [decide_eq_true q'] at h5; exact absurd h5 (by decide))
      | (simp at h5; omega)
  cases hwl with
  | cons w1 w2 =>
    cases w2
    cases w1 with
    | list ho hall => exact ⟨_, _, ns, rfl, rfl, ho, ints_of_wellAll ns _ hall, hlen⟩

theorem post_true (l : OpenLaw) (args : List WData) : l.row.toRowW.claim.post args (.bool true) args = true :=
  postW_of (r := l.row.toRowW) (X := (true == true))
    (show WShape.has [] (.bool true) .bool = true by first | rfl | decide | simp [WShape.has, WShape.arms, WShape.armsAll])
    (show (WTm.eq .res (.lit (.bool true))).value [] { args := args, res := some (.bool true), after := args } = some (.bool (true == true)) from w_eq_bool (w_res rfl) w_lit) rfl


theorem attach_call {l : OpenLaw} {n : Nat} {q : Program} {loose : List Str} {XP : (Str → Option Value) → Heap → Prop} {YP : World → Heap → Prop} {d : DefRec}
    (hn : l.most = some n) (hdf : d.params.defaults = [])
    (call : ∀ (w : World) (s₀ s₁ : Shared) (mg mb : Str → Option Value) (fa : Addr) (o : Obj) (pm cd doc : Value) (a : Addr) (vs : List Value) (ns : List Int),
      Ground q loose [] XP w s₀ mg mb s₁.heap → YP w s₁.heap →
      s₁.heap.get? fa = some o → o.data = .func (docDef d.name d.params d.body d.scope pm cd doc) → s₁.heap.CodeRec cd d.name → mg d.name = some (.ref fa) →
      s₁.heap.get? a = some { cls := .type "list", data := .seq vs.toArray } → IntsAre vs ns → ns.length ≤ n → s₁.gens = #[] →
      codeAny (model l.prog w) callerA (.call (.ref fa) ⟨[.ref a], []⟩) (fun r s' => r = .ok (.ret (.bool true)) ∧ OldK s₁.heap s'.heap ∧ s'.os = s₁.os ∧ AllBare s'.gens) s₁) :
    WalkO q loose XP YP l.row.toRowW d [] (fun f vs => PySem.call f vs) := by
  intro w s₀ s₁ mg mb G Y fa o pm cd doc dV kV ho hd hcd hD hmg hg args vals as hpre hlay hrd hwl hlo
  obtain rfl : dV = .none := Dflts.none hD hdf
  obtain rfl : kV = .none := Dflts.noKw hD
  obtain ⟨a, vs, ns, rfl, rfl, hobj, hints, hlen⟩ := script_of hn hpre hwl
  refine enter_call (codeAny_mono (call w s₀ s₁ mg mb fa o pm cd doc a vs ns G Y ho (fd_plain hd) hcd hmg hobj hints hlen hg) fun r s' hq => ?_)
  obtain ⟨rfl, h2, h3, h4⟩ := hq
  exact ⟨.inl ⟨.bool true, .bool true, [], rfl, fun _ => rfl, .bool true, post_true l _, fun _ => ⟨List.Pairwise.nil, fun _ hm => (nomatch hm)⟩⟩, h2, h3, h4⟩


section
variable {prog : Program} {w : World} {A : Around} {E : Value → Shared → Prop} {s : Shared} {K : Frag}





def ledger (h : Heap) (L d : Addr) : List (Addr × Obj) := (List.range h.objs.size).filterMap fun a => if a = L ∨ a = d then none else (h.get? a).map fun o => (a, o)

end
end Att

namespace L2
open PySem PySem.Spec PyProof.Rows

theorem vals_ints : ∀ {vs : List Value} {ns : List Int}, IntsAre vs ns → Vals (ns.map V.int) vs
  | _, _, .nil => .nil
  | _, _, .cons n t h => .cons ⟨t, rfl⟩ (vals_ints h)

def Only (H : Hp) : Prop := ∀ b, H b = none ∨ ∃ o xs, H b = some (.frz o (.lst xs))

theorem law_call {P : Program} {w : World} {K : PySem.W.Frag} {mg mb : Str → Option Value} {CX : CXT} {k : Nat} {fa a : Addr} {fd : FuncData} {x : Str} {sp : Sp} {s₁ : Shared} {vs : List Value} {ns : List Int}
    (KX : K.In s₁.heap) (hns : s₁.heap.Ns mainGlobals mg) (hb : s₁.heap.Ns builtinsNs mb) (hbb : ∀ x : Str, x ≠ "__name__" → mb x = bootBuiltins x) (hlim : s₁.heap.NoLimit) (hsee : s₁.heap.NoSeer) (hg : s₁.gens = #[])
    (ha : s₁.heap.get? a = some { cls := .type "list", data := .seq vs.toArray }) (hi : IntsAre vs ns) (hl : ns.length ≤ sizeLine) (hr : Room k callerA)
    (F : ∀ base : Heap, K.In base → base.Ns mainGlobals mg → FnOk P w K mg base CX k fa fd [x] sp) (hbind : ∀ (s : Shared) (u : Value), BindsTo s fd ⟨[u], []⟩ [(x, u)])
    (hsp : ∀ H : Hp, Only H → SqL K H a (ns.map V.int) → sp [.ref a] H (fun v _ => v = .bl true) fun _ _ _ => False)
    (hCX : ∀ H e s', CX [] H s₁ (fun _ _ _ => False) e s' → False) :
    codeAny (model P w) callerA (.call (.ref fa) ⟨[.ref a], []⟩) (fun r s' => r = .ok (.ret (.bool true)) ∧ OldK s₁.heap s'.heap ∧ s'.os = s₁.os ∧ AllBare s'.gens) s₁ := by
  have rv := vals_ints hi
  have lenV := hi.length
  -- from an abstract heap in which nothing but the script may be tracked
  have core : ∀ H : Hp, Only H → SqL K H a (ns.map V.int) → HOk P w H s₁.heap → (∀ b, H b ≠ none → b = a) → (H a ≠ none → K.lookup a = none) →
      codeAny (model P w) callerA (.call (.ref fa) ⟨[.ref a], []⟩) (fun r s' => r = .ok (.ret (.bool true)) ∧ OldK s₁.heap s'.heap ∧ s'.os = s₁.os ∧ AllBare s'.gens) s₁ := by
    intro H hO hS hok hA hK
    have base_of : ∀ {b : Addr} {o : Obj}, s₁.heap.get? b = some o → H b = none → (hidT s₁.heap H).get? b = some o := fun e n => hidT_get e n
    have noA : ∀ {b : Addr} {o : Obj} {es : Array DictEntry} {ep : Nat}, s₁.heap.get? b = some o → o.data = .dict es ep → H b = none := fun {b o es ep} e d => by
      cases q : H b with
      | none => rfl
      | some u =>
        have e' : b = a := hA b (by rw [q]; simp)
        subst e'
        rw [ha] at e; cases e
        have d' : Data.seq vs.toArray _ = Data.dict es ep := d
        cases d'
    have nsK : ∀ {b : Addr} {m : Str → Option Value}, s₁.heap.Ns b m → (hidT s₁.heap H).Ns b m := fun {b m} ⟨o, es, ep, e, d, r⟩ => ⟨o, es, ep, base_of e (noA e d), d, r⟩
    have hKb : K.In (hidT s₁.heap H) := fun b o e => base_of (KX b o e) (by
      cases q : H b with
      | none => rfl
      | some u =>
        have e' : b = a := hA b (by rw [q]; simp)
        subst e'
        rw [hK (by rw [q]; simp)] at e; cases e)
    have hM : Mod K mg (hidT s₁.heap H) := ⟨hKb, nsK hns, ⟨mb, nsK hb, hbb⟩, let ⟨mc, h1, h2⟩ := hlim; ⟨mc, nsK h1, h2⟩,
      ⟨let ⟨mc, h1, h2⟩ := hsee.statics; ⟨mc, nsK h1, h2⟩, let ⟨mc, h1, h2⟩ := hsee.mods; ⟨mc, nsK h1, h2⟩, let ⟨mc, h1, h2⟩ := hsee.imp; ⟨mc, nsK h1, h2⟩, by
        obtain ⟨mg', bm, ob, n1, n2, n3, n4, n5⟩ := hsee.main
        refine ⟨mg', bm, ob, nsK n1, n2, base_of n3 ?_, n4, n5⟩
        cases q : H bm with
        | none => rfl
        | some u =>
          have e' : bm = a := hA bm (by rw [q]; simp)
          subst e'
          rw [ha] at n3; cases n3
          exact absurd (show Value.type "list" = Value.type "module" from n4) (fun z => by injection z with z; exact absurd z (by decide))⟩⟩
    have e0 : Env0 P w K mg (hidT s₁.heap H) callerA [] s₁ H := ⟨rfl, hM, fun b o e => of_hidT e, Nat.le_of_eq (hidT_size _ _), trivial, fun b hb => absurd (show b ∈ ([] : List Addr) from hb) (by simp), hok, .of_eq hg⟩
    refine codeAny_mono ((F _ hKb (nsK hns)).run callerA [] s₁ H ⟨[.ref a], []⟩ [.ref a] [.ref a] _ _ hr e0 (hbind s₁ (.ref a)) (.cons rfl .nil) (hsp H hO hS)) fun r s' h => ?_
    cases r with
    | error e => exact (hCX H e s' h).elim
    | ok fl =>
      cases fl with
      | next => exact False.elim h
      | brk => exact False.elim h
      | cont => exact False.elim h
      | ret u =>
        obtain ⟨v, H', os, bare, un, hok', r', q⟩ := h
        have q' : v = .bl true := q
        subst q'
        obtain rfl : u = Value.bool true := r'
        refine ⟨rfl, OldK.of_keep fun b o e => ?_, os, bare⟩
        cases q : H b with
        | none => exact un.keep b o e q (by intro z; exact absurd (show b ∈ ([] : List Addr) from z) (by simp)) (by simp)
        | some u =>
          rcases hO b with z | ⟨ob, xs, z⟩
          · rw [q] at z; cases z
          · have z2 := un.frzs b ob _ z
            obtain ⟨e1, _⟩ := hok b _ z
            obtain ⟨e2, _⟩ := hok' b _ z2
            rw [e] at e1; cases e1
            exact e2
  cases hk : K.lookup a with
  | some o =>
    -- the script is one of the module's own objects
    have e := KX a o hk
    rw [ha] at e
    cases e
    refine core (fun _ => none) (fun _ => .inl rfl) (.inr ⟨_, vs.toArray, _, hk, rfl, rfl, rfl, by rw [List.size_toArray, lenV]; exact hl, by simpa using rv⟩) (fun b u z => by have z' : (none : Option HO) = some u := z; cases z') (fun b z => absurd rfl z) fun z => absurd rfl z
  | none =>
    refine core (fun b => if b = a then some (.frz { cls := .type "list", data := .seq vs.toArray } (.lst (ns.map V.int))) else none) (fun b => ?_) (.inl (.inr ⟨{ cls := .type "list", data := .seq vs.toArray }, if_pos rfl⟩)) (fun b u z => ?_) (fun b z => ?_) fun _ => hk
    · by_cases hb : b = a
      · exact .inr ⟨_, _, if_pos hb⟩
      · exact .inl (if_neg hb)
    · by_cases hb : b = a
      · have z' := (if_pos hb).symm.trans z
        cases z'
        subst hb
        exact ⟨ha, by rw [List.length_map]; exact hl, vs, _, rv, ha⟩
      · have z' := (if_neg hb).symm.trans z
        cases z'
    · by_cases hb : b = a
      · exact hb
      · exact absurd (if_neg hb) z
end L2

namespace L2
open PySem PySem.Spec PyProof.Rows

abbrev KOf {K : PySem.W.Frag} {h : Heap} (_ : K.In h) : PySem.W.Frag := K

theorem walk_of {l : PySem.W.OpenLaw} {n k : Nat} {q : Program} {loose : List Str} {XP : (Str → Option Value) → Heap → Prop} {YP : World → Heap → Prop} {d : DefRec} {K : Params → PySem.W.Frag} {CX : World → CXT} {sp : World → Sp} {x : Str}
    (hn : l.most = some n) (hn2 : n ≤ sizeLine) (hdf : d.params.defaults = []) (hr : Room k callerA) (hq : importsNone q = true)
    (hY : ∀ (w : World) (h : Heap), YP w h → (K w.params).In h)
    (F : ∀ (w : World) (mg : Str → Option Value) (fa : Addr) (h : Heap), (K w.params).In h → h.Ns mainGlobals mg → mg d.name = some (.ref fa) →
      ∃ fd : FuncData, (∀ (s : Shared) (u : Value), BindsTo s fd ⟨[u], []⟩ [(x, u)]) ∧
        ∀ base : Heap, (K w.params).In base → base.Ns mainGlobals mg → FnOk l.prog w (K w.params) mg base (CX w) k fa fd [x] (sp w))
    (hsp : ∀ (w : World) (H : Hp) (a : Addr) (ns : List Int), ns.length ≤ n → Only H → SqL (K w.params) H a (ns.map V.int) → sp w [.ref a] H (fun v _ => v = .bl true) fun _ _ _ => False)
    (hCX : ∀ (w : World) (H : Hp) (s : Shared) (e : Value) (s' : Shared), CX w [] H s (fun _ _ _ => False) e s' → False) :
    PySem.W.WalkO q loose XP YP l.row.toRowW d [] (fun f vs => PySem.call f vs) := by
  refine Att.attach_call hn hdf fun w s₀ s₁ mg mb fa o pm cd doc a vs ns G Y ho hd hcd hmg hobj hints hlen hg => ?_
  have KX := hY w _ Y
  obtain ⟨fd, hb, hF⟩ := F w mg fa _ KX G.T.g hmg
  exact law_call KX G.T.g G.T.b G.T.builtins G.T.nolimit (G.T.seer hq) hg hobj hints (Nat.le_trans hlen hn2) hr hF hb (fun H hO hS => hsp w H a ns hlen hO hS) fun H e s' => hCX w H s₁ e s'
theorem walk_ofK {l : PySem.W.OpenLaw} {n k : Nat} {q : Program} {loose : List Str} {XP : (Str → Option Value) → Heap → Prop} {YP : World → Heap → Prop} {d : DefRec} {K : Params → PySem.W.Frag} {CX : CXT} {sp : PySem.W.Frag → Sp} {x : Str}
    (hn : l.most = some n) (hn2 : n ≤ sizeLine) (hdf : d.params.defaults = []) (hr : Room k callerA) (hq : importsNone q = true)
    (hY : ∀ (w : World) (h : Heap), YP w h → (K w.params).In h)
    (F : ∀ (w : World) (mg : Str → Option Value) (fa : Addr) (h : Heap), (K w.params).In h → h.Ns mainGlobals mg → mg d.name = some (.ref fa) →
      ∃ fd : FuncData, (∀ (s : Shared) (u : Value), BindsTo s fd ⟨[u], []⟩ [(x, u)]) ∧
        ∀ base : Heap, (K w.params).In base → base.Ns mainGlobals mg → FnOk l.prog w (K w.params) mg base CX k fa fd [x] (sp (K w.params)))
    (hsp : ∀ (K : PySem.W.Frag) (H : Hp) (a : Addr) (ns : List Int), ns.length ≤ n → Only H → SqL K H a (ns.map V.int) → sp K [.ref a] H (fun v _ => v = .bl true) fun _ _ _ => False)
    (hCX : ∀ (H : Hp) (s : Shared) (e : Value) (s' : Shared), CX [] H s (fun _ _ _ => False) e s' → False) :
    PySem.W.WalkO q loose XP YP l.row.toRowW d [] (fun f vs => PySem.call f vs) :=
  walk_of (K := K) (CX := fun _ => CX) (sp := fun w => sp (K w.params)) hn hn2 hdf hr hq hY F (fun w H a ns h1 h2 h3 => hsp (K w.params) H a ns h1 h2 h3) fun _ H s e s' => hCX H s e s'
end L2


namespace L2
open PySem PySem.Spec PyProof.Rows

def inClass (s : Stmt) (j : Nat) : Stmt := match s with
  | .ClassDef _ _ _ body _ _ _ _ _ _ _ => body.getD j (.Pass ⟨0, 0, 0, 0⟩)
  | _ => .Pass ⟨0, 0, 0, 0⟩
def defArgs (s : Stmt) : Arguments := match s with
  | .FunctionDef _ a _ _ _ _ _ _ _ _ => a
  | _ => { posonlyargs := [], args := [], vararg := none, kwonlyargs := [], kw_defaults := [], kwarg := none, defaults := [] }
def defBody (s : Stmt) : List Stmt := match s with
  | .FunctionDef _ _ b _ _ _ _ _ _ _ => b
  | _ => []
def defScope (s : Stmt) : Scope := match s with
  | .FunctionDef _ _ _ _ _ _ sc _ _ _ => sc
  | _ => { kind := .function, names := [], isGenerator := false, isCoroutine := false }

abbrev CX0 : CXT := fun _ _ _ _ _ _ => False
abbrev E0 : XK := fun _ _ _ => False
theorem pass0 {X : Cx} : Passes CX0 X E0 := fun _ _ _ _ _ _ _ h => h.elim

structure Fun (K : PySem.W.Frag) (x qual : Str) (st : Stmt) (f : Addr) (fd : FuncData) : Prop where
  ex : ∃ (oc : Value) (od : Option Addr) (kV doc pm : Value) (an : Option Addr) (cdv ct : Value) (osl : Array (Option Value)),
    fd = PySem.W.fnOf x qual (defArgs st) (defBody st) (defScope st) .none kV doc pm an cdv ct ∧ K.lookup f = some ⟨oc, od, .func fd, osl⟩ ∧ PySem.W.codeIn K cdv qual = true
  kp : PySem.W.keepIn K (.ref f) = true
section
variable {P : Program} {w : World} {K : PySem.W.Frag} {mg : Str → Option Value} {base : Heap}
theorem Fun.ok {x qual : Str} {st : Stmt} {f : Addr} {fd : FuncData} {N ps : List Str} {k : Nat} {sp : Sp} (F : Fun K x qual st f fd) (S : FnScope N ps (defScope st)) (len : ∀ vs H Q E, sp vs H Q E → vs.length = ps.length)
    (hbody : ∀ (cdv : Value) (A : Around) (outer : List Env) (s : Shared) (H : Hp) (vs : List V) (Q : VK) (E : XK), Room k (A.deeper (envOfC qual (defScope st) s.heap.objs.size f cdv)) → sp vs H Q E →
      ∃ t, PSs (cxOf CX0 P w K mg base N qual (defScope st) f cdv A outer s H E).nox (defBody st) t ∧ t { nx := fun _ H' => Q .non H', rt := Q } (start N vs) H) : FnOk P w K mg base CX0 (k + 1) f fd ps sp := by
  obtain ⟨oc, od, kV, doc, pm, an, cdv, ct, osl, rfl, lk, hcd⟩ := F.ex
  refine fn_of lk hcd S len fun A outer s H vs Q E hr hsp => ?_
  obtain ⟨t, h, q⟩ := hbody cdv A outer s H vs Q E hr hsp
  exact ⟨t, h.nox, q⟩
theorem Fun.binds {x qual : Str} {st : Stmt} {f : Addr} {fd : FuncData} {ps : List Str} (F : Fun K x qual st f fd)
    (h : ∀ (kV doc pm : Value) (an : Option Addr) (cdv ct : Value) (us : List Value), us.length = ps.length → bindArgs (PySem.W.fnOf x qual (defArgs st) (defBody st) (defScope st) .none kV doc pm an cdv ct) ⟨us, []⟩ = pure (ps.zip us)) : Binds K fd ps [] := by
  obtain ⟨oc, od, kV, doc, pm, an, cdv, ct, osl, rfl, lk, hcd⟩ := F.ex
  exact .all (h kV doc pm an cdv ct)
theorem fun_mk {x qual : Str} {st : Stmt} {f : Addr} {oc : Value} {od an : Option Addr} {osl : Array (Option Value)} {kV doc pm cdv ct : Value} (l : K.lookup f = some ⟨oc, od, .func (PySem.W.fnOf x qual (defArgs st) (defBody st) (defScope st) .none kV doc pm an cdv ct), osl⟩)
    (c : PySem.W.codeIn K cdv qual = true) (k : PySem.W.keepIn K (.ref f) = true) : Fun K x qual st f (PySem.W.fnOf x qual (defArgs st) (defBody st) (defScope st) .none kV doc pm an cdv ct) := ⟨⟨oc, od, kV, doc, pm, an, cdv, ct, osl, rfl, l, c⟩, k⟩
end

section
variable {X : Cx}
theorem pv (i : Nat) {x : Str} {pos : Pos} (hN : X.N[i]? = some x := by rfl) (hv : Vis X.env.scope x := by first | exact Or.inl rfl | exact Or.inr (Or.inl rfl) | exact Or.inr (Or.inr rfl)) (hd : (x == ("__debug__" : Str)) = false := by decide)
    (hcd : (x == ("__classdict__" : Str)) = false := by decide) : PE X (.Name x pos) (tVar i) := pe_var hN hv hd hcd
end

theorem iteF {A B : Prop} (h : B) : if false = true then A else B := by
  rw [if_neg Bool.false_ne_true]
  exact h
theorem iteT {A B : Prop} (h : A) : if true = true then A else B := by
  rw [if_pos rfl]
  exact h
theorem iteNS {c A B : Prop} [Decidable c] (hc : c) (h : B) : if (!decide c) = true then A else B := by
  rw [decide_eq_true hc]
  exact iteF h

def Same (H H' : Hp) : Prop := ∀ b o, H b = some o → H' b = some o
theorem Same.refl (H : Hp) : Same H H := fun _ _ h => h
theorem Same.trans {H H1 H2 : Hp} (a : Same H H1) (b : Same H1 H2) : Same H H2 := fun c o h => b c o (a c o h)
theorem Same.free {H H' : Hp} (e : Same H H') {l : Addr} (h : H' l = Option.none) : H l = Option.none := by
  cases q : H l with
  | none => rfl
  | some o =>
    rw [e l o q] at h
    cases h
theorem Same.seq {K : PySem.W.Frag} {H H' : Hp} {a : Addr} {xs : List V} (e : Same H H') (h : SqL K H a xs) : SqL K H' a xs := by
  rcases h with (h | ⟨o, h⟩) | h
  · exact .inl (.inl (e _ _ h))
  · exact .inl (.inr ⟨o, e _ _ h⟩)
  · exact .inr h

end L2

set_option maxHeartbeats 4000000
namespace L2
open PySem PySem.Spec PyProof.Rows PySem.SeqAt
section
variable {X : Cx}
def CDivB (_ j : Int) : Prop := j ≠ 0 ∧ j.natAbs.log2 < 9000
theorem op_fdivB : OpR X (binaryOp .FloorDiv) (rI CDivB fun i j => .int (i.fdiv j)) := opI fun _ _ _ _ _ _ _ hc q => floordiv_int hc.1 q (Or.inl (PyProof.noPylong_of_log2 hc.2))
def rIsi (K : PySem.W.Frag) : List V → Hp → VK → Prop := fun xs H Q => ∃ x n t b, xs = [x, .ty n] ∧ TyOf K H x t ∧ PySem.W.kitOne K t (.type n) = some b ∧ Q (.bl b) H
theorem call_isi : CallR X (.builtin "isinstance") (rIsi X.K) := by
  intro pins s σ H xs us Q I r h
  obtain ⟨x, n, t, b, rfl, ty, e, q⟩ := h
  cases r with
  | cons rx r1 =>
    cases r1 with
    | cons ry r2 =>
      cases r2
      cases ry
      exact isinst_ok I rx ty e fun tk => ⟨.bl b, H, I.tok _, rfl, q⟩
structure MkO (K : PySem.W.Frag) (C : Addr) : Prop where
  makes : PySem.W.makesIn K C = true
  init : PySem.W.findIn K (.ref C) "__init__" = some (some (.builtin "object.__init__"))
  kp : PySem.W.keepIn K (.ref C) = true
def tMakeO (C : Addr) : TE := fun _ H Q => ∀ x dx, H x = none → H dx = none → dx ≠ x → Q (.ref x) (upd (upd H dx (.own x)) x (.ins C dx []))
theorem pe_makeO {C : Addr} {x : Str} {p pos : Pos} (M : MkO X.K C) (hg : Gl X x) (hm : X.mg x = some (.ref C)) (hdb : (x == ("__debug__" : Str)) = false := by decide) : PE X (.Call (.Name x p) [] [] pos) (tMakeO C) := by
  intro pins s σ H Q I h
  refine wpAny_Call_Name_kw (ld_glob I hg hm ?_ hdb)
  refine PySem.W.callWith_K0 I.kIn M.kp ?_
  have hq := h (s.heap.objs.size + 1) s.heap.objs.size (I.hok.fresh (Nat.le_succ _)) (I.hok.fresh (Nat.le_refl _)) (Nat.ne_of_lt (Nat.lt_succ_self _))
  have I2 := Inv.made (C := C) I
  have Y := PySem.W.makes_of (M := model X.prog X.w) I.kIn M.makes
  refine wpAny_call (make_map0 I.kIn M.makes M.init (fun self => PySem.W.Looks.of_pure (PySem.W.oi_bind self)) ?_)
  have t1 : PySem.W.Looks (model X.prog X.w) ((s.heap.push PySem.W.emptyDict).push (PySem.W.instObj C s.heap.objs.size)) (typeOf (.ref (s.heap.objs.size + 1))) (.ref C) :=
    (PySem.W.Looks.ld (o := PySem.W.instObj C s.heap.objs.size) (by have e : ((s.heap.push PySem.W.emptyDict).push (PySem.W.instObj C s.heap.objs.size)).get? (s.heap.push PySem.W.emptyDict).objs.size = some (PySem.W.instObj C s.heap.objs.size) := Heap.get?_push_size _ rfl; rw [Heap.size_push] at e; exact e)).andThen .now
  have t2 : PySem.W.Looks (model X.prog X.w) ((s.heap.push PySem.W.emptyDict).push (PySem.W.instObj C s.heap.objs.size)) (isInstance (.ref (s.heap.objs.size + 1)) (.type "object")) true :=
    t1.andThen (Y.top.keeps fun b o e => Heap.get?_push_of_some _ (Heap.get?_push_of_some _ e))
  refine PySem.codeAny_call_builtin PySem.W.oi_plain PySem.W.entry_oi (@PySem.W.check_slot (model X.prog X.w) _ _ _ "object.__init__" "object" "__init__" (.ref (s.heap.objs.size + 1)) [] [] _ PySem.W.oi_kind PySem.W.oi_split t2 (PySem.W.oi_args (.ref (s.heap.objs.size + 1))) ?_)
  rw [PySem.W.oi_run]
  exact wpAny_pure (And.intro rfl ⟨V.ref (s.heap.objs.size + 1), _, I2, rfl, hq⟩)
end
mutual
inductive Is (K : PySem.W.Frag) (H : Hp) : V → PyData → Prop
  | non : Is K H .non .none
  | bl (b : Bool) : Is K H (.bl b) (.bool b)
  | int (i : Int) : Is K H (.int i) (.int i)
  | str (x : Str) : Is K H (.str x) (.str x)
  | tup {a : Addr} {xs : List V} {ds : List PyData} : SqT K H a xs → IsAll K H xs ds → Is K H (.ref a) (.tuple ds)
  | lst {a : Addr} {xs : List V} {ds : List PyData} : SqL K H a xs → IsAll K H xs ds → Is K H (.ref a) (.list ds)
inductive IsAll (K : PySem.W.Frag) (H : Hp) : List V → List PyData → Prop
  | nil : IsAll K H [] []
  | cons {v : V} {vs : List V} {d : PyData} {ds : List PyData} : Is K H v d → IsAll K H vs ds → IsAll K H (v :: vs) (d :: ds)
end
theorem Same.tup {K : PySem.W.Frag} {H H' : Hp} {a : Addr} {xs : List V} (e : Same H H') (h : SqT K H a xs) : SqT K H' a xs := by
  rcases h with (h | ⟨o, h⟩) | h
  · exact .inl (.inl (e _ _ h))
  · exact .inl (.inr ⟨o, e _ _ h⟩)
  · exact .inr h
mutual
theorem Is.same {K : PySem.W.Frag} {H H' : Hp} (e : Same H H') : ∀ {v : V} {d : PyData}, Is K H v d → Is K H' v d
  | _, _, .non => .non
  | _, _, .bl b => .bl b
  | _, _, .int i => .int i
  | _, _, .str x => .str x
  | _, _, .tup h r => .tup (e.tup h) (IsAll.same e r)
  | _, _, .lst h r => .lst (e.seq h) (IsAll.same e r)
theorem IsAll.same {K : PySem.W.Frag} {H H' : Hp} (e : Same H H') : ∀ {v : List V} {d : List PyData}, IsAll K H v d → IsAll K H' v d
  | _, _, .nil => .nil
  | _, _, .cons a r => .cons (Is.same e a) (IsAll.same e r)
end
section
variable {X : Cx} {pins : List (Addr × Obj)} {σ : St} {H : Hp} {s : Shared}
mutual
theorem Is.reads (I : Inv X pins σ H s) : ∀ {v : V} {d : PyData} {u : Value}, Is X.K H v d → RelV v u → ∃ as, Reads s.heap u d as
  | _, _, _, .non, r => by cases r; exact ⟨_, .none⟩
  | _, _, _, .bl b, r => by cases r; exact ⟨_, .bool b⟩
  | _, _, _, .int i, r => by obtain ⟨t, rfl⟩ := r; exact ⟨_, .int i t⟩
  | _, _, _, .str x, r => by obtain ⟨t, rfl⟩ := r; exact ⟨_, .str x t⟩
  | _, _, _, .tup h a, r => by
    cases r
    obtain ⟨its, rv, ⟨o, ho, hc, n, hd⟩, _⟩ := I.tuple h
    obtain ⟨as, hr⟩ := IsAll.reads I a rv
    exact ⟨as, .tuple ho hc hd (by simpa using hr)⟩
  | _, _, _, .lst h a, r => by
    cases r
    obtain ⟨its, rv, ⟨o, n, ho, hc, _, hd⟩, _⟩ := I.list h
    obtain ⟨as, hr⟩ := IsAll.reads I a rv
    exact ⟨_, .list ho hc hd (by simpa using hr)⟩
theorem IsAll.reads (I : Inv X pins σ H s) : ∀ {vs : List V} {ds : List PyData} {us : List Value}, IsAll X.K H vs ds → Vals vs us → ∃ as, ReadsAll s.heap us ds as
  | _, _, _, .nil, .nil => ⟨_, .nil⟩
  | _, _, _, .cons a r, .cons q t => by
    obtain ⟨as, h1⟩ := Is.reads I a q
    obtain ⟨bs, h2⟩ := IsAll.reads I r t
    exact ⟨_, .cons h1 h2⟩
end
def rNeD (K : PySem.W.Frag) : R2 := fun x y H Q => ∃ d d', Is K H x d ∧ Is K H y d' ∧ shaped d = true ∧ shaped d' = true ∧ noMix d d' = true ∧ Q (.bl (!PySem.Spec.same d d')) H
theorem op_neD (hu : X.A.units + 64 < cLine) : OpR X (compareOp .NotEq) (rNeD X.K) := by
  intro pins s σ H x y v u Q I rx ry h
  obtain ⟨d, d', hx, hy, sx, sy, nm, q⟩ := h
  obtain ⟨as, ra⟩ := hx.reads I rx
  obtain ⟨bs, rb⟩ := hy.reads I ry
  exact ne_dataH_same ra rb sx sy hu nm ⟨.bl _, H, I, rfl, q⟩
end
theorem iteI {i j : Int} {A B : Prop} (h1 : i = j → A) (h2 : ¬ i = j → B) : if decide (V.int i = V.int j) = true then A else B := by
  by_cases h : i = j
  · rw [if_pos (decide_eq_true (congrArg V.int h))]; exact h1 h
  · rw [if_neg (by simpa using h)]; exact h2 h
theorem iteNI {i j : Int} {A B : Prop} (h1 : ¬ i = j → A) (h2 : i = j → B) : if (!decide (V.int i = V.int j)) = true then A else B := by
  by_cases h : i = j
  · rw [if_neg (by simpa using h)]; exact h2 h
  · rw [if_pos (by simpa using h)]; exact h1 h
theorem iteP {p A B : Prop} [Decidable p] (h1 : p → A) (h2 : ¬ p → B) : if decide p = true then A else B := by
  by_cases h : p
  · rw [if_pos (decide_eq_true h)]; exact h1 h
  · rw [if_neg (by simpa using h)]; exact h2 h
theorem same_upd {H : Hp} {p : Addr} {o : HO} (h : H p = none) : Same H (upd H p o) := fun b u e => by
  rw [upd_ne (ne_of_none e h)]; exact e
end L2
namespace L2
open PySem PySem.Spec PyProof.Rows
section
variable {P : Program} {w : World} {H H' : Hp} {h h' : Heap}
theorem HOk.there (x : HOk P w H h) {a : Addr} {o : HO} (e : H a = some o) : ∃ ob, h.get? a = some ob := by
  have y := x a o e
  clear e x
  induction o with
  | lst xs => obtain ⟨_, its, n, r, e⟩ := y; exact ⟨_, e⟩
  | tup xs => obtain ⟨_, its, r, ⟨ob, e, c⟩, _⟩ := y; exact ⟨_, e⟩
  | dK kvs => obtain ⟨_, _, vs, r, ob, es, ep, e, c⟩ := y; exact ⟨_, e⟩
  | dT kvs => obtain ⟨_, _, xs, r, ob, es, ep, e, c⟩ := y; exact ⟨_, e⟩
  | set S n => obtain ⟨ob, es, ep, t, e, c⟩ := y; exact ⟨_, e⟩
  | ins C dx fs => obtain ⟨d, z, ne, e, _⟩ := y; exact ⟨_, e⟩
  | own y' => exact y
  | xd fs => obtain ⟨mA, ⟨od, es, ep, e, c⟩, r⟩ := y; exact ⟨_, e⟩
  | rng lo hi => obtain ⟨t, u, v, e⟩ := y; exact ⟨_, e⟩
  | frz ob u ih => exact ⟨_, y.1⟩
  | tbl ps => exact ⟨_, y⟩
  | met f y' => exact ⟨_, y⟩
  | ext φ => exact y.2.1
theorem HOk.nothing (x : HOk P w H h) {a : Addr} (n : h.get? a = none) : H a = none := by
  cases q : H a with
  | none => rfl
  | some o => obtain ⟨ob, e⟩ := x.there q; rw [n] at e; cases e
theorem HOk.loose (x : HOk P w H h) (k : ∀ b u, H b ≠ none → h.get? b = some u → h'.get? b = some u) : HOk P w H h' := fun a o e =>
  (x a o e).stay (fun b u hb q => k b u (by
    rcases hb with z | z
    · rw [z, e]; exact nofun
    · rw [z]; exact nofun) q) (fun _ q => q) fun _ _ q => q
def XT (h : Heap) (a T C : Addr) : Prop := ∃ oe vs a0 oT ts, h.get? a = some oe ∧ (oe.cls = .ref C ∧ vs[0]? = some a0) ∧ oe.data = .fields vs ∧ vs[1]? = some (.ref T) ∧ T ≠ a ∧ h.get? T = some oT ∧ oT.data = .fields ts ∧ ts[3]? = some .none
structure Fly (P : Program) (w : World) (fs : List Addr) (H H' : Hp) (s s' : Shared) (a T C : Addr) : Prop where
  os : s'.os = s.os
  bare : AllBare s'.gens
  un : Un fs [] H H' s.heap s'.heap
  hok : HOk P w H' s'.heap
  xt : XT s'.heap a T C
  na : s.heap.get? a = none
  nT : s.heap.get? T = none
  ha : H' a = none
  hT : H' T = none
def CX1 (P : Program) (w : World) : CXT := fun outer H s E e s' => ∃ a T C H', e = .ref a ∧ Fly P w (frs outer) H H' s s' a T C ∧ E (.ref C) none H'
theorem funs_rebase {h base base' : Heap} : ∀ {l : List Env}, h.FunFrames base l → (∀ b ∈ frs l, base'.get? b = none) → h.FunFrames base' l
  | [], _, _ => trivial
  | env :: r, ⟨k, ⟨L, o, hf, _, ho, hd⟩, t⟩, hb => ⟨k, ⟨L, o, hf, hb L (by unfold frs; rw [List.filterMap_cons, hf]; exact List.mem_cons_self), ho, hd⟩,
      funs_rebase t fun b hm => hb b (by unfold frs; rw [List.filterMap_cons, hf]; exact List.mem_cons_of_mem _ hm)⟩
abbrev hid (h : Heap) (a T : Addr) (fs : List Addr) : Heap := PySem.W.hideAll h (a :: T :: fs)
end
section
variable {P : Program} {w : World} {H H' : Hp} {s s' : Shared} {a T C : Addr} {l : List Env} {base0 : Heap}
theorem Fly.base (F : Fly P w (frs l) H H' s s' a T C) (ff : s'.heap.FunFrames base0 l) : ∃ a0, Heap.FlyingW (hid s'.heap a T (frs l)) l a (.ref C) a0 s'.heap := by
  obtain ⟨oe, vs, a0, oT, ts, e1, e2, e3, e4, e5, e6, e7, e8⟩ := F.xt
  exact ⟨a0, fun b o e => PySem.W.of_hideAll _ e, PySem.W.hideAll_none _ (by simp), funs_rebase ff fun b hb => PySem.W.hideAll_none _ (by simp [hb]),
    oe, vs, T, oT, ts, e1, e2, e3, e4, PySem.W.hideAll_none _ (by simp), e5, e6, e7, e8⟩
theorem Fly.back {l' : List Env} {h' : Heap} {a0 : Value} {tk : Nat} (F : Fly P w (frs l) H H' s s' a T C) (ff : s'.heap.FunFrames base0 l) (fH : ∀ b ∈ frs l, H' b = none)
    (fl : Heap.FlyingW (hid s'.heap a T (frs l)) l' a (.ref C) a0 h') (up : s'.heap.UpToSlots h') : ∃ T', Fly P w (frs l) H H' s { s' with heap := h', toks := tk } a T' C := by
  obtain ⟨k1, _, _, oe, vs, T', oT, ts, e1, e2, e3, e4, e0, e5, e6, e7, e8⟩ := fl
  have keep : ∀ b o, s'.heap.get? b = some o → b ≠ a → b ≠ T → b ∉ frs l → h'.get? b = some o := fun b o e n1 n2 n3 => k1 b o (PySem.W.hideAll_get _ e (by simp [n1, n2, n3]))
  have slot : ∀ b o, s'.heap.get? b = some o → b ∈ frs l → (∃ sl, h'.get? b = some { o with slots := sl }) ∧ ∀ vs, o.data ≠ .fields vs := fun b o e hb => by
    obtain ⟨_, o1, q1, q2⟩ := ff.mem hb
    rw [e] at q1; cases q1
    exact ⟨up b o e q2, q2⟩
  have nf : T' ∉ frs l := fun hb => by
    obtain ⟨_, o1, q1, q2⟩ := ff.mem hb
    obtain ⟨sl, q3⟩ := up _ o1 q1 q2
    rw [e6] at q3; cases q3
    exact q2 _ e7
  have tt : T' = T ∨ s'.heap.get? T' = none := by
    by_cases z : T' = T
    · exact .inl z
    · right
      cases q : s'.heap.get? T' with
      | none => rfl
      | some o =>
        have := PySem.W.hideAll_get (a :: T :: frs l) q (by simp [e5, z, nf])
        rw [e0] at this; cases this
  have hT' : H' T' = none := by
    rcases tt with z | z
    · rw [z]; exact F.hT
    · exact F.hok.nothing z
  have nT' : s.heap.get? T' = none := by
    rcases tt with z | z
    · rw [z]; exact F.nT
    · cases q : s.heap.get? T' with
      | none => rfl
      | some o =>
        obtain ⟨o', q'⟩ := F.un.there _ o q (by simp)
        rw [z] at q'; cases q'
  have ne : ∀ b o, s.heap.get? b = some o → b ≠ a ∧ b ≠ T := fun b o e => ⟨(fun z => by rw [z, F.na] at e; cases e), (fun z => by rw [z, F.nT] at e; cases e)⟩
  refine ⟨T', F.os, F.bare, ⟨fun b o e n hb hx => ?_, fun b o e n hb hx => ?_, F.un.free, fun b o e hx => ?_, F.un.tups, F.un.frzs, F.un.tbls⟩, F.hok.loose fun b u hb e => ?_, ⟨oe, vs, a0, oT, ts, e1, e2, e3, e4, e5, e6, e7, e8⟩, F.na, nT', F.ha, hT'⟩
  · exact keep b o (F.un.keep b o e n hb hx) (ne b o e).1 (ne b o e).2 hb
  · obtain ⟨sl, q⟩ := F.un.slot b o e n hb hx
    obtain ⟨⟨sl', q'⟩, _⟩ := slot b _ q hb
    exact ⟨sl', q'⟩
  · obtain ⟨o', q⟩ := F.un.there b o e hx
    by_cases hb : b ∈ frs l
    · obtain ⟨⟨sl, q'⟩, _⟩ := slot b o' q hb
      exact ⟨_, q'⟩
    · exact ⟨o', keep b o' q (ne b o e).1 (ne b o e).2 hb⟩
  · exact keep b u e (fun z => hb (z ▸ F.ha)) (fun z => hb (z ▸ F.hT)) fun z => hb (fH b z)
def ExcO (a C : Addr) : HO := .ext fun h => ∃ o, h.get? a = some o ∧ o.cls = .ref C
theorem Fly.un' (F : Fly P w (frs l) H H' s s' a T C) : Un (frs l) [] H (upd H' a (ExcO a C)) s.heap s'.heap where
  keep := F.un.keep
  slot := F.un.slot
  free := fun b o e n hx => by rw [upd_ne (fun z => by rw [z, F.na] at e; cases e)]; exact F.un.free b o e n hx
  there := F.un.there
  tups := fun b xs e => by have := F.un.tups b xs e; rw [upd_ne (ne_of_none this F.ha)]; exact this
  frzs := fun b o u e => by have := F.un.frzs b o u e; rw [upd_ne (ne_of_none this F.ha)]; exact this
  tbls := fun b ps e => by obtain ⟨m, q⟩ := F.un.tbls b ps e; exact ⟨m, by rw [upd_ne (ne_of_none q F.ha)]; exact q⟩
theorem Fly.hok' (F : Fly P w (frs l) H H' s s' a T C) : HOk P w (upd H' a (ExcO a C)) s'.heap := fun b o e => by
  by_cases z : b = a
  · subst z
    rw [upd_same] at e; cases e
    obtain ⟨oe, vs, a0, oT, ts, e1, e2, _⟩ := F.xt
    exact ⟨⟨oe, e1, e2.1⟩, ⟨oe, e1⟩, fun h1 h2 ⟨o, q1, q2⟩ k => ⟨o, k o q1, q2⟩⟩
  · rw [upd_ne z] at e
    exact (F.hok b o e).stay (fun _ _ _ q => q) (fun c q => by rw [upd_ne (ne_of_none q F.ha)]; exact q) fun c xs q => by rw [upd_ne (ne_of_none q F.ha)]; exact q
end

def XP (X : Cx) (pins : List (Addr × Obj)) (σ : St) (E : XK) (e : Value) (s' : Shared) : Prop := ∃ s H, Inv X pins σ H s ∧ CX1 X.prog X.w X.stack H s E e s'
structure Thru (X : Cx) (E : XK) : Prop where
  stk : X.stack = X.env :: X.outer
  fr : X.env.frame = some X.env.locals
  ex : X.ex = []
  xe : X.xe = fun e s' => wpAny (model X.prog X.w) X.A (leaving X.env e) (fun _ s'' => CX1 X.prog X.w X.outer X.H₀ X.s₀ E e s'') (fun e' s'' => CX1 X.prog X.w X.outer X.H₀ X.s₀ E e' s'') s'
section
variable {X : Cx} {pins : List (Addr × Obj)} {σ : St} {H : Hp} {s s' : Shared} {E : XK} {e : Value}
theorem Fly.inv {H' : Hp} {a T C : Addr} (I : Inv X pins σ H s) (F : Fly X.prog X.w (frs X.stack) H H' s s' a T C) : Inv X pins σ H' s' := I.call' F.os F.un F.hok F.bare (ch := []) (fun _ z => absurd z (by simp))
theorem Fly.inv' {H' : Hp} {a T C : Addr} (I : Inv X pins σ H s) (F : Fly X.prog X.w (frs X.stack) H H' s s' a T C) : Inv X pins σ (upd H' a (ExcO a C)) s' := I.call' F.os F.un' F.hok' F.bare (ch := []) (fun _ z => absurd z (by simp))
theorem Fly.out {H' : Hp} {a T C : Addr} (R : Thru X E) (I : Inv X pins σ H s) (F : Fly X.prog X.w (frs X.stack) H H' s s' a T C) (q : E (.ref C) none H') : CX1 X.prog X.w X.outer X.H₀ X.s₀ E (.ref a) s' := by
  have fsub : ∀ b ∈ frs X.outer, b ∈ frs X.stack := fun b hb => by rw [R.stk]; unfold frs; rw [List.filterMap_cons, R.fr]; exact List.mem_cons_of_mem _ hb
  have u0 : Un (frs X.stack) [] X.H₀ H X.s₀.heap s.heap := I.base.mono fsub (by rw [R.ex]; simp)
  have u1 := u0.trans F.un
  have neL : ∀ b o, X.s₀.heap.get? b = some o → b ≠ X.env.locals := fun b o e => Nat.ne_of_lt (Nat.lt_of_lt_of_le (Heap.lt_size e) I.ok.above)
  have nin : ∀ b o, X.s₀.heap.get? b = some o → b ∉ frs X.outer → b ∉ frs X.stack := fun b o e hb hm => by
    rw [R.stk] at hm
    unfold frs at hm
    rw [List.filterMap_cons, R.fr] at hm
    rcases List.mem_cons.mp hm with z | z
    · exact neL b o e z
    · exact hb z
  have none0 : ∀ b, s.heap.get? b = none → X.s₀.heap.get? b = none := fun b n => by
    cases q : X.s₀.heap.get? b with
    | none => rfl
    | some o =>
      obtain ⟨o', q'⟩ := I.base.there b o q (by rw [R.ex]; simp)
      rw [n] at q'; cases q'
  exact ⟨a, T, C, H', rfl, ⟨F.os.trans I.os, F.bare, ⟨fun b o e n hb hx => u1.keep b o e n (nin b o e hb) hx, fun b o e n hb hx => u1.slot b o e n (fsub b hb) hx, u1.free, u1.there, u1.tups, u1.frzs, u1.tbls⟩, F.hok, F.xt, none0 a F.na, none0 T F.nT, F.ha, F.hT⟩, q⟩
theorem XP.leave (R : Thru X E) (x : XP X pins σ E e s') : X.xe e s' := by
  obtain ⟨s, H, I, a, T, C, H', rfl, F, q⟩ := x
  have J := F.inv I
  obtain ⟨a0, fl⟩ := F.base J.stack
  rw [R.xe]
  rw [R.stk] at fl
  refine wpAny_leaves_onW (J.ok.frames.trans (by rw [R.stk])) R.fr fl fun h' fl' up => ?_
  rw [← R.stk] at fl'
  obtain ⟨T', F'⟩ := F.back (tk := s'.toks) J.stack J.stkFree fl' up
  exact F'.out R I q
theorem made_leave {h' : Heap} {a C : Addr} {vs : List Value} (R : Thru X E) (I : Inv X pins σ H s) (m : Heap.MadeExcOf s.heap h' a (.ref C) vs) (q : E (.ref C) none H) : X.xe (.ref a) { s with heap := h' } := by
  have J : Inv X pins σ H { s with heap := h' } := I.kept (t' := s.toks) m.keeps
  obtain ⟨t, he, htn, ht⟩ := m.there
  have ha : H a = none := I.hok.nothing m.new
  rw [R.xe]
  have ff : h'.FunFrames (hid h' a a (frs X.stack)) X.stack := funs_rebase J.stack fun b hb => PySem.W.hideAll_none _ (by simp [hb])
  have ff' : h'.FunFrames (hid h' a a (frs X.stack)) (X.env :: X.outer) := by
    have z := J.stack
    rw [R.stk] at z
    exact funs_rebase z fun b hb => PySem.W.hideAll_none _ (by rw [R.stk]; simp [hb])
  refine wpAny_leaving_firstW (a0 := .ref t) (base := hid h' a a (frs X.stack)) (J.ok.frames.trans (by rw [R.stk])) ff' R.fr he (fun b o e => PySem.W.of_hideAll _ e) (PySem.W.hideAll_none _ (by simp)) rfl rfl rfl fun h2 hL => ?_
  obtain ⟨k1, _, ⟨oe, ws, T', oT, ts, e1, e2, e3, e4, e0, e5, e6, e7, e8⟩, k4⟩ := hL
  have ffm : ∀ b ∈ frs X.stack, ∃ o, h'.get? b = some o ∧ ∀ vs, o.data ≠ .fields vs := fun b hb => (ff.mem hb).2
  have keep : ∀ b o, h'.get? b = some o → b ≠ a → b ∉ frs X.stack → h2.get? b = some o := fun b o e n1 n3 => k1 b o (PySem.W.hideAll_get _ e (by simp [n1, n3]))
  have nf : T' ∉ frs X.stack := fun hb => by
    obtain ⟨o1, q1, q2⟩ := ffm _ hb
    obtain ⟨sl, q3⟩ := k4 _ o1 q1 q2
    rw [e6] at q3; cases q3
    exact q2 _ e7
  have nT : h'.get? T' = none := by
    cases q : h'.get? T' with
    | none => rfl
    | some o =>
      have := PySem.W.hideAll_get (a :: a :: frs X.stack) q (by simp [e5, nf])
      rw [e0] at this; cases this
  have ne : ∀ b o, s.heap.get? b = some o → b ≠ a := fun b o e z => by rw [z, m.new] at e; cases e
  have F' : Fly X.prog X.w (frs X.stack) H H s { s with heap := h2 } a T' C := by
    refine ⟨rfl, I.bare, ⟨fun b o e n hb hx => keep b o (m.keeps b o e) (ne b o e) hb, fun b o e n hb hx => ?_, fun _ _ _ n _ => n, fun b o e hx => ?_, fun _ _ e => e, fun _ _ _ e => e, fun b ps e => ⟨#[], by rw [e]; simp⟩⟩, J.hok.loose fun b u hb e => keep b u e (fun z => hb (z ▸ ha)) fun z => hb (J.stkFree b z),
      ⟨oe, ws, _, oT, ts, e1, e2, e3, e4, e5, e6, e7, e8⟩, m.new, ?_, ha, J.hok.nothing nT⟩
    · obtain ⟨o1, q1, q2⟩ := ffm b hb
      have q3 := m.keeps b o e
      rw [q1] at q3; cases q3
      exact k4 b _ q1 q2
    · by_cases hb : b ∈ frs X.stack
      · obtain ⟨o1, q1, q2⟩ := ffm b hb
        obtain ⟨sl, q3⟩ := k4 b o1 q1 q2
        exact ⟨_, q3⟩
      · exact ⟨o, keep b o (m.keeps b o e) (ne b o e) hb⟩
    · cases q : s.heap.get? T' with
      | none => rfl
      | some o => rw [m.keeps _ o q] at nT; cases nT
  exact F'.out R I q
end
end L2
namespace L2
open PySem PySem.Spec PyProof.Rows
abbrev bmV : List Value := [.type "ValueError", .type "Exception", .type "BaseException", .type "object"]
theorem excIn_obj {K : PySem.W.Frag} {h : Heap} {C : Addr} {bmB : List Value} {newId : String} (X : K.In h) (q : PySem.W.excIn K C bmB newId = true) :
    ∃ bm N nm q bs hdct sn sub ab col dd k0 k1 k2 k3 k5 mN, h.get? C = some (excClassObj nm q C N bs bm hdct sn sub ab col dd k0 k1 k2 k3 k5 newId) ∧ h.Ns N mN ∧ mN "__init__" = none ∧ OwnTail h bmB bm := by
  unfold PySem.W.excIn at q
  split at q
  · rename_i dd cd sl ho
    split at q
    · rename_i C' bm k0 k1 k2 k3 n k5 hm hs
      simp only [Bool.and_eq_true, beq_iff_eq, Bool.not_eq_true'] at q
      obtain ⟨⟨⟨⟨⟨rfl, rfl⟩, hdel⟩, ht⟩, hok⟩, hni⟩ := q
      obtain ⟨nm, bs, mro, ns, qn, hd, sn, sub, ab, col, del⟩ := cd
      dsimp only at hm hdel hok hni
      subst hm hdel
      have hsl : sl = #[k0, k1, k2, k3, some (.builtin n), k5] := by
        obtain ⟨l⟩ := sl
        simp only at hs
        rw [hs]
      subst hsl
      exact ⟨bm, ns, nm, qn, bs, hd, sn, sub, ab, col, dd, k0, k1, k2, k3, k5, _, X _ _ ho, .of_isNs (PySem.W.isNs_of_in X hok), PySem.W.nsMap_none_of_in X hok hni, PySem.W.tail_of_in X ht⟩
    · cases q
  · cases q
theorem FnOk.quiet {P : Program} {w : World} {K : PySem.W.Frag} {mg : Str → Option Value} {base : Heap} {k : Nat} {f : Addr} {fd : FuncData} {ps : List Str} {sp : Sp} (F : FnOk P w K mg base (CX1 P w) k f fd ps sp) :
    FnOk P w K mg base CX0 k f fd ps (fun vs H Q _ => sp vs H Q E0) :=
  ⟨fun vs H Q _ h => F.len vs H Q E0 h, fun A outer s H args us vs Q E hr e0 hb r h => codeAny_mono (F.run A outer s H args us vs Q E0 hr e0 hb r h) fun r s' hq => by
    cases r with
    | error e => obtain ⟨_, _, _, _, _, _, z⟩ := hq; exact z.elim
    | ok fl => cases fl <;> exact hq⟩
section
variable {P : Program} {w : World} {K : PySem.W.Frag} {mg : Str → Option Value} {base : Heap}
theorem Fun.okx {x qual : Str} {st : Stmt} {f : Addr} {fd : FuncData} {N ps : List Str} {k : Nat} {sp : Sp} (F : Fun K x qual st f fd) (S : FnScope N ps (defScope st)) (len : ∀ vs H Q E, sp vs H Q E → vs.length = ps.length)
    (hbody : ∀ (cdv : Value) (A : Around) (outer : List Env) (s : Shared) (H : Hp) (vs : List V) (Q : VK) (E : XK), Room k (A.deeper (envOfC qual (defScope st) s.heap.objs.size f cdv)) → sp vs H Q E →
      ∃ t, PSs (cxOf (CX1 P w) P w K mg base N qual (defScope st) f cdv A outer s H E) (defBody st) t ∧ t { nx := fun _ H' => Q .non H', rt := Q } (start N vs) H) : FnOk P w K mg base (CX1 P w) (k + 1) f fd ps sp := by
  obtain ⟨oc, od, kV, doc, pm, an, cdv, ct, osl, rfl, lk, hcd⟩ := F.ex
  exact fn_of lk hcd S len fun A outer s H vs Q E hr hsp => hbody cdv A outer s H vs Q E hr hsp
theorem Thru.own {X : Cx} {E : XK} (R : Thru X E) : PassesOwn (model X.prog X.w) X.A X.env X.xe := by rw [R.xe]; exact PassesOwn.leaving
theorem thru_cx {N : List Str} {qual : Str} {scope : Scope} {f : Addr} {cd : Value} {A : Around} {outer : List Env} {s : Shared} {H : Hp} {E : XK} : Thru (cxOf (CX1 P w) P w K mg base N qual scope f cd A outer s H E) E := ⟨rfl, rfl, rfl, rfl⟩
end
abbrev TX := St → Hp → VK → XK → Prop
abbrev TSX := Ends → XK → St → Hp → Prop
def PEX (X : Cx) (e : Expr) (t : TX) : Prop :=
  ∀ (pins : List (Addr × Obj)) (s : Shared) (σ : St) (H : Hp) (Q : VK) (E : XK), Inv X pins σ H s → t σ H Q E → wpAny (model X.prog X.w) X.A (eval e X.env) (EP X pins σ Q) (XP X pins σ E) s
def PSX (X : Cx) (st : Stmt) (t : TSX) : Prop :=
  ∀ (pins : List (Addr × Obj)) (s : Shared) (σ : St) (H : Hp) (D : Ends) (E : XK), Inv X pins σ H s → t D E σ H → wpAny (model X.prog X.w) X.A (exec st X.env) (SP X pins D) (XP X pins σ E) s
def PSXs (X : Cx) (st : List Stmt) (t : TSX) : Prop :=
  ∀ (pins : List (Addr × Obj)) (s : Shared) (σ : St) (H : Hp) (D : Ends) (E : XK), Inv X pins σ H s → t D E σ H → wpAny (model X.prog X.w) X.A (execs st X.env) (SP X pins D) (XP X pins σ E) s
section
variable {X : Cx} {k : Nat} {f C : Addr} {fd : FuncData} {ps : List Str} {sp : Sp} {dvs : List V} {ds : List Value} {E : XK} {x m : Str} {p np cpos pos apos : Pos} {e o : Expr} {es : List Expr} {ta : TE} {t : TA} {tx : TX}
theorem PEX.thru (R : Thru X E) (h : PEX X e tx) : PE X e (fun σ H Q => tx σ H Q E) := fun pins s σ H Q I q => wpAny_mono (h pins s σ H Q E I q) (fun _ _ z => z) fun _ _ z => z.leave R
theorem run_fnX {pins : List (Addr × Obj)} {σ : St} {H : Hp} {s : Shared} {Q : VK} {us : List Value} {vs : List V} (F : FnOk X.prog X.w X.K X.mg X.base (CX1 X.prog X.w) k f fd ps sp) (hr : Room k X.A) (hb : Binds X.K fd ps ds) (hd : Vals dvs ds)
    (I : Inv X pins σ H s) (r : Vals vs us) (h : sp (vs ++ dvs) H Q E) : wpAny (model X.prog X.w) X.A (call (.ref f) us) (EP X pins σ Q) (XP X pins σ E) s := by
  have r2 : Vals (vs ++ dvs) (us ++ ds) := r.append hd
  have hl : (us ++ ds).length = ps.length := by rw [← r2.length]; exact F.len _ _ _ _ h
  refine wpAny_call (codeAny_mono (F.run X.A X.stack s H ⟨us, []⟩ (us ++ ds) (vs ++ dvs) Q E hr I.env0 (hb s us I.kIn hl) r2 h) fun r s' hq => ?_)
  cases r with
  | error e => exact ⟨s, H, I, hq⟩
  | ok fl =>
    cases fl with
    | ret u => exact I.after hq
    | next => exact False.elim hq
    | brk => exact False.elim hq
    | cont => exact False.elim hq
theorem px_call (F : FnOk X.prog X.w X.K X.mg X.base (CX1 X.prog X.w) k f fd ps sp) (hr : Room k X.A) (hg : Gl X x) (hm : X.mg x = some (.ref f)) (hk : PySem.W.keepIn X.K (.ref f) = true) (hb : Binds X.K fd ps ds) (hd : Vals dvs ds)
    (ha : PA X.nox (e :: es) t) (hdb : (x == ("__debug__" : Str)) = false := by decide) (he : starEach (e :: es) X.env = (false, eval e X.env) :: starEach es X.env := by rfl) (hpl : (backTo pos (starEach es X.env)).any (·.1) = false := by rfl) :
    PEX X (.Call (.Name x p) (e :: es) [] pos) (fun σ H Q E => tCall sp dvs E t σ H Q) := by
  intro pins s σ H Q E I h
  refine wpAny_Call_Name_kw (ld_glob I hg hm ?_ hdb)
  exact PySem.W.callWith_K (h₀ := X.base) I.ok.mod.kin hk (wpAny_mono (ha pos pins s σ H _ (I.wish _) h) (fun us s1 ⟨vs, H1, I1, r, q⟩ => ⟨I1.unwish.kIn, run_fnX F hr hb hd I1.unwish r q⟩) fun _ _ z => z.elim) he hpl
theorem px_make (M : Mk X.K C f) (F : FnOk X.prog X.w X.K X.mg X.base (CX1 X.prog X.w) k f fd ps sp) (hr : Room (k + 1) X.A) (hg : Gl X x) (hm : X.mg x = some (.ref C)) (hb : Binds X.K fd ps ds) (hd : Vals dvs ds)
    (ha : PA X.nox (e :: es) t) (hdb : (x == ("__debug__" : Str)) = false := by decide) (he : starEach (e :: es) X.env = (false, eval e X.env) :: starEach es X.env := by rfl) (hpl : (backTo pos (starEach es X.env)).any (·.1) = false := by rfl) :
    PEX X (.Call (.Name x p) (e :: es) [] pos) (fun σ H Q E => tMake C sp dvs E t σ H Q) := by
  intro pins s σ H Q E I h
  refine wpAny_Call_Name_kw (ld_glob I hg hm ?_ hdb)
  refine PySem.W.callWith_K (h₀ := X.base) I.ok.mod.kin M.kp (wpAny_mono (ha pos pins s σ H _ (I.wish _) h) (fun us s1 ⟨vs, H1, I1', r, h1⟩ => ⟨I1'.unwish.kIn, ?_⟩) fun _ _ z => z.elim) he hpl
  have I1 : Inv X pins σ H1 s1 := I1'.unwish
  have hq := h1 (s1.heap.objs.size + 1) s1.heap.objs.size (I1.hok.fresh (Nat.le_succ _)) (I1.hok.fresh (Nat.le_refl _)) (Nat.ne_of_lt (Nat.lt_succ_self _))
  have I2 := Inv.made (C := C) I1
  have r2 : Vals (V.ref (s1.heap.objs.size + 1) :: (vs ++ dvs)) (Value.ref (s1.heap.objs.size + 1) :: (us ++ ds)) := .cons rfl (r.append hd)
  have hl : (Value.ref (s1.heap.objs.size + 1) :: us ++ ds).length = ps.length := by
    have e := r2.length
    rw [F.len _ _ _ _ hq] at e
    exact e.symm
  refine wpAny_call (make_map (f := f) I1.kIn M.makes M.init (beq_iff_eq.mp M.fn) (codeAny_mono (F.run _ X.stack _ _ ⟨Value.ref (s1.heap.objs.size + 1) :: us, []⟩ (Value.ref (s1.heap.objs.size + 1) :: (us ++ ds)) _ _ E (hr.make C us [])
    (I2.env0.make C us []) (hb _ (Value.ref (s1.heap.objs.size + 1) :: us) I2.kIn hl) r2 hq) fun r s' hq' => ?_))
  cases r with
  | error e => exact ⟨_, _, I2, hq'⟩
  | ok fl =>
    cases fl with
    | ret u =>
      obtain ⟨v, H', I3, rv, ev, q3⟩ := I2.after hq'
      subst ev
      exact ⟨rv, ⟨V.ref (s1.heap.objs.size + 1), H', I3, rfl, q3⟩⟩
    | next => exact False.elim hq'
    | brk => exact False.elim hq'
    | cont => exact False.elim hq'
def tRaise (E : XK) (C : Addr) (t : TA) : TS := fun _ σ H => t σ H fun vs H1 => vs.length ≤ sizeLine ∧ E (.ref C) none H1
theorem ps_raise (R : Thru X E) (hc : X.calm = true) (q : PySem.W.excIn X.K C bmV "ValueError.__new__" = true) (hg : Gl X x) (hm : X.mg x = some (.ref C)) (ha : PA X.nox (e :: es) t)
    (hdb : (x == ("__debug__" : Str)) = false := by decide) (he : starEach (e :: es) X.env = (false, eval e X.env) :: starEach es X.env := by rfl) (hpl : (backTo cpos (starEach es X.env)).any (·.1) = false := by rfl) :
    PS X (.Raise (some (.Call (.Name x np) (e :: es) [] cpos)) none pos) (tRaise E C t) := by
  intro pins s σ H D I h
  obtain ⟨bm, N, nm, qn, bs, hdct, sn, sub, ab, col, dd, k0, k1, k2, k3, k5, mN, hC, hN, hni, T⟩ := excIn_obj I.mod.kin q
  have hh : X.A.handled = none := I.ok.hd hc
  have ev := ha cpos pins s σ H _ (I.wish _) h
  refine wpAny_Raise_call_subU (C := C) (nm := nm) (q := qn) (N := N) (bs := bs) (bm := bm) (hdct := hdct) (sn := sn) (sub := sub) (ab := ab) (col := col) (dd := dd) (k0 := k0) (k1 := k1) (k2 := k2) (k3 := k3) (k5 := k5)
    PySem.F.excBase_ValueError (by decide) PySem.F.excBase_ValueError (mN := mN) (T.hasType PySem.F.excBase_ValueError.hasBase) hh (by rw [he]; show (false || (backTo cpos (starEach es X.env)).any (·.1)) = false; rw [hpl]; rfl) hni (ld_glob I hg hm ⟨rfl, ?_⟩ hdb)
  rw [he]
  change wpAny _ _ (spliced (backTo cpos (starEach (e :: es) X.env))) _ _ _ at ev
  rw [he] at ev
  refine Calls.evalArgs_plain (wpAny_mono ev (fun us s2 ⟨vs, H1, I1, r, hl, q2⟩ => ?_) fun _ _ z => z.elim)
  have J : Inv X pins σ H1 s2 := I1.unwish
  exact ⟨rfl, by rw [← r.length]; exact hl, J.bk _ _ hC, hN.keeps J.bk, T.keeps J.bk, fun h' a m => made_leave R J m q2⟩
end
end L2

namespace L2
open PySem PySem.Spec PyProof.Rows
abbrev Cx.caught (X : Cx) (a : Addr) : Cx := { X with A := X.A.mark (some (.ref a)), calm := false, xe := fun _ _ => False }
section
variable {X : Cx} {pins : List (Addr × Obj)} {σ : St} {H : Hp} {s : Shared} {a : Addr}
theorem Inv.catch (I : Inv X pins σ H s) (a : Addr) : Inv (X.caught a) pins σ H s :=
  ⟨⟨I.ok.mod, I.ok.kind, I.ok.glob, I.ok.blt, I.ok.above, I.ok.inj, I.ok.has, I.ok.cab, (fun z => by cases z), I.ok.frames, I.ok.stk, I.ok.exf, I.ok.bs, I.ok.bsz, I.ok.noex, I.ok.exfs, I.ok.funs, I.ok.frf⟩, I.os, I.bare, I.base, I.loc, I.cell, I.free, I.freeC, I.pin, I.hok, I.len⟩
theorem Inv.uncatch (ok : X.Ok) (I : Inv (X.caught a) pins σ H s) : Inv X pins σ H s := ⟨ok, I.os, I.bare, I.base, I.loc, I.cell, I.free, I.freeC, I.pin, I.hok, I.len⟩
theorem Inv.unset {i : Nat} {n : Str} {m : Str → Option Value} {v : Option Value} {h' : Heap} {tk : Nat} (I : Inv X pins σ H s) (hN : X.N.Nodup) (hi : X.N[i]? = some n) (hk : X.env.kindOf n = some .local)
    (hl : ∀ (j : Nat) (x : Str) (v : V), X.N[j]? = some x → σ[j]? = some (some v) → Vis X.env.scope x → ∃ u, RelV v u ∧ Look X.env s.heap m x u)
    (hn' : h'.Ns X.env.locals (fun x => if x = n then v else m x)) (hs : Heap.SameBut X.env.locals s.heap h') : Inv X pins (σ.set i none) H { s with heap := h', toks := tk } := by
  have cne := I.cne
  have hiσ : i < σ.length := by rw [I.len]; exact (List.getElem?_eq_some_iff.mp hi).1
  have nb : ∀ b o, X.s₀.heap.get? b = some o → b ≠ X.env.locals := fun b o e => Nat.ne_of_lt (Nat.lt_of_lt_of_le (Heap.lt_size e) I.ok.above)
  refine ⟨I.ok, I.os, I.bare, ⟨fun b o e n hb hx => ?_, fun b o e n hb hx => ?_, I.base.free, fun b o e hx => ?_, I.base.tups, I.base.frzs, I.base.tbls⟩, ⟨_, hn', fun j y v' e1 e2 e3 => ?_⟩, fun y c e => ?_, I.free, I.freeC, fun p hp => ?_, I.hok.loose fun b u hb e => ?_, by simpa using I.len⟩
  · exact (hs.2 b (nb b o e)).trans (I.base.keep b o e n hb hx)
  · obtain ⟨sl, e1⟩ := I.base.slot b o e n hb hx
    exact ⟨sl, (hs.2 b (nb b o e)).trans e1⟩
  · obtain ⟨o', e1⟩ := I.base.there b o e hx
    exact ⟨o', (hs.2 b (nb b o e)).trans e1⟩
  · by_cases hj : j = i
    · subst hj
      rw [List.getElem?_set_self hiσ] at e2
      cases e2
    · rw [List.getElem?_set_ne (Ne.symm hj)] at e2
      obtain ⟨u', r', q⟩ := hl j y v' e1 e2 e3
      refine ⟨u', r', ?_⟩
      rcases q with ⟨k, e⟩ | ⟨k, c, e, z⟩
      · refine .inl ⟨k, ?_⟩
        have : y ≠ n := fun e => hj (nodup_ix hN e1 (e ▸ hi))
        simp [this, e]
      · exact .inr ⟨k, c, e, z.sameBut hs (cne y c e)⟩
  · obtain ⟨w', z⟩ := I.cell y c e
    exact ⟨w', z.sameBut hs (cne y c e)⟩
  · obtain ⟨e, n, ne, nf, d⟩ := I.pin p hp
    exact ⟨(hs.2 p.1 ne).trans e, n, ne, nf, d⟩
  · exact (hs.2 b fun z => hb (z ▸ I.free)).trans e
end
abbrev Ends.gone (D : Ends) (i : Nat) : Ends := { nx := fun σ H => D.nx (σ.set i none) H, rt := D.rt, bk := fun σ H => D.bk (σ.set i none) H, ct := fun σ H => D.ct (σ.set i none) H }
def tTry (K : PySem.W.Frag) (Cc : Addr) (i : Nat) (tb : TSX) (ts : TS) : TS := fun D σ H => tb D (fun cls _ H' => ∃ C, cls = .ref C ∧ PySem.W.exmOne K (.ref C) (.ref Cc) = some true ∧
  ∀ a, H' a = none → ts (D.gone i) (σ.set i (some (.ref a))) (upd H' a (ExcO a C))) σ H
section
variable {X : Cx} {e : Expr} {te : TE} {tx : TX} {pos : Pos} {st : Stmt} {t u : TSX}
theorem psx_one (h : PSX X st t) : PSXs X [st] t := by
  intro pins s σ H D E I q
  refine wpAny_execs_cons (thn (h pins s σ H D E I q) fun f s1 q => ?_)
  cases f with
  | next => exact wpAny_execs_nil q
  | ret v => exact q
  | brk => exact q
  | cont => exact q
theorem psx_expr (he : PEX X e tx) (hs : swapsWith e none pos.line X.env = pure false := by rfl) : PSX X (.Expr e pos) (fun D E σ H => tx σ H (fun _ H1 => D.nx σ H1) E) := by
  intro pins s σ H D E I h
  exact wpAny_Expr_any (thn (he pins s σ H _ E I h) fun v s1 ⟨x, H1, I1, r1, q1⟩ => ⟨σ, H1, I1, q1⟩) I.quiet hs
theorem ps_try {body : List Stmt} {c n : Str} {np hpos : Pos} {b₀ : Stmt} {suite : List Stmt} {Cc : Addr} {i : Nat} {ts : TS} (hb : PSXs X body t) (stk : X.stack = X.env :: X.outer) (fr : X.env.frame = some X.env.locals)
    (hN : X.N.Nodup) (hi : X.N[i]? = some n) (hk : X.env.kindOf n = some .local) (hg : Gl X c) (hm : X.mg c = some (.ref Cc)) (hs : ∀ a, PSs (X.caught a) (b₀ :: suite) ts)
    (hdb : (c == ("__debug__" : Str)) = false := by decide) : PS X (.Try body [.ExceptHandler (some (.Name c np)) (some n) (b₀ :: suite) hpos] [] [] pos) (tTry X.K Cc i t ts) := by
  intro pins s σ H D I h
  refine wpAny_Try_except (wpAny_mono (hb pins s σ H D _ I h) (fun f s1 q => ?_) fun e s1 q => ?_)
  · cases f with
    | next => exact wpAny_execs_nil q
    | ret v => exact q
    | brk => exact q
    | cont => exact q
  · obtain ⟨s0, H0, I0, a, T, C, H', rfl, F, C', eC, hx, hq⟩ := q
    cases eC
    have J := F.inv I0
    obtain ⟨a0, fl⟩ := F.base J.stack
    have hfr : X.A.frames = some (X.env :: X.outer) := J.ok.frames.trans (by rw [stk])
    have fl1 := fl
    rw [stk] at fl1
    refine wpAny_looks_onW hfr fr fl1 fun h1 held up1 => ?_
    refine wpAny_landsW held fun h2 fl2 up2 => ?_
    have fl2' := fl2
    rw [← stk] at fl2'
    obtain ⟨T2, F2⟩ := F.back (tk := s1.toks) J.stack J.stkFree fl2' (up1.trans up2)
    have J2 : Inv X pins σ H' { s1 with heap := h2, toks := s1.toks } := F2.inv I0
    obtain ⟨oe, vs, b0, oT, tsx, e1, e2, _⟩ := F2.xt
    have LT : PySem.W.Looks (model X.prog X.w) h2 (typeOf (.ref a)) (.ref C) := e2.1 ▸ (PySem.W.Looks.ld e1).andThen .now
    refine wpAny_handleBy_cons (codeAny_handlers_test (ld_glob (X := X.caught a) (s := { s1 with heap := h2, toks := s1.toks }) (J2.catch a) hg hm ?_ hdb)) (by intro q; cases q)
    refine (PySem.W.exm_one (M := model X.prog X.w) J2.kIn LT hx).here ?_
    refine codeAny_handlers_suite_as ?_
    refine lands_againW fl2 fun h3 fl3 up3 => ?_
    have fl3' := fl3
    rw [← stk] at fl3'
    obtain ⟨T3, F3⟩ := F.back (tk := s1.toks) J.stack J.stkFree fl3' ((up1.trans up2).trans up3)
    have J3 : Inv X pins σ (upd H' a (ExcO a C)) { s1 with heap := h3, toks := s1.toks } := F3.inv' I0
    refine store_ok (X := X) (v := .ref a) J3 hN hi (.inl hk) rfl (fun s4 J4 => ?_) (.inr hk)
    refine wpAny_mono (hs a pins s4 _ _ (D.gone i) (J4.catch a) (hq a F.ha)) (fun fl s5 q => ?_) fun _ _ z => z.elim
    have cl : (X.env.scope.kind == .class || (X.env.scope.kind == .module && X.env.locals != X.env.globals)) = false := by rw [I.ok.kind]; rfl
    cases fl with
    | next =>
      obtain ⟨σ', H5, I5, q5⟩ := q
      have K5 := I5.uncatch I.ok
      obtain ⟨m, hn, hl⟩ := id K5.loc
      exact wpAny_nameGoes_keeps hk hn cl fun h' v hn' hs' => ⟨_, H5, K5.unset hN hi hk hl hn' hs', q5⟩
    | brk =>
      obtain ⟨σ', H5, I5, q5⟩ := q
      have K5 := I5.uncatch I.ok
      obtain ⟨m, hn, hl⟩ := id K5.loc
      exact wpAny_nameGoes_keeps hk hn cl fun h' v hn' hs' => ⟨_, H5, K5.unset hN hi hk hl hn' hs', q5⟩
    | cont =>
      obtain ⟨σ', H5, I5, q5⟩ := q
      have K5 := I5.uncatch I.ok
      obtain ⟨m, hn, hl⟩ := id K5.loc
      exact wpAny_nameGoes_keeps hk hn cl fun h' v hn' hs' => ⟨_, H5, K5.unset hN hi hk hl hn' hs', q5⟩
    | ret u =>
      obtain ⟨vr, σ', H5, I5, rv, q5⟩ := q
      have K5 := I5.uncatch I.ok
      obtain ⟨m, hn, hl⟩ := id K5.loc
      exact wpAny_nameGoes_keeps hk hn cl fun h' v hn' hs' => ⟨vr, _, H5, K5.unset hN hi hk hl hn' hs', rv, q5⟩
end
end L2

namespace Mine
open PySem PySem.W PySem.Spec PySem.Calls PyProof.Rows
section
variable {prog : Program} {w : World} {A : Around} {E : Value → Shared → Prop} {s : Shared} {K : Frag} {x D : Addr} {o : Obj} {c : Value}
theorem check_ga {M : Model} {nameV : Value} {Q : Unit → Shared → Prop} (X : K.In s.heap) (L0 : Looks M s.heap (typeOf (.ref x)) (.ref D)) (hb : mroIn K D (.type "BaseException") = some true) (hq : Q () s) :
    wpAny M A (checkBuiltinCall "BaseException.__getattribute__" ⟨[.ref x, nameV], []⟩) Q E s := by
  obtain ⟨hh, g, d, t, os⟩ := s
  have hk : builtinKind "BaseException.__getattribute__" = some .slot := by decide +kernel
  have hsplit : splitId "BaseException.__getattribute__" = some ("BaseException", "__getattribute__") := by decide +kernel
  have LB := looks_mroIn (M := M) X hb
  have ha := PySem.F.args_bexc_ga (.ref x) nameV
  have LI : Looks M hh (isInstance (.ref x) (.type "BaseException")) true := L0.andThen LB
  simp only [checkBuiltinCall, hk, hsplit]
  refine wpAny_bind (LI.at ?_)
  repeat (any_goals (first | assumption | wp_step))
open Builtin Builtin.Getset_descriptor in
theorem class_get1 {R : Result → Shared → Prop} {tp : Value} (X : K.In s.heap) (L0 : ∀ M : Model, Looks M s.heap (typeOf (.ref x)) (.ref D)) (hm : mroIn K D (.type "object") = some true)
    (hR : R (.ok (.ret (.ref D))) s) : codeAny (model prog w) A (.call (.builtin "getset_descriptor.__get__") ⟨[.builtin "object.__class__", .ref x, tp], []⟩) R s := by
  rcases s with ⟨hp, gn, dn, tk, os⟩
  have look := L0 (model prog w)
  have above := looks_mroIn (M := model prog w) X hm
  have known := KF.slot_gs.check (model prog w) A.in1
  have kind : (⟨hp, gn, dn, tk, os⟩ : Shared).TypeIs (.builtin "object.__class__") "getset_descriptor" := KF.type_class
  apply codeAny_call_builtin KF.slot_gs.plain KF.entry_gs
  apply known _ _ _ _ _ _ kind (KF.args_gs _ _ _)
  delta Builtin.«getset_descriptor.__get__» descrGet
  rw [dga_obj]
  apply wpAny_bind
  apply wpAny_pure
  delta descrGetter descrCheckInstance descrNameAndClass isInstance
  simp only [KF.owner_class]
  repeat lk
  constructor
  · exact Code.quiet_builtin _ (by decide +kernel)
  · apply codeAny_builtin KF.entry_class
    delta Builtin.«object.__class__» shownTypeOf
    repeat lk
    exact hR
theorem class_entry {nm : Tok} {Q : Fin → Shared → Prop} (X : K.In s.heap) (L0 : ∀ M : Model, Looks M s.heap (typeOf (.ref x)) (.ref D)) (ha : findIn K (.ref D) "__class__" = some (some (.builtin "object.__class__")))
    (hm : mroIn K D (.type "object") = some true) (hq : Q (.done (.ret (.ref D))) s) :
    wpAny (model prog w) A (Builtin.«object.__getattribute__» ⟨[.ref x, .str "__class__" nm], []⟩) Q E s := by
  obtain ⟨hh, g, d, t, os⟩ := s
  have L1 := L0 (model prog w)
  have L3 := looks_findIn (M := model prog w) X ha
  have f5 := KF.type_class
  have f6 := PySem.F.slot_gs_get.lookup
  have f7 := PySem.F.slot_gs_set.lookup
  repeat (any_goals (first | assumption | with_reducible refine wpAny_bind (L1.at ?_) | with_reducible refine L1.at ?_ | with_reducible refine wpAny_bind (L3.at ?_) | with_reducible refine L3.at ?_ | wp_step))
  refine class_get1 (D := D) X L0 hm ?_
  repeat (any_goals (first | assumption | wp_step))
theorem class_call {nm : Tok} {R : Result → Shared → Prop} (X : K.In s.heap) (L0 : ∀ M : Model, Looks M s.heap (typeOf (.ref x)) (.ref D)) (ha : findIn K (.ref D) "__class__" = some (some (.builtin "object.__class__")))
    (hm : mroIn K D (.type "object") = some true) (hb : mroIn K D (.type "BaseException") = some true) (hq : R (.ok (.ret (.ref D))) s) :
    codeAny (model prog w) A (.call (.builtin "BaseException.__getattribute__") ⟨[.ref x, .str "__class__" nm], []⟩) R s :=
  codeAny_call_builtin PySem.F.attr_ValueError.ga.plain PySem.F.entry_bexc_ga (check_ga X (L0 _) hb (class_entry X L0 ha hm hq))
theorem exc_class {Q : Option Value → Shared → Prop} (X : K.In s.heap) (L0 : ∀ M : Model, Looks M s.heap (typeOf (.ref x)) (.ref D))
    (hga : findIn K (.ref D) "__getattribute__" = some (some (.builtin "BaseException.__getattribute__"))) (hgt : findIn K (.ref D) "__getattr__" = some none) (ha : findIn K (.ref D) "__class__" = some (some (.builtin "object.__class__")))
    (hm : mroIn K D (.type "object") = some true) (hb : mroIn K D (.type "BaseException") = some true) (h : Q (some (.ref D)) { s with toks := s.toks + 1 }) :
    wpAny (model prog w) A (getAttr? (.ref x) "__class__") Q E s := by
  obtain ⟨hh, g, d, t, os⟩ := s
  have L1 := L0 (model prog w)
  have L2 := looks_findIn (M := model prog w) X hga
  have L3 := looks_findIn (M := model prog w) X hgt
  have f3 := PySem.F.attr_ValueError.ga.bind (.ref x)
  have hx2 : (Value.builtin "BaseException.__getattribute__" == Value.builtin "object.__getattribute__") = false := by decide +kernel
  have hx1 : (onTheHeap (Value.ref D) && Value.builtin "BaseException.__getattribute__" == Value.builtin "object.__getattribute__") = false := by rw [hx2]; rfl
  have hx0 : (false && onTheHeap (Value.builtin "BaseException.__getattribute__")) = false := rfl
  unfold getAttr? getAttrBy? getAttrBy
  refine wpAny_bind (wpAny_mkText (wpAny_bind (wpAny_attempt (wpAny_holding (wpAny_bind (L1.at (wpAny_bind (L2.at ?_))))))))
  simp only [hx1]
  repeat (any_goals (first | assumption | with_reducible refine wpAny_bind (L1.at ?_) | with_reducible refine L1.at ?_ | with_reducible refine wpAny_bind (L3.at ?_) | with_reducible refine L3.at ?_ | wp_step))
  refine class_call (D := D) (s := ⟨hh, g, d, t + 1, os⟩) X (fun M => L0 M) ha hm hb ?_
  show wpAny (model prog w) A (handedOut (Value.ref D)) _ _ _
  exact handed_on rfl (wpAny_pure h)
def ExcAt (x D : Addr) (h : Heap) : Prop := ∃ o, h.get? x = some o ∧ o.cls = .ref D
theorem excAt_ty {M : Model} {h : Heap} (p : ExcAt x D h) : Looks M h (typeOf (.ref x)) (.ref D) := by
  obtain ⟨o, h1, h2⟩ := p
  exact h2 ▸ (Looks.ld h1).andThen .now
theorem kitx_exc
    (hga : findIn K (.ref D) "__getattribute__" = some (some (.builtin "BaseException.__getattribute__"))) (hgt : findIn K (.ref D) "__getattr__" = some none) (ha : findIn K (.ref D) "__class__" = some (some (.builtin "object.__class__")))
    (hm : mroIn K D (.type "object") = some true) (hb : mroIn K D (.type "BaseException") = some true) : KitX K (.ref x) (.ref D) (ExcAt x D) where
  ty := fun _ _ _ p => excAt_ty p
  it := fun _ _ X _ => by
    obtain ⟨cdD, hcD, _⟩ := Option.bind_eq_some_iff.mp (show (clsIn K D).bind _ = some true from hm)
    unfold clsIn at hcD
    split at hcD
    · rename_i c' d' cd' sl' ho
      intro A' Q' E' s' k q
      unfold isType loadHead
      exact wpAny_bind (wpAny_loadPart (k _ _ (X _ _ ho)) (wpAny_pure q))
    · cases hcD
  ne := fun h tp dd its n sl X htp => by
    refine Bool.eq_false_iff.mpr fun q => ?_
    have e : D = tp := Value.ref.inj (beq_iff_eq.mp q)
    subst e
    obtain ⟨cdD, hcD, _⟩ := Option.bind_eq_some_iff.mp (show (clsIn K D).bind _ = some true from hm)
    unfold clsIn at hcD
    split at hcD
    · rename_i c' d' cd' sl' ho
      have z := (X _ _ ho).symm.trans htp
      cases z
    · cases hcD
  ca := fun X p k => exc_class X (fun _ => excAt_ty p) hga hgt ha hm hb k
end
end Mine

namespace L2
open PySem PySem.Spec PyProof.Rows
structure ExcK (K : PySem.W.Frag) (C : Addr) : Prop where
  ga : PySem.W.findIn K (.ref C) "__getattribute__" = some (some (.builtin "BaseException.__getattribute__"))
  gt : PySem.W.findIn K (.ref C) "__getattr__" = some none
  cl : PySem.W.findIn K (.ref C) "__class__" = some (some (.builtin "object.__class__"))
  ob : PySem.W.mroIn K C (.type "object") = some true
  be : PySem.W.mroIn K C (.type "BaseException") = some true
  ex : PySem.W.excIn K C bmV "ValueError.__new__" = true
def clsV : V → Option Value
  | .ty n => some (.type n)
  | .ref D => some (.ref D)
  | _ => none
section
variable {X : Cx}
def rIsx (K : PySem.W.Frag) : List V → Hp → VK → Prop := fun xs H Q => ∃ a C c cv b, xs = [.ref a, c] ∧ H a = some (ExcO a C) ∧ ExcK K C ∧ clsV c = some cv ∧ PySem.W.kitOne K (.ref C) cv = some b ∧ Q (.bl b) H
theorem call_isx : CallR X (.builtin "isinstance") (rIsx X.K) := by
  intro pins s σ H xs us Q I r h
  obtain ⟨a, C, c, cv, b, rfl, ea, ek, ec, e, q⟩ := h
  cases r with
  | cons rx r1 =>
    cases r1 with
    | cons ry r2 =>
      cases r2
      cases (show _ = Value.ref a from rx)
      have hv : ∀ u, RelV c u → u = cv := fun u ru => by
        cases c with
        | ty n => cases ec; exact ru
        | ref D => cases ec; exact ru
        | _ => cases ec
      cases hv _ ry
      obtain ⟨p, _, _⟩ := (show ObjOk X.prog X.w H s.heap a (ExcO a C) from I.hok a _ ea)
      exact PySem.W.kia_one (Mine.kitx_exc ek.ga ek.gt ek.cl ek.ob ek.be) I.kIn p e (fun z => nomatch z) fun tk => ⟨.bl b, H, I.tok _, rfl, q⟩
theorem call_isxK (K : PySem.W.Frag) (h : X.K = K) : CallR X (.builtin "isinstance") (rIsx K) := h ▸ call_isx
theorem PS.nox {st : Stmt} {t : TS} (h : PS X.nox st t) : PS X st t := fun pins s σ H D I hw =>
  wpAny_mono (h pins s σ H D (I.wish _) hw) (fun _ _ q => q.unwish) fun _ _ z => False.elim z
end
end L2

namespace L2
open PySem PySem.Spec PyProof.Rows
theorem boot_VE : bootBuiltins "ValueError" = some (.type "ValueError") := by decide +kernel
section
variable {X : Cx}
end
end L2
namespace Mine
@[irreducible] def dv (a b : Int) : Int := (Int.gcd a b : Int)
theorem dv_nonneg (a b : Int) : 0 ≤ dv a b := by unfold dv; exact Int.natCast_nonneg _
theorem fm (x y : Int) : x.fmod y = x - y * x.fdiv y := Int.fmod_def x y
theorem dv_fmod (a b : Int) : dv b (a.fmod b) = dv a b := by
  unfold dv
  have e : a.fmod b = a - a.fdiv b * b := by rw [Int.fmod_def, Int.mul_comm]
  rw [e, Int.gcd_sub_mul_right_right, Int.gcd_comm]
theorem dv_zero (a : Int) : dv a 0 = (a.natAbs : Int) := by
  unfold dv; rw [Int.gcd_zero_right]
theorem dv_abs (a b : Int) : dv (a.natAbs : Int) (b.natAbs : Int) = dv a b := by
  unfold dv Int.gcd; simp
theorem fmod_abs_lt (a b : Int) (h : b ≠ 0) : (a.fmod b).natAbs < b.natAbs := by
  rcases Int.lt_trichotomy b 0 with hb | hb | hb
  · have e : a.fmod b = -((-a).fmod (-b)) := by
      simp [Int.neg_fmod_neg] 
    have h1 := Int.fmod_nonneg_of_pos (-a) (show 0 < -b by omega)
    have h2 := Int.fmod_lt_of_pos (-a) (show 0 < -b by omega)
    omega
  · exact absurd hb h
  · have h1 := Int.fmod_nonneg_of_pos a hb
    have h2 := Int.fmod_lt_of_pos a hb
    omega
theorem d_turn {a b g r : Int} (h : dv g r = dv a b) (hr : 0 < r) : 0 ≤ r ∧ 0 ≤ g.fmod r ∧ dv r (g.fmod r) = dv a b :=
  ⟨by omega, Int.fmod_nonneg_of_pos g hr, by rw [dv_fmod, h]⟩
theorem d_less {g r : Int} (hr : 0 < r) : (g.fmod r).toNat < r.toNat := by
  have h1 := Int.fmod_nonneg_of_pos g hr
  have h2 := Int.fmod_lt_of_pos g hr
  omega
theorem d_out {a b g r : Int} (h : dv g r = dv a b) (g0 : 0 ≤ g) (r0 : 0 ≤ r) (hr : ¬ 0 < r) : g = dv a b := by
  have e : r = 0 := by omega
  rw [← h, e, dv_zero]; omega
theorem l_turn {a b x y : Int} (h : dv x y = dv a b) : dv y (x.fmod y) = dv a b := by rw [dv_fmod, h]
theorem l_out {a b x y : Int} (h : dv x y = dv a b) (hy : y = 0) : (x.natAbs : Int) = dv a b := by
  rw [← h, hy, dv_zero]
theorem dv_left (a b : Int) : ∃ q, a = dv a b * q := by
  obtain ⟨q, hq⟩ := Int.gcd_dvd_left a b
  exact ⟨q, by unfold dv; exact hq⟩
theorem dv_right (a b : Int) : ∃ q, b = dv a b * q := by
  obtain ⟨q, hq⟩ := Int.gcd_dvd_right a b
  exact ⟨q, by unfold dv; exact hq⟩
theorem dv_eq_zero {a b : Int} (h : dv a b = 0) : a = 0 ∧ b = 0 := by
  obtain ⟨q, hq⟩ := dv_left a b
  obtain ⟨r, hr⟩ := dv_right a b
  rw [h] at hq hr
  exact ⟨by omega, by omega⟩
theorem dv_pos {a b : Int} (h : b ≠ 0) : 0 < dv a b := by
  have := dv_nonneg a b
  rcases (by omega : dv a b = 0 ∨ 0 < dv a b) with e | e
  · exact absurd (dv_eq_zero e).2 h
  · exact e
theorem dv_le (a b : Int) (h : b ≠ 0) : dv a b ≤ (b.natAbs : Int) := by
  have : Int.gcd a b ≤ b.natAbs := by
    unfold Int.gcd
    exact Nat.gcd_le_right _ (by omega)
  unfold dv; omega
theorem fdiv_mul {g q : Int} (hg : g ≠ 0) : (g * q).fdiv g = q := Int.mul_fdiv_cancel_left q hg
@[irreducible] def sg (a b : Int) : Int := if b < 0 then -(dv a b) else dv a b
@[irreducible] def tp (a b : Int) : Int := a.fdiv (sg a b)
@[irreducible] def bt (a b : Int) : Int := b.fdiv (sg a b)
theorem sg_pos {a b : Int} (h : ¬ b < 0) : sg a b = dv a b := by unfold sg; rw [if_neg h]
theorem sg_neg {a b : Int} (h : b < 0) : sg a b = -(dv a b) := by unfold sg; rw [if_pos h]
theorem sg_ne {a b : Int} (h : b ≠ 0) : sg a b ≠ 0 := by
  have := dv_pos (a := a) h
  unfold sg; split <;> omega
theorem tp_mul {a b : Int} (h : b ≠ 0) : sg a b * tp a b = a := by
  obtain ⟨q, hq⟩ := dv_left a b
  have hs := sg_ne (a := a) h
  have : ∃ k, a = sg a b * k := by
    unfold sg; split
    · exact ⟨-q, by rw [Int.neg_mul_neg]; exact hq⟩
    · exact ⟨q, hq⟩
  obtain ⟨k, hk⟩ := this
  have e : tp a b = k := by
    unfold tp
    conv => lhs; lhs; rw [hk]
    exact fdiv_mul hs
  rw [e]; exact hk.symm
theorem bt_mul {a b : Int} (h : b ≠ 0) : sg a b * bt a b = b := by
  obtain ⟨q, hq⟩ := dv_right a b
  have hs := sg_ne (a := a) h
  have : ∃ k, b = sg a b * k := by
    unfold sg; split
    · exact ⟨-q, by rw [Int.neg_mul_neg]; exact hq⟩
    · exact ⟨q, hq⟩
  obtain ⟨k, hk⟩ := this
  have e : bt a b = k := by
    unfold bt
    conv => lhs; lhs; rw [hk]
    exact fdiv_mul hs
  rw [e]; exact hk.symm
theorem bt_pos {a b : Int} (h : b ≠ 0) : 0 < bt a b := by
  have e := bt_mul (a := a) h
  have g := dv_pos (a := a) h
  rcases (by omega : 0 < bt a b ∨ bt a b ≤ 0) with p | p
  · exact p
  · exfalso
    by_cases hb : b < 0
    · rw [sg_neg hb, Int.neg_mul] at e
      have := Int.mul_nonpos_of_nonneg_of_nonpos (Int.le_of_lt g) p
      omega
    · rw [sg_pos hb] at e
      have := Int.mul_nonpos_of_nonneg_of_nonpos (Int.le_of_lt g) p
      omega
theorem cross {a b : Int} (h : b ≠ 0) : tp a b * b = a * bt a b := by
  have e1 := tp_mul (a := a) h
  have e2 := bt_mul (a := a) h
  calc tp a b * b = tp a b * (sg a b * bt a b) := by rw [e2]
    _ = (sg a b * tp a b) * bt a b := by rw [Int.mul_comm (sg a b) (tp a b), Int.mul_assoc]
    _ = a * bt a b := by rw [e1]
theorem natAbs_sg (a b : Int) : (sg a b).natAbs = Int.gcd a b := by
  unfold sg dv; split <;> omega
theorem gcd_scale {a b s t u : Int} (e1 : s * t = a) (e2 : s * u = b) : Int.gcd a b = s.natAbs * Int.gcd t u := by
  rw [← e1, ← e2, Int.gcd_mul_left]
theorem low {a b : Int} (h : b ≠ 0) : dv (tp a b) (bt a b) = 1 := by
  have e := gcd_scale (tp_mul (a := a) h) (bt_mul (a := a) h)
  rw [natAbs_sg] at e
  have p := dv_pos (a := a) h
  have q : 0 < Int.gcd a b := by unfold dv at p; omega
  have : Int.gcd a b * Int.gcd (tp a b) (bt a b) = Int.gcd a b * 1 := by rw [← e, Nat.mul_one]
  have := Nat.eq_of_mul_eq_mul_left q this
  unfold dv; rw [this]; rfl
theorem coprime_eq {a b c d : Int} (hb : 0 < b) (hd : 0 < d) (h1 : dv a b = 1) (h2 : dv c d = 1) (e : a * d = c * b) : a = c ∧ b = d := by
  have g1 : Nat.Coprime b.natAbs a.natAbs := by
    have : Int.gcd a b = 1 := by unfold dv at h1; omega
    unfold Int.gcd at this
    exact Nat.Coprime.symm this
  have g2 : Nat.Coprime d.natAbs c.natAbs := by
    have : Int.gcd c d = 1 := by unfold dv at h2; omega
    unfold Int.gcd at this
    exact Nat.Coprime.symm this
  have en : a.natAbs * d.natAbs = c.natAbs * b.natAbs := by rw [← Int.natAbs_mul, ← Int.natAbs_mul, e]
  have d1 : b.natAbs ∣ d.natAbs := g1.dvd_of_dvd_mul_left ⟨c.natAbs, by rw [en, Nat.mul_comm]⟩
  have d2 : d.natAbs ∣ b.natAbs := g2.dvd_of_dvd_mul_left ⟨a.natAbs, by rw [← en, Nat.mul_comm]⟩
  have eb : b.natAbs = d.natAbs := Nat.dvd_antisymm d1 d2
  have ebd : b = d := by omega
  refine ⟨?_, ebd⟩
  rw [ebd] at e
  exact Int.eq_of_mul_eq_mul_right (by omega) e
theorem tp_uniq {a b x y : Int} (h : b ≠ 0) (hy : 0 < y) (hl : dv x y = 1) (e : a * y = x * b) : tp a b = x ∧ bt a b = y := by
  refine coprime_eq (bt_pos h) hy (low h) hl ?_
  have c := cross (a := a) h
  -- tp*y = x*bt : multiply by b
  have : (tp a b * y) * b = (x * bt a b) * b := by
    calc (tp a b * y) * b = (tp a b * b) * y := by rw [Int.mul_assoc, Int.mul_comm y b, ← Int.mul_assoc]
      _ = (a * bt a b) * y := by rw [c]
      _ = (a * y) * bt a b := by rw [Int.mul_assoc, Int.mul_comm (bt a b) y, ← Int.mul_assoc]
      _ = (x * b) * bt a b := by rw [e]
      _ = (x * bt a b) * b := by rw [Int.mul_assoc, Int.mul_comm b, ← Int.mul_assoc]
  exact Int.eq_of_mul_eq_mul_right h this
theorem natAbs_fdiv_le (a s : Int) (k : Int) (e : s * k = a) (hs : s ≠ 0) : k.natAbs ≤ a.natAbs := by
  have : a.natAbs = s.natAbs * k.natAbs := by rw [← e, Int.natAbs_mul]
  rw [this]
  exact Nat.le_mul_of_pos_left _ (by omega)
theorem tp_le {a b : Int} (h : b ≠ 0) : (tp a b).natAbs ≤ a.natAbs := natAbs_fdiv_le a _ _ (tp_mul h) (sg_ne h)
theorem bt_le {a b : Int} (h : b ≠ 0) : (bt a b).natAbs ≤ b.natAbs := natAbs_fdiv_le b _ _ (bt_mul h) (sg_ne h)

theorem same_cross {a b c d : Int} (hb : b ≠ 0) (hd : d ≠ 0) (e : a * d = c * b) : tp a b = tp c d ∧ bt a b = bt c d := by
  refine tp_uniq hb (bt_pos hd) (low hd) ?_
  have h := cross (a := c) hd
  have : (a * bt c d) * d = (tp c d * b) * d := by
    calc (a * bt c d) * d = (a * d) * bt c d := by rw [Int.mul_assoc, Int.mul_comm (bt c d) d, ← Int.mul_assoc]
      _ = (c * b) * bt c d := by rw [e]
      _ = (c * bt c d) * b := by rw [Int.mul_assoc, Int.mul_comm b, ← Int.mul_assoc]
      _ = (tp c d * d) * b := by rw [h]
      _ = (tp c d * b) * d := by rw [Int.mul_assoc, Int.mul_comm d b, ← Int.mul_assoc]
  exact Int.eq_of_mul_eq_mul_right hd this
theorem lo_self {x y : Int} (hy : 0 < y) (hl : dv x y = 1) : tp x y = x ∧ bt x y = y := tp_uniq (by omega) hy hl rfl
theorem ne_mul {a b : Int} (ha : a ≠ 0) (hb : b ≠ 0) : a * b ≠ 0 := Int.mul_ne_zero ha hb
theorem distrib {a b c d e f T B P U R V : Int} (hb : b ≠ 0) (hd : d ≠ 0) (hf : f ≠ 0) (hB : B ≠ 0) (hU : U ≠ 0) (hV : V ≠ 0)
    (h1 : T * (d * f) = (c * f + e * d) * B) (h2 : P * (b * d) = (a * c) * U) (h3 : R * (b * f) = (a * e) * V) :
    tp (a * T) (b * B) = tp (P * V + R * U) (U * V) ∧ bt (a * T) (b * B) = bt (P * V + R * U) (U * V) := by
  refine same_cross (ne_mul hb hB) (ne_mul hU hV) ?_
  have k : ((a * T) * (U * V)) * ((d * f) * ((b * d) * (b * f))) = ((P * V + R * U) * (b * B)) * ((d * f) * ((b * d) * (b * f))) := by
    grind
  exact Int.eq_of_mul_eq_mul_right (ne_mul (ne_mul hd hf) (ne_mul (ne_mul hb hd) (ne_mul hb hf))) k
theorem plus_comm {a b c d : Int} : tp (a * d + c * b) (b * d) = tp (c * b + a * d) (d * b) ∧ bt (a * d + c * b) (b * d) = bt (c * b + a * d) (d * b) := by
  rw [Int.add_comm, Int.mul_comm b d]; exact ⟨rfl, rfl⟩
theorem times_comm {a b c d : Int} : tp (a * c) (b * d) = tp (c * a) (d * b) ∧ bt (a * c) (b * d) = bt (c * a) (d * b) := by
  rw [Int.mul_comm a c, Int.mul_comm b d]; exact ⟨rfl, rfl⟩
theorem plus_zero {a b : Int} (hb : 0 < b) (hl : dv a b = 1) : tp (a * 1 + 0 * b) (b * 1) = a ∧ bt (a * 1 + 0 * b) (b * 1) = b := by
  have e1 : a * 1 + 0 * b = a := by omega
  have e2 : b * 1 = b := by omega
  rw [e1, e2]; exact lo_self hb hl
theorem dv01 : dv 0 1 = 1 := by unfold dv; decide
theorem dv11 : dv 1 1 = 1 := by unfold dv; decide

open PySem
@[irreducible] def num (c : Int) : Int := if c.fmod 3 = 0 then (c.fdiv 3).fmod 19 - 9 else if c.fmod 3 = 1 then (c.fdiv 3).fmod 2000003 - 1000001 else (c.fdiv 3).fmod 1999999999999999999999999999999 - 999999999999999999999999999999
theorem num_a {c : Int} (h : c.fmod 3 = 0) : (c.fdiv 3).fmod 19 - 9 = num c := by unfold num; rw [if_pos h]
theorem num_b {c : Int} (h : ¬ c.fmod 3 = 0) (h1 : c.fmod 3 = 1) : (c.fdiv 3).fmod 2000003 - 1000001 = num c := by unfold num; rw [if_neg h, if_pos h1]
theorem num_c {c m k : Int} (h : ¬ c.fmod 3 = 0) (h1 : ¬ c.fmod 3 = 1) (hm : m = 1999999999999999999999999999999) (hk : k = 999999999999999999999999999999) : (c.fdiv 3).fmod m - k = num c := by unfold num; rw [if_neg h, if_neg h1, hm, hk]
theorem abs_start (a b : Int) : dv (if a < 0 then -a else a) (if b < 0 then -b else b) = dv a b := by
  have e : ∀ x : Int, (if x < 0 then -x else x) = (x.natAbs : Int) := fun x => by split <;> omega
  rw [e, e, dv_abs]
theorem start1 (a b : Int) : 0 ≤ (if a < 0 then -a else a) ∧ 0 ≤ (if b < 0 then -b else b) ∧ dv (if a < 0 then -a else a) (if b < 0 then -b else b) = dv a b :=
  ⟨by split <;> omega, by split <;> omega, abs_start a b⟩
theorem out2 {a b x y : Int} (h : dv x y = dv a b) (hy : y = 0) : (if x < 0 then -x else x) = dv a b := by
  rw [← l_out h hy]; split <;> omega

structure S1 (x : Int) : Prop where
  lo : -10000000000000000000000000000000 ≤ x
  hi : x ≤ 10000000000000000000000000000000
structure S2 (x : Int) : Prop where
  lo : -1000000000000000000000000000000000000000000000000000000000000000 ≤ x
  hi : x ≤ 1000000000000000000000000000000000000000000000000000000000000000
structure Po (x : Int) : Prop where
  lo : 0 < x
theorem S1.two {x : Int} (h : S1 x) : S2 x := ⟨by have := h.lo; omega, by have := h.hi; omega⟩
theorem S1.zero : S1 0 := ⟨by decide, by decide⟩
theorem S1.one : S1 1 := ⟨by decide, by decide⟩
theorem Po.one : Po 1 := ⟨by decide⟩
theorem S2.lt {y : Int} (h : S2 y) : y.natAbs < 2 ^ 210 := by
  have : (2 : Nat) ^ 210 > 1000000000000000000000000000000000000000000000000000000000000000 := by decide
  have := h.lo
  have := h.hi
  omega
theorem mul_in {x y : Int} (hx : S1 x) (hy : S1 y) : -100000000000000000000000000000000000000000000000000000000000000 ≤ x * y ∧ x * y ≤ 100000000000000000000000000000000000000000000000000000000000000 := by
  have x0 := hx.lo
  have x1 := hx.hi
  have y0 := hy.lo
  have y1 := hy.hi
  have h : (x * y).natAbs = x.natAbs * y.natAbs := Int.natAbs_mul x y
  have k : x.natAbs * y.natAbs ≤ 10000000000000000000000000000000 * 10000000000000000000000000000000 := Nat.mul_le_mul (by omega) (by omega)
  omega
theorem S2.mul {x y : Int} (hx : S1 x) (hy : S1 y) : S2 (x * y) := ⟨by have := mul_in hx hy; omega, by have := mul_in hx hy; omega⟩
theorem Po.mul {x y : Int} (hx : Po x) (hy : Po y) : Po (x * y) := ⟨Int.mul_pos hx.lo hy.lo⟩
theorem Po.ne {x : Int} (h : Po x) : x ≠ 0 := by have := h.lo; omega
theorem Po.sg {a b : Int} (h : Po b) : dv a b = sg a b := (sg_pos (by have := h.lo; omega)).symm
theorem S1.tp {a b : Int} (h : S1 a) (p : Po b) : S1 (tp a b) := by
  have l := tp_le (a := a) p.ne
  have := h.lo
  have := h.hi
  exact ⟨by omega, by omega⟩
theorem S2.tp {a b : Int} (h : S2 a) (p : Po b) : S2 (tp a b) := by
  have l := tp_le (a := a) p.ne
  have := h.lo
  have := h.hi
  exact ⟨by omega, by omega⟩
theorem S1.bt {a b : Int} (h : S1 b) (p : Po b) : S1 (bt a b) := by
  have l := bt_le (a := a) p.ne
  have := h.lo
  have := h.hi
  exact ⟨by omega, by omega⟩
theorem S2.bt {a b : Int} (h : S2 b) (p : Po b) : S2 (bt a b) := by
  have l := bt_le (a := a) p.ne
  have := h.lo
  have := h.hi
  exact ⟨by omega, by omega⟩
theorem Po.bt {a b : Int} (p : Po b) : Po (bt a b) := ⟨bt_pos p.ne⟩
theorem S2.dv {a b : Int} (h : S2 b) (p : Po b) : S2 (dv a b) := by
  have := dv_le a b p.ne
  have := dv_nonneg a b
  have := h.lo
  have := h.hi
  exact ⟨by omega, by omega⟩
structure Low (a b : Int) : Prop where
  one : dv a b = 1
theorem lz {a b : Int} (p : Po b) (l : Low a b) : tp (a * 1 + 0 * b) (b * 1) = a ∧ bt (a * 1 + 0 * b) (b * 1) = b := plus_zero p.lo l.one
theorem cp {a b c d : Int} (_ : Low (tp (c * b + a * d) (d * b)) (bt (c * b + a * d) (d * b))) : tp (a * d + c * b) (b * d) = tp (c * b + a * d) (d * b) ∧ bt (a * d + c * b) (b * d) = bt (c * b + a * d) (d * b) := plus_comm
theorem ct {a b c d : Int} (_ : Low (tp (c * a) (d * b)) (bt (c * a) (d * b))) : tp (a * c) (b * d) = tp (c * a) (d * b) ∧ bt (a * c) (b * d) = bt (c * a) (d * b) := times_comm
end Mine
namespace Mine
def Pr (p : Nat) : Prop := 2 ≤ p ∧ ∀ d, 2 ≤ d → d * d ≤ p → ¬ p % d = 0
theorem Pr.div {p d : Nat} (h : Pr p) (hd : d ∣ p) : d = 1 ∨ d = p := by
  obtain ⟨k, hk⟩ := hd
  have p2 := h.1
  rcases (by omega : d = 0 ∨ d = 1 ∨ 2 ≤ d) with e | e | e
  · rw [e, Nat.zero_mul] at hk; omega
  · exact .inl e
  · rcases (by omega : k = 0 ∨ k = 1 ∨ 2 ≤ k) with f | f | f
    · rw [f, Nat.mul_zero] at hk; omega
    · rw [f, Nat.mul_one] at hk; exact .inr hk.symm
    · exfalso
      rcases Nat.le_total d k with g | g
      · have : d * d ≤ p := by rw [hk]; exact Nat.mul_le_mul_left d g
        exact h.2 d e this (by rw [hk]; exact Nat.mul_mod_right d k)
      · have : k * k ≤ p := by rw [hk]; exact Nat.mul_le_mul_right k g
        exact h.2 k f this (by rw [hk]; exact Nat.mul_mod_left d k)
theorem Pr.cop {p a : Nat} (h : Pr p) (ha : ¬ p ∣ a) : Nat.Coprime p a := by
  have d1 := Nat.gcd_dvd_left p a
  have d2 := Nat.gcd_dvd_right p a
  rcases h.div d1 with e | e
  · exact e
  · rw [e] at d2; exact absurd d2 ha
theorem Pr.mul {p a b : Nat} (h : Pr p) (hd : p ∣ a * b) : p ∣ a ∨ p ∣ b := by
  by_cases c : p ∣ a
  · exact .inl c
  · exact .inr ((h.cop c).dvd_of_dvd_mul_left hd)
theorem small {p a : Nat} (h0 : 0 < a) (h1 : a < p) : ¬ p ∣ a := fun h => by
  have := Nat.le_of_dvd h0 h
  omega
theorem hole : ∀ (n : Nat) (l : List Nat), l.Nodup → (∀ a ∈ l, a < n) → l.length ≤ n
  | 0, l, _, h => by
    cases l with
    | nil => exact Nat.le_refl 0
    | cons a r => exact absurd (h a (List.mem_cons_self ..)) (by omega)
  | n + 1, l, nd, h => by
    by_cases c : n ∈ l
    · have e := List.length_erase_of_mem c
      have := hole n (l.erase n) (nd.erase n) (fun a ha => by
        have m := (List.Nodup.mem_erase_iff nd).mp ha
        have := h a m.2
        have := m.1
        omega)
      omega
    · have := hole n l nd (fun a ha => by
        have := h a ha
        have : a ≠ n := fun e => c (e ▸ ha)
        omega)
      omega
theorem fe {a p : Int} (hp : 0 < p) : a.fmod p = a % p := Int.fmod_eq_emod_of_nonneg a (Int.le_of_lt hp)
theorem r_in {a p : Int} (hp : 0 < p) : 0 ≤ a.fmod p ∧ a.fmod p < p := ⟨Int.fmod_nonneg_of_pos a hp, Int.fmod_lt_of_pos a hp⟩
def PI (n : Int) : Prop := 2 ≤ n ∧ ∀ d : Int, 2 ≤ d → d * d ≤ n → ¬ n.fmod d = 0
noncomputable def isP (n : Int) : Bool := @decide (PI n) (Classical.propDecidable _)
theorem isP_of {n : Int} (h : PI n) : isP n = true := @decide_eq_true _ (Classical.propDecidable _) h
theorem isP_false {n : Int} (h : ¬ PI n) : isP n = false := @decide_eq_false _ (Classical.propDecidable _) h
theorem sq_lt {d f n : Int} (hd : 2 ≤ d) (hf : 2 ≤ f) (h : d * d ≤ n) (g : ¬ f * f ≤ n) : d < f := by
  rcases Int.lt_or_le d f with e | e
  · exact e
  · have : f * f ≤ d * d := Int.mul_le_mul e e (by omega) (by omega)
    omega
theorem sq_le {f n : Int} (hf : 2 ≤ f) (h : f * f ≤ n) : f + 1 ≤ n := by
  have : 2 * f ≤ f * f := Int.mul_le_mul_of_nonneg_right hf (by omega)
  omega
theorem p_small {n : Int} (h : n < 2) : false = isP n := by rw [isP_false]; intro c; have := c.1; omega
theorem p_hit {n f : Int} (hf : 2 ≤ f) (h : f * f ≤ n) (e : n.fmod f = 0) : false = isP n := by
  rw [isP_false]; exact fun c => c.2 f hf h e
theorem p_out {n f : Int} (n2 : 2 ≤ n) (hf : 2 ≤ f) (g : ¬ f * f ≤ n) (h : ∀ d : Int, 2 ≤ d → d < f → ¬ n.fmod d = 0) : true = isP n := by
  rw [isP_of]; exact ⟨n2, fun d hd hdd => h d hd (sq_lt hd hf hdd g)⟩
theorem p_turn {n f : Int} (h : ∀ d : Int, 2 ≤ d → d < f → ¬ n.fmod d = 0) (e : ¬ n.fmod f = 0) : ∀ d : Int, 2 ≤ d → d < f + 1 → ¬ n.fmod d = 0 := by
  intro d hd h1
  rcases (by omega : d < f ∨ d = f) with c | c
  · exact h d hd c
  · rw [c]; exact e
theorem p_check (n k : Nat) (h2 : 2 ≤ n) (hk : n < k * k) (h : (List.range k).all (fun d => d < 2 || n % d != 0) = true) : isP (n : Int) = true := by
  refine isP_of ⟨by omega, fun d hd hdd e => ?_⟩
  have hk2 : ¬ (k : Int) * (k : Int) ≤ (n : Int) := by
    have : ((n : Nat) : Int) < ((k * k : Nat) : Int) := by omega
    rw [Int.natCast_mul] at this; omega
  have kk : 2 ≤ (k : Int) := by
    rcases (by omega : k = 0 ∨ k = 1 ∨ 2 ≤ k) with c | c | c
    · subst c; omega
    · subst c; omega
    · omega
  have lt := sq_lt hd kk hdd hk2
  have dn : (d.toNat : Int) = d := Int.toNat_of_nonneg (by omega)
  have := List.all_eq_true.mp h d.toNat (List.mem_range.mpr (by omega))
  rw [← dn, fe (by omega), ← Int.natCast_emod] at e
  have e' : n % d.toNat = 0 := by omega
  simp [e'] at this
  omega
theorem p2 : isP 2 = true := p_check 2 2 (by decide) (by decide) (by decide +kernel)
theorem p3 : isP 3 = true := p_check 3 2 (by decide) (by decide) (by decide +kernel)
theorem p5 : isP 5 = true := p_check 5 3 (by decide) (by decide) (by decide +kernel)
theorem p7 : isP 7 = true := p_check 7 3 (by decide) (by decide) (by decide +kernel)
theorem p11 : isP 11 = true := p_check 11 4 (by decide) (by decide) (by decide +kernel)
end Mine
namespace Mine
open PySem PySem.SeqAt
structure SR where
  W : Type
  add : W → W → W
  mul : W → W → W
  zero : W
  one : W
  add_comm : ∀ x y, add x y = add y x
  add_assoc : ∀ x y z, add (add x y) z = add x (add y z)
  mul_comm : ∀ x y, mul x y = mul y x
  mul_assoc : ∀ x y z, mul (mul x y) z = mul x (mul y z)
  distrib : ∀ x y z, mul x (add y z) = add (mul x y) (mul x z)
  add_zero : ∀ x, add x zero = x
  mul_one : ∀ x, mul x one = x
  mul_zero : ∀ x, mul x zero = zero
  zo : zero ≠ one
  sz : Nat → W → Prop
  sz_mono : ∀ m n x, m ≤ n → sz m x → sz n x
  sz_add : ∀ m n x y, sz m x → sz n y → sz (m + n + 1) (add x y)
  sz_mul : ∀ m n x y, sz m x → sz n y → sz (m + n) (mul x y)
  sz_zero : sz 0 zero
  sz_one : sz 0 one
  lv : Nat → Nat → W → Prop
  lv_mono : ∀ k c c' x, c ≤ c' → lv k c x → lv k c' x
  lv_add : ∀ k c c' x y, lv k c x → lv k c' y → lv k (c + c') (add x y)
  lv_mul : ∀ j k x y, lv j 32 x → lv k 32 y → lv (j + k) 1 (mul x y)
  lv_zero : ∀ k, lv k 0 zero
  lv_one : lv 1 1 one
  lv_up : ∀ k c x, lv k c x → lv (k + 1) c x
  lv_sz : ∀ k c x, c ≤ 1024 → lv k c x → sz (100 * k) x
  data : W → PyData
  sh : ∀ x, shaped (data x) = true
  nm : ∀ x y, noMix (data x) (data y) = true
  eq : ∀ x, PySem.Spec.same (data x) (data x) = true
  ne : ∀ x y, x ≠ y → PySem.Spec.same (data x) (data y) = false
structure Fr where
  t : Int
  b : Int
  p : 0 < b
  l : dv t b = 1
theorem Fr.nb (x : Fr) : x.b ≠ 0 := by have := x.p; omega
def Fr.of (a b : Int) (h : 0 < b) : Fr := ⟨tp a b, bt a b, bt_pos (by omega), low (by omega)⟩
theorem Fr.of_cross (a b : Int) (h : 0 < b) : (Fr.of a b h).t * b = a * (Fr.of a b h).b := cross (by omega)
def Fr.add (x y : Fr) : Fr := Fr.of (x.t * y.b + y.t * x.b) (x.b * y.b) (Int.mul_pos x.p y.p)
def Fr.mul (x y : Fr) : Fr := Fr.of (x.t * y.t) (x.b * y.b) (Int.mul_pos x.p y.p)
def Fr.zero : Fr := ⟨0, 1, by decide, dv01⟩
def Fr.one : Fr := ⟨1, 1, by decide, dv11⟩
def Fr.sz (n : Nat) (x : Fr) : Prop := x.t.natAbs ≤ 2 ^ n ∧ x.b.natAbs ≤ 2 ^ n
def Fr.lv (k c : Nat) (x : Fr) : Prop := ∃ a : Int, x.t * 12 ^ k = a * x.b ∧ 1024 * a.natAbs ≤ c * 2 ^ (100 * k)
theorem Fr.lv_add {k c c' : Nat} {x y : Fr} (h : x.lv k c) (h' : y.lv k c') : (Fr.add x y).lv k (c + c') := by
  obtain ⟨a, e, b⟩ := h
  obtain ⟨a', e', b'⟩ := h'
  refine ⟨a + a', ?_, ?_⟩
  · have hc := Fr.of_cross (x.t * y.b + y.t * x.b) (x.b * y.b) (Int.mul_pos x.p y.p)
    have hn : x.b * y.b ≠ 0 := Int.mul_ne_zero x.nb y.nb
    refine Int.eq_of_mul_eq_mul_right hn ?_
    show (Fr.add x y).t * 12 ^ k * (x.b * y.b) = (a + a') * (Fr.add x y).b * (x.b * y.b)
    have hc : (Fr.add x y).t * (x.b * y.b) = (x.t * y.b + y.t * x.b) * (Fr.add x y).b := hc
    have e1 : (Fr.add x y).t * 12 ^ k * (x.b * y.b) = ((Fr.add x y).t * (x.b * y.b)) * 12 ^ k := by rw [Int.mul_right_comm]
    rw [e1, hc]
    have e2 : (x.t * y.b + y.t * x.b) * (Fr.add x y).b * 12 ^ k = ((x.t * 12 ^ k) * y.b + (y.t * 12 ^ k) * x.b) * (Fr.add x y).b := by
      rw [Int.mul_right_comm, Int.add_mul, Int.mul_right_comm x.t, Int.mul_right_comm y.t]
    rw [e2, e, e']
    have e3 : a * x.b * y.b + a' * y.b * x.b = (a + a') * (x.b * y.b) := by
      rw [Int.add_mul, Int.mul_assoc, Int.mul_assoc a', Int.mul_comm y.b x.b]
    rw [e3, Int.mul_right_comm]
  · have := Int.natAbs_add_le a a'
    rw [Nat.add_mul]
    omega
theorem Fr.lv_mul {j k : Nat} {x y : Fr} (h : x.lv j 32) (h' : y.lv k 32) : (Fr.mul x y).lv (j + k) 1 := by
  obtain ⟨a, e, b⟩ := h
  obtain ⟨a', e', b'⟩ := h'
  refine ⟨a * a', ?_, ?_⟩
  · have hc : (Fr.mul x y).t * (x.b * y.b) = (x.t * y.t) * (Fr.mul x y).b := Fr.of_cross (x.t * y.t) (x.b * y.b) (Int.mul_pos x.p y.p)
    have hn : x.b * y.b ≠ 0 := Int.mul_ne_zero x.nb y.nb
    refine Int.eq_of_mul_eq_mul_right hn ?_
    rw [Int.mul_right_comm, hc, Int.pow_add]
    have e2 : x.t * y.t * (Fr.mul x y).b * (12 ^ j * 12 ^ k) = (x.t * 12 ^ j) * (y.t * 12 ^ k) * (Fr.mul x y).b := by
      rw [Int.mul_right_comm]
      congr 1
      rw [Int.mul_assoc, Int.mul_assoc, Int.mul_left_comm y.t]
    rw [e2, e, e']
    have e3 : a * x.b * (a' * y.b) = a * a' * (x.b * y.b) := by
      rw [Int.mul_assoc, Int.mul_assoc, Int.mul_left_comm x.b]
    rw [e3, Int.mul_right_comm]
  · rw [Int.natAbs_mul, Nat.mul_add, Nat.pow_add]
    have h1 := Nat.mul_le_mul b b'
    have e1 : 1024 * a.natAbs * (1024 * a'.natAbs) = 1024 * (1024 * (a.natAbs * a'.natAbs)) := by
      rw [Nat.mul_assoc, Nat.mul_left_comm a.natAbs]
    have e2 : 32 * 2 ^ (100 * j) * (32 * 2 ^ (100 * k)) = 1024 * (2 ^ (100 * j) * 2 ^ (100 * k)) := by
      rw [Nat.mul_assoc, Nat.mul_left_comm (2 ^ (100 * j)), ← Nat.mul_assoc]
    rw [e1, e2] at h1
    have := Nat.le_of_mul_le_mul_left h1 (by decide)
    omega
theorem Fr.lv_up {k c : Nat} {x : Fr} (h : x.lv k c) : x.lv (k + 1) c := by
  obtain ⟨a, e, b⟩ := h
  refine ⟨a * 12, ?_, ?_⟩
  · rw [Int.pow_succ, ← Int.mul_assoc, e, Int.mul_right_comm]
  · rw [Int.natAbs_mul, show 100 * (k + 1) = 100 * k + 100 from by omega, Nat.pow_add]
    have h1 : (1024 * a.natAbs) * 12 ≤ (c * 2 ^ (100 * k)) * 2 ^ 100 := Nat.mul_le_mul b (by decide)
    have e1 : 1024 * (a.natAbs * (12 : Int).natAbs) = (1024 * a.natAbs) * 12 := by rw [Nat.mul_assoc]; rfl
    rw [e1, ← Nat.mul_assoc]
    exact h1
theorem Fr.lv_sz {k c : Nat} {x : Fr} (hc : c ≤ 1024) (h : x.lv k c) : x.sz (100 * k) := by
  obtain ⟨a, e, b⟩ := h
  have cop : Nat.Coprime x.t.natAbs x.b.natAbs := by
    have l := x.l
    unfold dv at l
    have : Int.gcd x.t x.b = 1 := by omega
    exact this
  have e' : x.t.natAbs * 12 ^ k = a.natAbs * x.b.natAbs := by
    have := congrArg Int.natAbs e
    rw [Int.natAbs_mul, Int.natAbs_mul, Int.natAbs_pow] at this
    exact this
  have hb : a.natAbs ≤ 2 ^ (100 * k) := by
    have h1 : 1024 * a.natAbs ≤ 1024 * 2 ^ (100 * k) := Nat.le_trans b (Nat.mul_le_mul_right _ hc)
    exact Nat.le_of_mul_le_mul_left h1 (by decide)
  have p12 : (12 : Nat) ^ k ≤ 2 ^ (100 * k) := by
    rw [Nat.pow_mul]
    exact Nat.pow_le_pow_left (by decide) k
  constructor
  · have d : x.t.natAbs ∣ a.natAbs := cop.dvd_of_dvd_mul_right ⟨12 ^ k, e'.symm⟩
    by_cases z : a.natAbs = 0
    · have : x.t.natAbs * 12 ^ k = 0 := by rw [e', z, Nat.zero_mul]
      have : x.t.natAbs = 0 := by
        rcases Nat.mul_eq_zero.mp this with h | h
        · exact h
        · exact absurd h (Nat.ne_of_gt (Nat.pow_pos (by decide)))
      omega
    · exact Nat.le_trans (Nat.le_of_dvd (by omega) d) hb
  · have d : x.b.natAbs ∣ 12 ^ k := cop.symm.dvd_of_dvd_mul_left ⟨a.natAbs, by rw [e', Nat.mul_comm]⟩
    exact Nat.le_trans (Nat.le_of_dvd (Nat.pow_pos (by decide)) d) p12
structure Re (p : Int) where
  x : Int
  h0 : 0 ≤ x
  h1 : x < p
def Re.of (p : Int) (hp : 0 < p) (x : Int) : Re p := ⟨x.fmod p, (r_in hp).1, (r_in hp).2⟩
end Mine
namespace L2
open PySem Mine
def KAt (C : Addr) (fs : List (Str × V)) (H : Hp) (k : V) : Prop := ∃ p dx, k = .ref p ∧ H p = some (.ins C dx fs)
theorem KAt.same {C : Addr} {fs : List (Str × V)} {H H' : Hp} {k : V} (e : Same H H') (h : KAt C fs H k) : KAt C fs H' k := by
  obtain ⟨p, dx, rfl, h⟩ := h
  exact ⟨p, dx, rfl, e _ _ h⟩
def spBin (C : Addr) (fs : List (Str × V)) (S : SR) (is : Hp → V → S.W → Prop) (f : S.W → S.W → S.W) : Sp := fun vs H Q _ => ∃ k x y a b m n, vs = [k, x, y] ∧
  (KAt C fs H k ∧ is H x a ∧ is H y b ∧ S.sz m a ∧ S.sz n b ∧ m + n ≤ 8000) ∧ ∀ v H', Same H H' → is H' v (f a b) → Q v H'
def spNul (C : Addr) (fs : List (Str × V)) (S : SR) (is : Hp → V → S.W → Prop) (z : S.W) : Sp := fun vs H Q _ => ∃ k, vs = [k] ∧ KAt C fs H k ∧ ∀ v H', Same H H' → is H' v z → Q v H'
def spIsW (C : Addr) (fs : List (Str × V)) (S : SR) (is : Hp → V → S.W → Prop) : Sp := fun vs H Q _ => ∃ k x a, vs = [k, x] ∧ (KAt C fs H k ∧ is H x a) ∧ Q (.bl true) H
structure KindR (P : Program) (w : World) (K : PySem.W.Frag) (mg : Str → Option Value) (base : Heap) where
  S : SR
  C : Addr
  fs : List (Str × V)
  cl : Cls K C
  is : Hp → V → S.W → Prop
  same : ∀ {H H' : Hp} {v : V} {x : S.W}, Same H H' → is H v x → is H' v x
  isd : ∀ {H : Hp} {v : V} {x : S.W}, is H v x → Is K H v (S.data x)
  f_plus : Addr
  d_plus : FuncData
  t_plus : Meth K C "plus" f_plus
  b_plus : Binds K d_plus ["self", "x", "y"] []
  l_plus : fs.lookup ("plus" : Str) = none
  G_plus : FnOk P w K mg base CX0 4 f_plus d_plus ["self", "x", "y"] (spBin C fs S is S.add)
  f_times : Addr
  d_times : FuncData
  t_times : Meth K C "times" f_times
  b_times : Binds K d_times ["self", "x", "y"] []
  l_times : fs.lookup ("times" : Str) = none
  G_times : FnOk P w K mg base CX0 4 f_times d_times ["self", "x", "y"] (spBin C fs S is S.mul)
  f_nought : Addr
  d_nought : FuncData
  t_nought : Meth K C "nought" f_nought
  b_nought : Binds K d_nought ["self"] []
  l_nought : fs.lookup ("nought" : Str) = none
  G_nought : FnOk P w K mg base CX0 4 f_nought d_nought ["self"] (spNul C fs S is S.zero)
  f_one : Addr
  d_one : FuncData
  t_one : Meth K C "one" f_one
  b_one : Binds K d_one ["self"] []
  l_one : fs.lookup ("one" : Str) = none
  G_one : FnOk P w K mg base CX0 4 f_one d_one ["self"] (spNul C fs S is S.one)
  f_is_weight : Addr
  d_is_weight : FuncData
  t_is_weight : Meth K C "is_weight" f_is_weight
  b_is_weight : Binds K d_is_weight ["self", "thing"] []
  l_is_weight : fs.lookup ("is_weight" : Str) = none
  G_is_weight : FnOk P w K mg base CX0 4 f_is_weight d_is_weight ["self", "thing"] (spIsW C fs S is)
section
variable {P : Program} {w : World} {K : PySem.W.Frag} {mg : Str → Option Value} {base : Heap}
end
def IsF (H : Hp) (v : V) (a b : Int) : Prop := ∃ p, v = .ref p ∧ H p = some (.tup [.int a, .int b])
theorem IsF.same {H H' : Hp} {v : V} {a b : Int} (e : Same H H') (h : IsF H v a b) : IsF H' v a b := by
  obtain ⟨p, rfl, h⟩ := h
  exact ⟨p, rfl, e _ _ h⟩
theorem IsF.is {K : PySem.W.Frag} {H : Hp} {v : V} {a b : Int} (h : IsF H v a b) : Is K H v (.tuple [.int a, .int b]) := by
  obtain ⟨p, rfl, h⟩ := h
  exact .tup (SqT.of h) (.cons (.int _) (.cons (.int _) .nil))
theorem IsF.new {H : Hp} {p : Addr} {a b : Int} : IsF (upd H p (.tup [.int a, .int b])) (.ref p) a b := ⟨p, rfl, upd_same⟩
def pfs (p : Int) : List (Str × V) := putF "prime" (.int p) []
theorem pfs_prime (p : Int) : (pfs p).lookup ("prime" : Str) = some (.int p) := by
  unfold pfs
  rw [lookup_putF, if_pos rfl]
theorem same_made {H : Hp} {C x dx : Addr} {fs : List (Str × V)} (n : H x = none) (m : H dx = none) : Same H (upd (upd H dx (.own x)) x (.ins C dx fs)) := fun b o e => by
  rw [upd_ne (ne_of_none e n), upd_ne (ne_of_none e m)]; exact e
theorem cut_take (xs : List V) (k : Nat) : cutV xs none (some (k : Int)) = xs.take k := by
  unfold cutV
  rw [HT.sIx_none, HT.sIx_nat, List.drop_zero, Nat.sub_zero]
  by_cases h : k ≤ xs.length
  · rw [Nat.min_eq_left h]
  · rw [Nat.min_eq_right (by omega), List.take_length, List.take_of_length_le (by omega)]
end L2
namespace L2
open PySem PySem.Spec PyProof.Rows
section
variable {X : Cx} {v v₁ v₂ : Expr} {vs : List Expr} {te : TE} {pos : Pos}
abbrev TJ := Str → St → Hp → VK → Prop
def PJ (X : Cx) (vs : List Expr) (t : TJ) : Prop :=
  ∀ (pins : List (Addr × Obj)) (s : Shared) (σ : St) (H : Hp) (out : Str) (Q : VK), Inv X pins σ H s → t out σ H Q → wpAny (model X.prog X.w) X.A (joinParts out (evalEach vs X.env)) (EP X pins σ Q) X.xe s
theorem pj_nil : PJ X [] (fun out _ H Q => out.length ≤ sizeLine ∧ Q (.str out) H) := by
  intro pins s σ H out Q I h
  exact joinParts_nil ⟨.str out, H, I.tok _, ⟨_, rfl⟩, h.2⟩ h.1
theorem pj_cons {tj : TJ} (he : PE X v te) (h : PJ X vs tj) : PJ X (v :: vs) (fun out σ H Q => te σ H fun x H1 => ∃ y, x = .str y ∧ (out ++ y).length ≤ sizeLine ∧ tj (out ++ y) σ H1 Q) := by
  intro pins s σ H out Q I q
  show wpAny _ _ (joinParts out (eval v X.env :: evalEach vs X.env)) _ _ _
  refine joinParts_cons (thn (he pins s σ H _ I q) fun u s1 ⟨x, H1, I1, r, y, e, hz, q1⟩ => ?_)
  subst e
  obtain ⟨t, rfl⟩ := r
  exact ⟨hz, h pins s1 σ H1 (out ++ y) Q I1 q1⟩
theorem pe_join {tj : TJ} (h : PJ X (v₁ :: v₂ :: vs) tj) : PE X (.JoinedStr (v₁ :: v₂ :: vs) pos) (fun σ H Q => tj Str.empty σ H Q) := fun pins s σ H Q I q => JoinedStr_many (h pins s σ H Str.empty Q I q)
theorem pe_fmtI (he : PE X v te) : PE X (.FormattedValue v (-1) none pos) (fun σ H Q => te σ H fun x H1 => ∃ i, x = .int i ∧ i.natAbs.log2 < 1920 ∧ Q (.str (toString i)) H1) := by
  intro pins s σ H Q I q
  refine FormattedValue_plain (thn (he pins s σ H _ I q) fun u s1 ⟨x, H1, I1, r, i, e, hz, q1⟩ => ?_)
  subst e
  obtain ⟨t, rfl⟩ := r
  exact formatField_int_small hz ⟨.str _, H1, I1.tok _, ⟨_, rfl⟩, q1⟩
end
end L2
namespace L2
open PySem PySem.Spec PyProof.Rows
section
variable {X : Cx} {pins : List (Addr × Obj)} {σ : St} {H : Hp} {s : Shared} {pos : Pos}
theorem Inv.big (I : Inv X pins σ H s) : sysModules < s.heap.objs.size := Nat.lt_trans (by decide) (show mainGlobals < s.heap.objs.size from (I.mod.glob.keeps I.bk).lt)
def tDNewK : TE := fun _ H Q => ∀ p, H p = none → Q (.ref p) (upd H p (.dK []))
theorem pe_dnewK : PE X (.Dict [] [] pos) tDNewK := fun _ s _ _ _ I h =>
  wpAny_Dict_empty ⟨.ref s.heap.objs.size, _, I.laid (a := s.heap.objs.size) (o := .dK []) (t' := s.toks) (fun _ _ q => Heap.get?_push_of_some _ q) (Nat.le_refl _)
    ⟨Nat.zero_le _, beq_eq_false_iff_ne.mpr (Ne.symm (Nat.ne_of_lt I.big)), [], .nil, Heap.DictOf.new s.heap⟩, rfl, h _ (I.hok.fresh (Nat.le_refl _))⟩
end
end L2
namespace L2
open PySem PySem.Spec PyProof.Rows
def cloOf (cells : List (Str × Addr)) : List (Str × NameKind) → List (Str × Addr) → List (Str × Addr)
  | [], cs => cs
  | (n, k) :: r, cs => cloOf cells r (if (k == .free) = true then (n, (cells.lookup n).getD 0) :: cs else cs)
theorem clo_for {env : Env} : ∀ (names : List (Str × NameKind)) (cs : List (Str × Addr)), (∀ n, (n, NameKind.free) ∈ names → ∃ c, env.cells.lookup n = some c) →
    (forIn names cs fun (x : Str × NameKind) (r : List (Str × Addr)) => (match x with | (name, kind) => if (kind == NameKind.free) = true then (do let c ← cellOf env name; pure (ForInStep.yield ((name, c) :: r))) else pure (ForInStep.yield r) : Sem (ForInStep (List (Str × Addr))))) = pure (cloOf env.cells names cs)
  | [], cs, _ => rfl
  | (n, k) :: r, cs, h => by
    rw [List.forIn_cons]
    by_cases hk : k = .free
    · subst hk
      obtain ⟨c, hc⟩ := h n List.mem_cons_self
      have ih := clo_for (env := env) r ((n, c) :: cs) fun m hm => h m (List.mem_cons_of_mem _ hm)
      have e1 : cellOf env n = pure c := by unfold cellOf; rw [hc]
      simp only [beq_self_eq_true, if_true, e1, pure_bind]
      rw [ih]
      conv => rhs; unfold cloOf
      simp only [beq_self_eq_true, if_true, hc, Option.getD_some]
    · have hb : (k == NameKind.free) = false := by simpa using hk
      have ih := clo_for (env := env) r cs fun m hm => h m (List.mem_cons_of_mem _ hm)
      simp only [hb, Bool.false_eq_true, if_false, pure_bind]
      rw [ih]
      conv => rhs; unfold cloOf
      simp only [hb, Bool.false_eq_true, if_false]
theorem clo_closure {env : Env} {scope : Scope} (h : ∀ n, (n, NameKind.free) ∈ scope.names → ∃ c, env.cells.lookup n = some c) : closureFor scope env = pure (cloOf env.cells scope.names []) := by
  have e := clo_for (env := env) scope.names [] h
  unfold closureFor
  simp only [bind_pure]
  exact e
theorem clo_in {cells : List (Str × Addr)} : ∀ {names : List (Str × NameKind)} {cs : List (Str × Addr)}, (∀ n, (n, NameKind.free) ∈ names → ∃ c, cells.lookup n = some c) → ∀ {y c}, (cloOf cells names cs).lookup y = some c → cs.lookup y = some c ∨ cells.lookup y = some c
  | [], cs, _, y, c, e => .inl e
  | (n, k) :: r, cs, h, y, c, e => by
    unfold cloOf at e
    have h' : ∀ m, (m, NameKind.free) ∈ r → ∃ c, cells.lookup m = some c := fun m hm => h m (List.mem_cons_of_mem _ hm)
    rcases clo_in h' e with z | z
    · by_cases hk : k = .free
      · subst hk
        obtain ⟨d, hd⟩ := h n List.mem_cons_self
        simp only [beq_self_eq_true, if_true, hd, Option.getD_some] at z
        rw [List.lookup_cons] at z
        cases hy : (y == n) with
        | true =>
          rw [hy] at z
          have : y = n := beq_iff_eq.mp hy
          subst this
          exact .inr (hd.trans z)
        | false => rw [hy] at z; exact .inl z
      · have hb : (k == NameKind.free) = false := by simpa using hk
        simp only [hb, Bool.false_eq_true, if_false] at z
        exact .inl z
    · exact .inr z
theorem clo_has {cells : List (Str × Addr)} : ∀ {names : List (Str × NameKind)} {cs : List (Str × Addr)} {y : Str}, ((∃ c, cs.lookup y = some c) ∨ (y, NameKind.free) ∈ names) → ∃ c, (cloOf cells names cs).lookup y = some c
  | [], cs, y, h => by
    rcases h with h | h
    · exact h
    · cases h
  | (n, k) :: r, cs, y, h => by
    unfold cloOf
    refine clo_has ?_
    rcases h with ⟨c, h⟩ | h
    · left
      split
      · rw [List.lookup_cons]
        cases hy : (y == n) with
        | true => exact ⟨_, rfl⟩
        | false => exact ⟨c, h⟩
      · exact ⟨c, h⟩
    · rcases List.mem_cons.mp h with e | h
      · cases e
        left
        simp only [beq_self_eq_true, if_true]
        rw [List.lookup_cons, beq_self_eq_true]
        exact ⟨_, rfl⟩
      · exact .inr h
theorem compLoop_any {prog : Program} {w : World} {A : Around} {R : Result → Shared → Prop} {s : Shared} {elt target iter : Expr} {scope : Scope} {pos : Pos} {it acc : Value} {env : Env} (I : Nat → Shared → Prop)
    (turn : ∀ n s, I n s → wpAny (model prog w) A (pyNext it) (fun r s₁ => match r with
      | none => R (.ok .next) s₁
      | some v => wpAny (model prog w) A (letOwnedTupleGo target it v) (fun _ s₁' => wpAny (model prog w) A (assign target env v) (fun _ s₂ => wpAny (model prog w) A (eval elt env) (fun x s₃ =>
          wpAny (model prog w) A (call (.builtin "list.append") [acc, x]) (fun _ s₄ => ∃ m, m < n ∧ I m s₄) (fun _ _ => False) s₃) (fun _ _ => False) s₂) (fun _ _ => False) s₁') (fun _ _ => False) s₁) (fun _ _ => False) s)
    (n : Nat) (h : I n s) :
    codeAny (model prog w) A (.compLoop (.ListComp elt [⟨target, iter, [], 0⟩] scope pos) 0 it acc env) R s := by
  refine codeAny_loop rfl I (fun n s hI => ?_) n h
  show wpAny _ _ ((compTurn (.ListComp elt [⟨target, iter, [], 0⟩] scope pos) 0 it acc env).onRaise (fun x => do noteFrame x env; theTreesLotGoes x)) _ _ s
  refine wpAny_noted ?_
  rw [compTurn_list1]
  refine wpAny_bind (wpAny_standAt (wpAny_bind (wpAny_mono (turn n s hI) (fun r s₁ h₁ => ?_) fun _ _ h' => h'.elim)))
  cases r with
  | none => exact wpAny_pure h₁
  | some v =>
    exact wpAny_bind (wpAny_mono h₁ (fun _ s1' h1' => wpAny_bind (wpAny_mono h1' (fun _ s₂ h₂ => wpAny_bind (wpAny_bind (wpAny_mono h₂ (fun x s₃ h₃ => wpAny_bind (wpAny_mono h₃
      (fun _ s₄ h₄ => wpAny_pure (wpAny_pure ⟨rfl, h₄⟩)) fun _ _ h' => h'.elim)) fun _ _ h' => h'.elim))) fun _ _ h' => h'.elim)) fun _ _ h' => h'.elim)
theorem HOk.track {P : Program} {w : World} {H : Hp} {h : Heap} {a : Addr} {o : HO} (x : HOk P w H h) (n : H a = none) (new : ObjOk P w (upd H a o) h a o) : HOk P w (upd H a o) h := fun b u e => by
  by_cases hb : b = a
  · subst hb; rw [upd_same] at e; cases e; exact new
  · rw [upd_ne hb] at e
    exact (x b u e).stay (fun _ _ _ q => q) (fun c q => by rw [upd_ne (ne_of_none q n)]; exact q) fun c xs q => by rw [upd_ne (ne_of_none q n)]; exact q
theorem Un.track {fs ex : List Addr} {H H' : Hp} {h h' : Heap} {a : Addr} {o : HO} (u : Un fs ex H H' h h') (hp : h.objs.size ≤ a) (n : H' a = none) : Un fs ex H (upd H' a o) h h' where
  keep := u.keep
  slot := u.slot
  free := fun b ob q m hx => by rw [upd_ne (Nat.ne_of_lt (Nat.lt_of_lt_of_le (Heap.lt_size q) hp))]; exact u.free b ob q m hx
  there := u.there
  tups := fun b xs q => by have z := u.tups b xs q; rw [upd_ne (ne_of_none z n)]; exact z
  frzs := fun b ob xs q => by have z := u.frzs b ob xs q; rw [upd_ne (ne_of_none z n)]; exact z
  tbls := fun b ps q => by obtain ⟨m, z⟩ := u.tbls b ps q; exact ⟨m, by rw [upd_ne (ne_of_none z n)]; exact z⟩
theorem cells_app : ∀ (names : List (Str × NameKind)) (n : Nat) (acc : List (Str × Addr)), cellsFrom n names acc = cellsFrom n names [] ++ acc
  | [], _, _ => rfl
  | (x, k) :: r, n, acc => by
    unfold cellsFrom
    split
    · rw [cells_app r (n + 1) ((x, n) :: acc), cells_app r (n + 1) [(x, n)], List.append_assoc]; rfl
    · exact cells_app r n acc
theorem cells_in : ∀ (names : List (Str × NameKind)) (n : Nat) (y : Str) (c : Addr), (y, c) ∈ cellsFrom n names [] → (y, NameKind.cell) ∈ names
  | [], _, _, _, h => by cases h
  | (x, k) :: r, n, y, c, h => by
    unfold cellsFrom at h
    split at h
    · rename_i hk
      rw [cells_app] at h
      rcases List.mem_append.mp h with h | h
      · exact List.mem_cons_of_mem _ (cells_in r (n + 1) y c h)
      · have e := List.mem_singleton.mp h
        cases e
        rw [show k = NameKind.cell by simpa using hk]
        exact List.mem_cons_self
    · exact List.mem_cons_of_mem _ (cells_in r n y c h)
theorem cells_has : ∀ (names : List (Str × NameKind)) (n : Nat) (y : Str), (y, NameKind.cell) ∈ names → ∃ c, (y, c) ∈ cellsFrom n names []
  | [], _, _, h => by cases h
  | (x, k) :: r, n, y, h => by
    unfold cellsFrom
    rcases List.mem_cons.mp h with e | h
    · cases e
      rw [if_pos (show (NameKind.cell == NameKind.cell) = true by decide), cells_app]
      exact ⟨n, List.mem_append_right _ List.mem_cons_self⟩
    · split
      · rw [cells_app]
        obtain ⟨c, hc⟩ := cells_has r (n + 1) y h
        exact ⟨c, List.mem_append_left _ hc⟩
      · exact cells_has r n y h
theorem lookup_app {α : Type} : ∀ (l r : List (Str × α)) (y : Str), (l ++ r).lookup y = match l.lookup y with | some c => some c | none => r.lookup y
  | [], _, _ => rfl
  | (x, c) :: l, r, y => by
    rw [List.cons_append, List.lookup_cons, List.lookup_cons]
    cases (y == x) with
    | true => rfl
    | false => exact lookup_app l r y
theorem lookup_mem {α : Type} : ∀ {l : List (Str × α)} {y : Str} {c : α}, (y, c) ∈ l → ∃ c', l.lookup y = some c'
  | (x, d) :: l, y, c, h => by
    rw [List.lookup_cons]
    cases hb : (y == x) with
    | true => exact ⟨d, rfl⟩
    | false =>
      rcases List.mem_cons.mp h with e | h
      · cases e; rw [beq_self_eq_true] at hb; cases hb
      · exact lookup_mem h
abbrev cbOf (env : Env) (scope : Scope) (C : Addr) : List (Str × Addr) := cellsFrom (C + 1) scope.names (cloOf env.cells scope.names [])
theorem cb_lookup {env : Env} {scope : Scope} {C : Addr} {y : Str} {c : Addr} (h : (cbOf env scope C).lookup y = some c) : (y, c) ∈ cellsFrom (C + 1) scope.names [] ∨ (cloOf env.cells scope.names []).lookup y = some c := by
  rw [show cbOf env scope C = _ from cells_app _ _ _, lookup_app] at h
  split at h
  · rename_i e; cases h; exact .inl (PySem.mem_of_lookup e)
  · exact .inr h
theorem cb_own {env : Env} {scope : Scope} {C : Addr} {y : Str} {c : Addr} (k : scope.names.lookup y = some .cell) (h : (cbOf env scope C).lookup y = some c) : (y, c) ∈ cellsFrom (C + 1) scope.names [] := by
  rw [show cbOf env scope C = _ from cells_app _ _ _, lookup_app] at h
  obtain ⟨d, hd⟩ := cells_has scope.names (C + 1) y (PySem.mem_of_lookup k)
  obtain ⟨d', hd'⟩ := lookup_mem hd
  rw [hd'] at h
  cases h
  exact PySem.mem_of_lookup hd'
theorem cells_above : ∀ (names : List (Str × NameKind)) (n : Nat) (y : Str) (c : Addr), (y, c) ∈ cellsFrom n names [] → n ≤ c
  | [], _, _, _, h => by cases h
  | (x, k) :: r, n, y, c, h => by
    unfold cellsFrom at h
    split at h
    · rw [cells_app] at h
      rcases List.mem_append.mp h with h | h
      · have := cells_above r (n + 1) y c h; omega
      · cases List.mem_singleton.mp h; exact Nat.le_refl _
    · exact cells_above r n y c h
theorem cells_inj : ∀ (names : List (Str × NameKind)) (n : Nat) (x y : Str) (c : Addr), (x, c) ∈ cellsFrom n names [] → (y, c) ∈ cellsFrom n names [] → x = y
  | [], _, _, _, _, h, _ => by cases h
  | (z, k) :: r, n, x, y, c, h, g => by
    unfold cellsFrom at h g
    split at h
    · rename_i hk
      rw [if_pos hk] at g
      rw [cells_app] at h g
      rcases List.mem_append.mp h with h | h <;> rcases List.mem_append.mp g with g | g
      · exact cells_inj r (n + 1) x y c h g
      · cases List.mem_singleton.mp g
        have := cells_above r (n + 1) x _ h; omega
      · cases List.mem_singleton.mp h
        have := cells_above r (n + 1) y _ g; omega
      · cases List.mem_singleton.mp h; cases List.mem_singleton.mp g; rfl
    · rename_i hk
      rw [if_neg hk] at g
      exact cells_inj r n x y c h g
theorem newEnv_comp {M : Model} {A : Around} {E : Value → Shared → Prop} {s : Shared} {scope : Scope} {globals : Addr} {closure : List (Str × Addr)} {qual : Str} {env : Env} {Q : Env → Shared → Prop}
    (hQ : ∀ h' : Heap, h'.Ns s.heap.objs.size (fun _ => none) → (∀ b o, s.heap.get? b = some o → h'.get? b = some o) → CellsOk h' (s.heap.objs.size + 1) (cellsFrom (s.heap.objs.size + 1) scope.names []) →
      Q (newEnv scope s.heap.objs.size globals (cellsFrom (s.heap.objs.size + 1) scope.names closure) qual none .none (some env) builtinsNs) { s with heap := h', toks := s.toks + ([] : List (Str × Value)).length }) :
    wpAny M A (newFunctionEnv scope globals closure [] qual none .none (some env)) Q E s := by
  simp only [newFunctionEnv, Option.isSome_some, if_true]
  refine wpAny_bind (wpAny_alloc ?_)
  refine wpAny_bind (wpAny_layCells _ (fun name kind cells => by cases hkc : kind == NameKind.cell <;> simp [hkc]) _ _ _ _ ?_)
  have ok := cellsFrom_ok scope.names (s.heap.push { cls := .type "dict", data := .dict #[] }) (s.heap.objs.size + 1) [] ⟨fun _ _ hm => (nomatch hm), List.Pairwise.nil⟩ (by rw [Heap.size_push]; exact Nat.le_refl _)
  rw [Heap.size_push] at ok
  rw [show ({ s with heap := s.heap.push { cls := .type "dict", data := .dict #[] } } : Shared).heap.objs.size = s.heap.objs.size + 1 from Heap.size_push ..]
  rw [List.forIn_nil]
  refine wpAny_bind (wpAny_pure (wpAny_pure ?_))
  exact hQ _ ((Heap.Ns.new s.heap (.type "dict")).keeps (pushCells_keeps _ _)) (fun b o e => pushCells_keeps _ _ b o (Heap.get?_push_of_some _ e)) ok
def compCx (X : Cx) (scope : Scope) (xs : List Str) (C : Addr) (s : Shared) (H : Hp) (fp : List Addr) (pn : List (Addr × Obj)) : Cx :=
  { X with env := compEnvC scope (cbOf X.env scope C) C X.env, N := X.N ++ xs, s₀ := s, H₀ := H, outer := X.stack, ex := fp, fn := fun y => scope.names.lookup y == some .cell, pn := pn, xe := fun _ _ => False }
structure CompOk (N : List Str) (S T : Scope) : Prop where
  kind : T.kind = .function
  cell : ∀ y ∈ N, T.names.lookup y ≠ some .cell
  names : ∀ y ∈ T.names, y.2 = .local → T.names.lookup y.1 = some .local
  uniq : ∀ y ∈ T.names, T.names.lookup y.1 = some y.2
  free : ∀ y ∈ T.names, y.2 = .free → S.names.lookup y.1 = some .cell ∨ S.names.lookup y.1 = some .free
  vis : ∀ y ∈ N, T.names.lookup y ≠ some .local
def rl (env : Env) (z : Str × NameKind) : Str × NameKind := match z with | (n, k) => if (k == NameKind.free && env.scope.kind == .function && env.kindOf n == some .cell) then (n, NameKind.cell) else (n, k)
theorem rl_fst (env : Env) (n : Str) (k : NameKind) : (rl env (n, k)).1 = n := by unfold rl; dsimp only; split <;> rfl
theorem rl_snd (env : Env) (n : Str) (k : NameKind) : (rl env (n, k)).2 = k ∨ (k = .free ∧ (rl env (n, k)).2 = .cell) := by
  unfold rl
  dsimp only
  split
  · rename_i h
    simp only [Bool.and_eq_true] at h
    exact .inr ⟨by simpa using h.1.1, rfl⟩
  · exact .inl rfl
theorem rl_lookup {env : Env} : ∀ {names : List (Str × NameKind)} {y : Str} {k : NameKind}, (names.map (rl env)).lookup y = some k → names.lookup y = some k ∨ (names.lookup y = some .free ∧ k = .cell)
  | [], _, _, h => by cases h
  | (n, j) :: r, y, k, h => by
    have ih := @rl_lookup env r y k
    rw [List.map_cons, show rl env (n, j) = ((rl env (n, j)).1, (rl env (n, j)).2) from rfl, rl_fst, List.lookup_cons] at h
    rw [List.lookup_cons]
    cases hy : (y == n) with
    | true =>
      rw [hy] at h
      have h : (rl env (n, j)).2 = k := Option.some.inj h
      rcases rl_snd env n j with z | ⟨z1, z2⟩
      · exact .inl (by rw [← h, z])
      · exact .inr ⟨by rw [z1], by rw [← h, z2]⟩
    | false =>
      rw [hy] at h
      exact ih h
theorem relabel_free {env : Env} {scope : Scope} {y : Str} (h : (relabel scope env).names.lookup y = some .cell ∨ (relabel scope env).names.lookup y = some .free) : scope.names.lookup y = some .free ∨ scope.names.lookup y = some .cell := by
  have e : (relabel scope env).names = scope.names.map (rl env) := rfl
  rw [e] at h
  rcases h with h | h
  · rcases rl_lookup h with z | ⟨z, _⟩
    · exact .inr z
    · exact .inl z
  · rcases rl_lookup h with z | ⟨z, _⟩
    · exact .inl z
    · exact .inl z
theorem relabel_local {env : Env} {scope : Scope} {y : Str} (h : (relabel scope env).names.lookup y = some .local) : scope.names.lookup y = some .local := by
  have e : (relabel scope env).names = scope.names.map (rl env) := rfl
  rw [e] at h
  rcases rl_lookup h with z | ⟨_, z⟩
  · exact z
  · cases z
theorem Un.but {fs ex : List Addr} {H H' : Hp} {h h1 h2 : Heap} {C : Addr} (u : Un fs ex H H' h h1) (hb : ∀ b o, b ≠ C → h1.get? b = some o → h2.get? b = some o) (hC : h.objs.size ≤ C) : Un fs ex H H' h h2 := by
  have ne : ∀ b o, h.get? b = some o → b ≠ C := fun b o e => Nat.ne_of_lt (Nat.lt_of_lt_of_le (Heap.lt_size e) hC)
  refine ⟨fun b o e n hf hx => hb b o (ne b o e) (u.keep b o e n hf hx), fun b o e n hf hx => ?_, u.free, fun b o e hx => ?_, u.tups, u.frzs, u.tbls⟩
  · obtain ⟨sl, q⟩ := u.slot b o e n hf hx
    exact ⟨sl, hb b _ (ne b o e) q⟩
  · obtain ⟨o', q⟩ := u.there b o e hx
    exact ⟨o', hb b _ (ne b o e) q⟩
theorem HOk.but {P : Program} {w : World} {H : Hp} {h1 h2 : Heap} {C : Addr} (x : HOk P w H h1) (hb : ∀ b o, b ≠ C → h1.get? b = some o → h2.get? b = some o) (n : H C = none) : HOk P w H h2 := fun b u e =>
  (x b u e).stay (fun c v hc q => hb c v (by
    rcases hc with rfl | hc
    · exact ne_of_none e n
    · exact ne_of_none hc n) q) (fun _ q => q) fun _ _ q => q
section
variable {X : Cx} {pins : List (Addr × Obj)} {σ : St} {H : Hp} {s : Shared} {scope : Scope} {xs : List Str} {fp : List Addr} {C : Addr}
theorem comp_free (I : Inv X pins σ H s) (ok : CompOk X.N X.env.scope scope) : ∀ n, (n, NameKind.free) ∈ scope.names → ∃ c, X.env.cells.lookup n = some c := fun n hn => I.ok.has n (ok.free _ hn rfl)
theorem comp_cell (I : Inv X pins σ H s) (ok : CompOk X.N X.env.scope scope) {y : Str} {c : Addr} (e : (cbOf X.env scope C).lookup y = some c) : (y, c) ∈ cellsFrom (C + 1) scope.names [] ∨ X.env.cells.lookup y = some c := by
  rcases cb_lookup e with z | z
  · exact .inl z
  · rcases clo_in (comp_free I ok) z with z | z
    · cases z
    · exact .inr z
theorem comp_old (I : Inv X pins σ H s) {y : Str} {c : Addr} (e : X.env.cells.lookup y = some c) : c < s.heap.objs.size := let ⟨_, h⟩ := I.cell y c e; h.lt
theorem comp_ok (I : Inv X pins σ H s) (ok : CompOk X.N X.env.scope scope) (hf : ∀ b ∈ fp, FpOk X pins H b) (hx : ∀ b ∈ fp, b < s.heap.objs.size) (hC : s.heap.objs.size ≤ C) :
    (compCx X scope xs C s H fp (X.pn ++ pins)).Ok where
  mod := I.mod
  kind := ok.kind
  glob := I.ok.glob
  blt := I.ok.blt
  above := hC
  inj := fun x y c h1 h2 => by
    rcases comp_cell I ok h1 with z1 | z1 <;> rcases comp_cell I ok h2 with z2 | z2
    · exact cells_inj _ _ x y c z1 z2
    · exact absurd (Nat.lt_of_lt_of_le (comp_old I z2) (Nat.le_trans hC (Nat.le_of_lt (cells_above _ _ _ _ z1)))) (Nat.lt_irrefl _)
    · exact absurd (Nat.lt_of_lt_of_le (comp_old I z1) (Nat.le_trans hC (Nat.le_of_lt (cells_above _ _ _ _ z2)))) (Nat.lt_irrefl _)
    · exact I.ok.inj x y c z1 z2
  has := fun y hy => by
    show ∃ c, (cbOf X.env scope C).lookup y = some c
    rw [show cbOf X.env scope C = _ from cells_app _ _ _, lookup_app]
    rcases relabel_free hy with z | z
    · obtain ⟨c, hc⟩ := clo_has (cells := X.env.cells) (cs := []) (.inr (PySem.mem_of_lookup z))
      split
      · rename_i c' _; exact ⟨c', rfl⟩
      · exact ⟨c, hc⟩
    · obtain ⟨c, hc⟩ := cells_has scope.names (C + 1) y (PySem.mem_of_lookup z)
      obtain ⟨c', hc'⟩ := lookup_mem hc
      rw [hc']
      exact ⟨c', rfl⟩
  cab := fun x c h e => Nat.le_trans hC (Nat.le_of_lt (cells_above _ _ _ _ (cb_own (by have h : (scope.names.lookup x == some NameKind.cell) = true := h; simpa using h) e)))
  hd := I.ok.hd
  frames := I.ok.frames
  stk := .inl rfl
  exf := fun b hb => ⟨Nat.ne_of_lt (Nat.lt_of_lt_of_le (hx b hb) hC), fun x c e => by
    rcases comp_cell I ok e with z | z
    · exact Nat.ne_of_gt (Nat.lt_of_lt_of_le (hx b hb) (Nat.le_trans hC (Nat.le_of_lt (cells_above _ _ _ _ z))))
    · exact (hf b hb).2.2.2.2.1 x c z⟩
  bs := I.bs
  bsz := Nat.le_trans I.ok.bsz I.sz
  noex := fun b o e hb => by
    rcases (hf b hb).2.2.2.1 with z | z
    · exact I.ok.noex b o e z
    · exact absurd (Nat.lt_of_lt_of_le (Heap.lt_size e) (Nat.le_trans I.ok.bsz z)) (Nat.lt_irrefl _)
  exfs := fun b hb z => by
    rcases List.mem_cons.mp (I.stkSub b z) with q | q
    · exact (hf b hb).2.1 q
    · exact (hf b hb).2.2.1 q
  funs := I.stack
  frf := I.stkFree
theorem comp_start (I : Inv X pins σ H s) (ok : CompOk X.N X.env.scope scope) (hf : ∀ b ∈ fp, FpOk X pins H b) (hx : ∀ b ∈ fp, b < s.heap.objs.size) (hC : s.heap.objs.size ≤ C) {h' : Heap} {t' : Nat} {m : Str → Option Value}
    (hn : h'.Ns C m) (hk : ∀ b o, s.heap.get? b = some o → h'.get? b = some o) (hcs : CellsOk h' (C + 1) (cellsFrom (C + 1) scope.names [])) :
    Inv (compCx X scope xs C s H fp (X.pn ++ pins)) [] (σ ++ List.replicate xs.length none) H { s with heap := h', toks := t' } where
  ok := comp_ok I ok hf hx hC
  os := rfl
  bare := I.bare
  base := Un.kept hk
  loc := by
    refine ⟨m, hn, fun i x v e1 e2 e3 => ?_⟩
    have e1 : (X.N ++ xs)[i]? = some x := e1
    have hi : i < σ.length := by
      by_cases hi : i < σ.length
      · exact hi
      · rw [List.getElem?_append_right (by omega), List.getElem?_replicate] at e2
        split at e2 <;> cases e2
    rw [List.getElem?_append_left hi] at e2
    rw [List.getElem?_append_left (by rw [← I.len]; exact hi)] at e1
    have hxN : x ∈ X.N := List.mem_of_getElem? e1
    have e4 : (relabel scope X.env).names.lookup x = some .cell ∨ (relabel scope X.env).names.lookup x = some .free := by
      rcases e3 with z | z
      · exact absurd (relabel_local z) (ok.vis x hxN)
      · exact z
    have e5 : scope.names.lookup x = some .free := by
      rcases relabel_free e4 with z | z
      · exact z
      · exact absurd z (ok.cell x hxN)
    have e6 := ok.free _ (PySem.mem_of_lookup e5) rfl
    obtain ⟨m0, _, hl⟩ := I.loc
    obtain ⟨u, ru, lu⟩ := hl i x v e1 e2 (.inr e6)
    refine ⟨u, ru, .inr ⟨e4, ?_⟩⟩
    rcases lu with ⟨q, _⟩ | ⟨_, c, hc, o, ho, hd⟩
    · have q : X.env.scope.names.lookup x = some .local := q
      rcases e6 with z | z <;> (rw [q] at z; cases z)
    · obtain ⟨c', hc'⟩ := clo_has (cells := X.env.cells) (cs := []) (.inr (PySem.mem_of_lookup e5))
      have no : (cellsFrom (C + 1) scope.names []).lookup x = none := by
        cases e : (cellsFrom (C + 1) scope.names []).lookup x with
        | none => rfl
        | some d =>
          have := ok.uniq _ (cells_in _ _ _ _ (PySem.mem_of_lookup e))
          rw [e5] at this
          cases this
      have hb : (cbOf X.env scope C).lookup x = some c' := by
        rw [show cbOf X.env scope C = _ from cells_app _ _ _, lookup_app, no]
        exact hc'
      rcases clo_in (comp_free I ok) hc' with z | z
      · cases z
      · rw [hc] at z
        cases z
        exact ⟨c, hb, o, hk _ _ ho, hd⟩
  cell := fun x c e => by
    rcases comp_cell I ok e with z | z
    · exact ⟨none, (hcs.empty x c z).1⟩
    · obtain ⟨v, o, ho, hd⟩ := I.cell x c z
      exact ⟨v, o, hk _ _ ho, hd⟩
  free := I.hok.fresh hC
  freeC := fun x c e => by
    rcases comp_cell I ok e with z | z
    · exact I.hok.fresh (by have := cells_above _ _ _ _ z; omega)
    · exact I.freeC x c z
  pin := fun p hp => by
    rw [List.append_nil] at hp
    obtain ⟨e, n, ne, nf, d⟩ := I.pin p hp
    refine ⟨hk _ _ e, n, Nat.ne_of_lt (Nat.lt_of_lt_of_le (Heap.lt_size e) hC), fun z => ?_, d⟩
    rcases List.mem_cons.mp (I.stkSub p.1 z) with q | q
    · exact ne q
    · exact nf q
  hok := I.hok.kept hk
  len := by
    show (σ ++ List.replicate xs.length none).length = (X.N ++ xs).length
    rw [List.length_append, List.length_append, List.length_replicate, I.len]
end
abbrev CTail (J : It) (k : Nat) (g : TG) (te : TE) (σ : St) (Q : VK) (H1 : Hp) : Prop := ∃ W : Nat → Nat → List V → Hp → Prop, (∃ m, W 0 m [] H1) ∧ ∀ i m ys H, W i m ys H →
  (J.stop i H ∧ ys.length ≤ sizeLine ∧ ∀ p, H p = none → Q (.ref p) (upd H p (.lst ys))) ∨
  (J.go i H ∧ ys.length < sizeLine ∧ ∀ x H', J.yld i H x H' → g x (σ ++ List.replicate k none) H' fun σ2 H2 => (∃ zs, σ2 = σ ++ zs ∧ zs.length = k) ∧ te σ2 H2 fun v H3 => ∃ m', m' < m ∧ W (i + 1) m' (ys ++ [v]) H3)
def tComp (k : Nat) (wi : TI) (g : TG) (te : TE) : TE := fun σ H Q => wi σ H fun J H1 => CTail J k g te σ Q H1
theorem pe_comp {X : Cx} {elt target iter : Expr} {scope : Scope} {pos : Pos} {wi : TI} {g : TG} {te : TE} {xs : List Str} (hc : X.calm = true) (ok : CompOk X.N X.env.scope scope) (hi : PI X target iter wi)
    (hg : ∀ C s H fp pn, PG (compCx X scope xs C s H fp pn) target g) (he : ∀ C s H fp pn, PE (compCx X scope xs C s H fp pn) elt te)
    (hs : ∀ x, foldedSetIterable iter X.env x = pure x := by intro _; rfl) : PE X (.ListComp elt [⟨target, iter, [], 0⟩] scope pos) (tComp xs.length wi g te) := by
  intro pins s σ H Q I h
  rw [eval_ListComp]
  refine wpAny_comprehension_free (use := none) rfl hs (clo_closure (comp_free I ok)) ok.kind ok.names (thn (hi pins s σ H _ I h) fun v s1 h1 => thn h1 fun itv s2 h2 => ?_)
  obtain ⟨it, fp, tn, J, H2, rfl, I2, T, st2, f2, W, ⟨m0, w0⟩, turn⟩ := h2
  refine wpAny_newObj_type (newEnv_comp fun h₁ hns₁ hsb₁ hcl₁ => ?_)
  dsimp only at hns₁ hsb₁ hcl₁ ⊢
  generalize hD : s2.heap.objs.size = D
  generalize hH3 : s2.heap.push { cls := .type "list", dict := none, data := .seq ([] : List Value).toArray } = h3 at hns₁ hsb₁ hcl₁ ⊢
  have k23 : ∀ b o, s2.heap.get? b = some o → h3.get? b = some o := fun b o e => hH3 ▸ Heap.get?_push_of_some _ e
  have hC : h3.objs.size = D + 1 := by rw [← hH3, Heap.size_push, hD]
  have eD3 : h3.get? D = some { cls := .type "list", dict := none, data := .seq ([] : List Value).toArray } := by
    rw [← hH3, ← hD]; exact Heap.get?_push_size _ rfl
  have I3 : Inv X pins σ H2 { s2 with heap := h3 } := I2.kept (t' := s2.toks) k23
  have fD : FpOk X pins H2 D := I2.fpOk (by omega) (I2.hok.fresh (by omega))
  have lt2 : ∀ b ∈ fp, b < D := fun b hb => by
    obtain ⟨o, e, _⟩ := T.obj 0 _ st2 b hb
    rw [← hD]
    exact Heap.lt_size e
  have f3 : ∀ b ∈ D :: fp, FpOk X pins H2 b := fun b hb => by
    rcases List.mem_cons.mp hb with rfl | hb
    · exact fD
    · exact f2 b hb
  have hx3 : ∀ b ∈ D :: fp, b < ({ s2 with heap := h3 } : Shared).heap.objs.size := fun b hb => by
    show b < h3.objs.size
    rcases List.mem_cons.mp hb with rfl | hb
    · rw [hC]; exact Nat.lt_succ_self _
    · rw [hC]; exact Nat.lt_succ_of_lt (lt2 b hb)
  have k31 : ∀ b o, h3.get? b = some o → h₁.get? b = some o := hsb₁
  have okX := comp_ok (C := h3.objs.size) (xs := xs) I3 ok f3 hx3 (Nat.le_refl _)
  have I4 := comp_start (C := h3.objs.size) (xs := xs) (t' := s2.toks + ([] : List (Str × Value)).length) I3 ok f3 hx3 (Nat.le_refl _) hns₁ k31 hcl₁
  have mD : D ∈ D :: fp := List.mem_cons_self
  have neC : ∀ b ∈ D :: fp, b ≠ h3.objs.size := fun b hb => (okX.exf b hb).1
  have stat : ∀ {H' : Hp} {pl : List (Addr × Obj)}, (∀ b ∈ fp, H' b = none) → (∀ p ∈ pl, p.1 = D) → ∀ b ∈ fp, FpOk (compCx X scope xs h3.objs.size { s2 with heap := h3 } H2 (D :: fp) (X.pn ++ pins)) pl H' b := fun hn hpl b hb => by
    have hb' : b ∈ D :: fp := List.mem_cons_of_mem _ hb
    refine ⟨hn b hb, neC b hb', okX.exfs b hb', .inl hb', (okX.exf b hb').2, fun p hp => ?_⟩
    rcases List.mem_append.mp hp with hp | hp
    · exact (f2 b hb).2.2.2.2.2 p hp
    · rw [hpl p hp]
      exact Nat.ne_of_gt (lt2 b hb)
  have loop : codeAny (model X.prog X.w) X.A (.compLoop (.ListComp elt [⟨target, iter, [], 0⟩] scope pos) 0 (.ref it) (.ref D) (compEnvC scope (cbOf X.env scope h3.objs.size) h3.objs.size X.env))
      (compPost (model X.prog X.w) X.A X.xe none (EP X pins σ Q) (.ref D) h3.objs.size) { s2 with heap := h₁, toks := s2.toks + ([] : List (Str × Value)).length } := by
    refine compLoop_any (fun n s' => ∃ i ys its k H', Inv (compCx X scope xs h3.objs.size { s2 with heap := h3 } H2 (D :: fp) (X.pn ++ pins)) [] (σ ++ List.replicate xs.length none) H' s' ∧
      s'.heap.get? D = some { cls := .type "list", data := .seq (its : List Value).toArray k } ∧ Vals ys its ∧ H' D = none ∧ tn i s'.heap ∧ (∀ b ∈ fp, H' b = none) ∧ W i n ys H') ?_ m0
      ⟨0, [], [], _, H2, I4, k31 _ _ eD3, .nil, fD.1, T.keep _ _ _ st2 (fun b _ o e => k31 b o (k23 b o e)), fun b hb => (f2 b hb).1, w0⟩
    rintro n s' ⟨i, ys, its, k, H', I', eD, rv, nD, st, fr, w⟩
    have Ip := I'.pins_of (pins' := [(D, { cls := .type "list", data := .seq its.toArray k })]) fun p hp => by
      rw [List.mem_singleton] at hp
      subst hp
      exact ⟨eD, nD, neC D mD, okX.exfs D mD, fun v z => by cases z⟩
    have one : ∀ p ∈ [(D, ({ cls := .type "list", data := .seq its.toArray k } : Obj))], p.1 = D := fun p hp => by rw [List.mem_singleton] at hp; rw [hp]
    rcases turn i n ys H' w with ⟨stop, hz, q⟩ | ⟨go, hz, step⟩
    · refine thn (T.done (compCx X scope xs h3.objs.size { s2 with heap := h3 } H2 (D :: fp) (X.pn ++ pins)) rfl rfl rfl hc i _ s' _ H' (fun _ _ => False) Ip (stat fr one) st stop) fun r s4 ⟨hr, J4⟩ => ?_
      subst hr
      obtain ⟨mm, hnm, _⟩ := J4.loc
      refine ⟨mm, hnm, fun h' sb => ?_⟩
      obtain ⟨eD4, nD4, _⟩ := J4.pin (D, { cls := .type "list", data := .seq its.toArray k }) (List.mem_append_right _ List.mem_cons_self)
      have hb : ∀ b o, b ≠ h3.objs.size → s4.heap.get? b = some o → h'.get? b = some o := fun b o hn e => sb.extBut b o hn e
      have u0 : Un (frs X.stack) (D :: fp) H2 H' h3 s4.heap := J4.base
      have u : Un (frs X.stack) (D :: fp) H2 H' s2.heap h' := ((Un.kept k23).trans u0).but hb (by omega)
      have os4 : s4.os = s2.os := J4.os
      refine ⟨.ref D, upd H' D (.lst ys), I2.call' (s' := { s4 with heap := h' }) (ch := D :: fp) os4 (u.track (by omega) nD4) ((J4.hok.but hb J4.free).track nD4 ⟨hz, its, k, rv, hb D _ (neC D mD) eD4⟩) J4.bare (fun b hb => ?_), rfl, q D nD4⟩
      have z := f3 b hb
      exact ⟨z.2.2.2.1, z.2.1, z.2.2.2.2.1, z.2.2.2.2.2⟩
    · refine thn (T.item (compCx X scope xs h3.objs.size { s2 with heap := h3 } H2 (D :: fp) (X.pn ++ pins)) rfl rfl rfl hc i _ s' _ H' (fun _ _ => False) Ip (stat fr one) st go) fun r s4 ⟨u, hr, h4⟩ => ?_
      subst hr
      refine thn h4 fun _ s5 ⟨x, H5, I5, r5, y5, st5, fr5⟩ => ?_
      have I5' := I5.pinned (stat fr5 one) (T.obj _ _ st5)
      refine thn (hg _ _ _ _ _ _ s5 _ H5 x u _ I5' r5 (step x H5 y5)) fun _ s6 ⟨σ6, H6, I6, ⟨zs, hz6, hl6⟩, q6⟩ => ?_
      refine thn (he _ _ _ _ _ _ s6 σ6 H6 _ I6 q6) fun xv s7 ⟨v, H7, I7, r7, m', hm', w7⟩ => ?_
      obtain ⟨eD7, nD7, _⟩ := I7.pin (D, { cls := .type "list", data := .seq its.toArray k }) (List.mem_append_right _ (List.mem_append_left _ List.mem_cons_self))
      have len := rv.length
      refine call_meets F.slot_list_append ⟨_, eD7, rfl⟩ F.entry_list_append (F.args_list_append_2 _ _) (PySem.list_append D its.toArray k xv (by rw [List.size_toArray]; omega)) ⟨eD7, ?_⟩
      have q := PySem.IsL.update eD7 (fun a => a.push xv)
      have other : ∀ b o, b ≠ D → s7.heap.get? b = some o → (s7.heap.update D (Obj.mapSeq fun a => a.push xv)).get? b = some o := fun b o hb e => (Heap.get?_update_other s7.heap _ (Ne.symm hb)).trans e
      have pinF : ∀ b ∈ fp, ∀ o, s5.heap.get? b = some o → s7.heap.get? b = some o ∧ H7 b = none := fun b hb o e =>
        ⟨(I7.pin (b, o) (List.mem_append_right _ (List.mem_append_right _ (mem_pinsAt hb e)))).1, (I7.pin (b, o) (List.mem_append_right _ (List.mem_append_right _ (mem_pinsAt hb e)))).2.1⟩
      have I7' := I7.pins_of (pins' := []) fun p hp => by cases hp
      have I8 := I7'.turned (t' := s7.toks) (it := D) other nD7 (neC D mD) (.inl mD) (okX.exf D mD).2 (fun p hp => by
        rw [List.append_nil] at hp
        exact fD.2.2.2.2.2 p hp)
      have I9 := I8.weak (σ' := σ ++ List.replicate xs.length none) (by rw [hz6, List.length_append, List.length_append, List.length_replicate, hl6]) (fun j v' e => by
        have hj : j < σ.length := by
          by_cases hj : j < σ.length
          · exact hj
          · rw [List.getElem?_append_right (by omega), List.getElem?_replicate] at e
            split at e <;> cases e
        rw [List.getElem?_append_left hj] at e
        rw [hz6, List.getElem?_append_left hj]
        exact e)
      have e9 : its.toArray.push xv = (its ++ [xv]).toArray := by simp
      rw [e9] at q
      refine ⟨m', hm', i + 1, ys ++ [v], its ++ [xv], _, H7, I9, q, rv.append (.cons r7 .nil), nD7, T.keep _ _ _ st5 (fun b hb o e => other b o (Nat.ne_of_lt (lt2 b hb)) (pinF b hb o e).1), fun b hb => ?_, w7⟩
      obtain ⟨o, e, _⟩ := T.obj _ _ st5 b hb
      exact (pinF b hb o e).2
  exact codeAny_compStart_list loop (T.self _ 0 _ _ _ (T.keep _ _ _ st2 fun b _ o e => k31 b o (k23 b o e)) loop)
end L2
namespace L2
open PySem PySem.Spec PyProof.Rows
section
variable {X : Cx} {pins : List (Addr × Obj)} {σ : St} {H : Hp} {s : Shared} {i : Nat} {y : Str}
end
end L2
namespace L2
open PySem PySem.Spec PyProof.Rows
section
variable {X : Cx}
def rSlS : V → Option Int → Option Int → Hp → VK → Prop := fun x lo hi H Q => ∃ z, x = .str z ∧ z.length ≤ sizeLine ∧ Q (.str (Txt.slice z lo hi)) H
theorem sl_str : SlR X rSlS := by
  intro pins s σ H x v vl vu lo hi sl Q I rx hs pl pu h
  obtain ⟨z, rfl, hz, q⟩ := h
  obtain ⟨t, rfl⟩ := rx
  have fin : ∀ t' k, EP X pins σ Q (.str (Txt.slice z lo hi) t') { s with toks := k } := fun t' k => ⟨.str _, H, I.tok _, ⟨_, rfl⟩, q⟩
  refine ⟨"str", _, F.slot_str_getitem.lookup, typeIs_str _ _ _, ?_⟩
  cases pl with
  | none =>
    cases pu with
    | none => exact wpAny_getItem_str_slice (l := none) (u := none) (st := none) hs rfl (post_val_or_str ⟨Nat.le_trans (Txt.slice_le z _ _) hz, fin⟩)
    | int j uj => exact wpAny_getItem_str_slice (l := none) (u := some (j, uj)) (st := none) hs rfl (post_val_or_str ⟨Nat.le_trans (Txt.slice_le z _ _) hz, fin⟩)
  | int i ui =>
    cases pu with
    | none => exact wpAny_getItem_str_slice (l := some (i, ui)) (u := none) (st := none) hs rfl (post_val_or_str ⟨Nat.le_trans (Txt.slice_le z _ _) hz, fin⟩)
    | int j uj => exact wpAny_getItem_str_slice (l := some (i, ui)) (u := some (j, uj)) (st := none) hs rfl (post_val_or_str ⟨Nat.le_trans (Txt.slice_le z _ _) hz, fin⟩)
def repS (z : Str) (n : Int) : Str := if n < 1 then Str.empty else if (n == 1 || z.length == 0) = true then z else ⟨(List.replicate n.toNat z.cps).foldl (· ++ ·) #[]⟩
def rMulS : R2 := fun x y H Q => ∃ z n, x = .str z ∧ y = .int n ∧ (-1000000 ≤ n ∧ n ≤ 1000000 ∧ z.length ≤ 1000000 ∧ z.length * n.toNat ≤ 1000000 ∧ (repS z n).length ≤ sizeLine) ∧ Q (.str (repS z n)) H
theorem op_mulS : OpR X (binaryOp .Mult) rMulS := by
  intro pins s σ H x y v u Q I rx ry h
  obtain ⟨z, n, rfl, rfl, ⟨h1, h2, h3, h4, h5⟩, q⟩ := h
  obtain ⟨t, rfl⟩ := rx
  obtain ⟨t', rfl⟩ := ry
  refine PySem.P.mul_str (by rw [decide_eq_false (by omega), decide_eq_false (by omega)]; rfl) (fun hn _ => ?_) (fun hn _ => ?_) ?_
  · have : n ≤ 1000000 := h2
    have e : (2 ^ 63 - 1 : Int) / n ≥ (2 ^ 63 - 1 : Int) / 1000000 := by
      have hp : (0 : Int) < n := by omega
      rw [ge_iff_le, Int.le_ediv_iff_mul_le hp]
      have hm : (2 ^ 63 - 1 : Int) / 1000000 * n ≤ (2 ^ 63 - 1 : Int) / 1000000 * 1000000 := Int.mul_le_mul_of_nonneg_left h2 (by decide)
      have : (2 ^ 63 - 1 : Int) / 1000000 * 1000000 ≤ 2 ^ 63 - 1 := by decide
      omega
    have f : (2 ^ 63 - 1 : Int) / 1000000 = 9223372036854 := by decide
    omega
  · unfold Builtin.Str.tooLong
    exact decide_eq_false (by have := sizeLine_eq; omega)
  · unfold repS at h5 q
    split
    · rename_i hn
      rw [if_pos hn] at q h5
      exact ⟨h5, .str _, H, I.tok _, ⟨_, rfl⟩, q⟩
    · rename_i hn
      rw [if_neg hn] at q h5
      split
      · rename_i hm
        rw [if_pos hm] at q
        exact ⟨.str _, H, I, ⟨_, rfl⟩, q⟩
      · rename_i hm
        rw [if_neg hm] at q h5
        exact ⟨h5, .str _, H, I.tok _, ⟨_, rfl⟩, q⟩
def Its (z : Str) : It := ⟨fun i _ => i < z.cps.size, fun i H x H' => H' = H ∧ ∃ c, z.cps[i]? = some c ∧ x = .str ⟨#[c]⟩, fun i _ => z.cps.size ≤ i⟩
theorem turn_str {P : Program} {w : World} {K : PySem.W.Frag} {tg : Expr} (z : Str) (t : Tok) (it : Addr) : Turn P w K tg (Its z) [it] it (fun i h => h.IsStrIter it "str_ascii_iterator" z t i) where
  mem := by simp
  obj := fun i h st b hb => by
    have e : b = it := by simpa using hb
    subst e
    obtain ⟨o, e, c, d⟩ := st
    exact ⟨o, e, fun v q => by rw [d] at q; cases q⟩
  keep := fun i h h' st k => by
    obtain ⟨o, e, r⟩ := st
    exact ⟨o, k it (by simp) o e, r⟩
  item := by
    intro X hP hw hK hc i pins s σ H E I hf st hg
    subst hP hw hK
    have hg : i < z.cps.size := hg
    obtain ⟨f0, f1, f2, f3, f4, f5⟩ := hf it (by simp)
    refine wpAny_pyNext_ascii_item st (c := z.cps[i]) (by simp [hg]) fun h' st' sb => ?_
    have I1 : Inv X pins σ H { s with heap := h', toks := s.toks + 1 } := I.turned (t' := s.toks + 1) (fun b o hb e => (sb.2 b hb).trans e) f0 f1 f3 f4 f5
    obtain ⟨o, e, c, d⟩ := id st'
    exact ⟨_, rfl, go_of (s := { s with heap := h', toks := s.toks + 1 }) e c d (by decide) ⟨.str ⟨#[z.cps[i]]⟩, H, I1, ⟨_, rfl⟩, ⟨rfl, _, by simp [hg], rfl⟩, st', fun b hb => (hf b hb).1⟩⟩
  done := by
    intro X hP hw hK hc i pins s σ H E I hf st hg
    subst hP hw hK
    have hg : z.cps.size ≤ i := hg
    obtain ⟨f0, f1, f2, f3, f4, f5⟩ := hf it (by simp)
    exact wpAny_pyNext_ascii_end (I.ok.hd hc) st (by simp; omega) fun h' eb => ⟨rfl, I.turned (t' := s.toks) (fun b o hb e => eb b o hb e) f0 f1 f3 f4 f5⟩
  self := fun _ _ _ _ _ st h => wpAny_pyIter_striter_ascii st h
def iStr (tl : TE) : TI := fun σ H R => tl σ H fun x H1 => ∃ z, x = .str z ∧ z.cps.all (· < 128) = true ∧ R (Its z) H1
theorem pi_str {tg l : Expr} {tl : TE} (hl : PE X l tl) : PI X tg l (iStr tl) := by
  intro pins s σ H R I h
  refine thn (hl pins s σ H _ I h) fun v s1 ⟨x, H1, I1, r1, z, e, ha, q⟩ => ?_
  subst e
  obtain ⟨t, rfl⟩ := r1
  refine wpAny_pyIter_ascii ha ?_
  have hf : H1 s1.heap.objs.size = none := I1.hok.fresh (Nat.le_refl _)
  refine ⟨s1.heap.objs.size, [s1.heap.objs.size], _, Its z, H1, rfl, I1.kept (t' := s1.toks) (fun b ob q => Heap.get?_push_of_some _ q), turn_str z t _, ⟨_, Heap.get?_push_size _ rfl, rfl, rfl⟩, fun b hb => ?_, q⟩
  have e : b = s1.heap.objs.size := by simpa using hb
  subst e
  exact I1.fpOk (Nat.le_refl _) hf
end
end L2
namespace L2
open PySem PySem.Spec PyProof.Rows
section
variable {prog : Program} {w : World} {A : Around} {E : Value → Shared → Prop} {s : Shared}
end
inductive Sr
  | lst (a : Addr)
  | tup (a : Addr)
  | str (x : Str)
def Sr.it : Sr → Heap → Addr → Nat → Prop
  | .lst a, h, I, i => h.IsListIter I a i
  | .tup a, h, I, i => h.IsTupleIter I a i
  | .str x, h, I, i => ∃ t, h.IsStrIter I (strIterType x) x t i
def Sr.has : Sr → Heap → Array Value → Prop
  | .lst a, h, vs => h.IsList a vs
  | .tup a, h, vs => h.IsTuple a vs
  | .str x, _, vs => vs.size = x.cps.size
def Sr.is : Sr → Array Value → Nat → Value → Prop
  | .lst _, vs, i, v => vs[i]? = some v
  | .tup _, vs, i, v => vs[i]? = some v
  | .str x, _, i, v => ∃ c u, x.cps[i]? = some c ∧ v = .str ⟨#[c]⟩ u
def Sr.fp : Sr → Addr → List Addr
  | .lst a, I => [I, a]
  | .tup a, I => [I, a]
  | .str _, I => [I]
def Sr.off : Sr → Addr → Prop
  | .lst a, I => a ≠ I
  | .tup a, I => a ≠ I
  | .str _, _ => True
theorem Sr.it.mv {S : Sr} {h h' : Heap} {I : Addr} {i : Nat} (x : S.it h I i) (k : ∀ o, h.get? I = some o → h'.get? I = some o) : S.it h' I i := by
  cases S with
  | lst a => obtain ⟨o, e, r⟩ := x; exact ⟨o, k o e, r⟩
  | tup a => obtain ⟨o, e, r⟩ := x; exact ⟨o, k o e, r⟩
  | str z => obtain ⟨t, o, e, r⟩ := x; exact ⟨t, o, k o e, r⟩
theorem Sr.it.obj {S : Sr} {h : Heap} {I : Addr} {i : Nat} (x : S.it h I i) : ∃ o, h.get? I = some o ∧ ∀ v, o.data ≠ .cell v := by
  cases S with
  | lst a => obtain ⟨o, e, _, d⟩ := x; exact ⟨o, e, fun v z => by rw [d] at z; cases z⟩
  | tup a => obtain ⟨o, e, _, d⟩ := x; exact ⟨o, e, fun v z => by rw [d] at z; cases z⟩
  | str z => obtain ⟨t, o, e, _, d⟩ := x; exact ⟨o, e, fun v z => by rw [d] at z; cases z⟩
theorem Sr.has.mv {S : Sr} {h h' : Heap} {vs : Array Value} {I : Addr} (x : S.has h vs) (k : ∀ b o, b ≠ I → h.get? b = some o → h'.get? b = some o) (off : S.off I) : S.has h' vs := by
  cases S with
  | lst a => obtain ⟨o, e, r⟩ := x; exact ⟨o, k a o off e, r⟩
  | tup a => obtain ⟨o, e, r⟩ := x; exact ⟨o, k a o off e, r⟩
  | str z => exact x
end L2
namespace L2
open PySem PySem.Spec PyProof.Rows
structure ZA (S1 S2 : Sr) (z TI TO i1 i2 : Addr) : Prop where
  a : TI ≠ z
  b : TO ≠ z
  c : i1 ≠ z
  d : i2 ≠ z
  e : TI ≠ TO
  f : TI ≠ i1
  g : TI ≠ i2
  h : TO ≠ i1
  i : TO ≠ i2
  j : i1 ≠ i2
  k : ∀ x ∈ [z, TO, i1, i2], S1.off x ∧ S2.off x
structure ZS (S1 S2 : Sr) (v1 v2 : Array Value) (z TI TO i1 i2 : Addr) (n : Nat) (u : Value) (h : Heap) : Prop where
  z : IsZip h z TI TO u
  ti : IsPair h TI (.ref i1) (.ref i2)
  to : ∃ x y, IsPair h TO x y
  s1 : S1.it h i1 n
  s2 : S2.it h i2 n
  h1 : S1.has h v1
  h2 : S2.has h v2
section
variable {prog : Program} {w : World} {A : Around} {E : Value → Shared → Prop} {s : Shared} {S1 S2 : Sr} {v1 v2 : Array Value} {z TI TO i1 i2 : Addr} {n : Nat}
end
end L2
namespace L2
open PySem PySem.Spec PyProof.Rows
end L2
namespace L2
open PySem PySem.Spec PyProof.Rows
section
variable {X : Cx} {pins : List (Addr × Obj)} {σ : St} {H : Hp} {s : Shared} {h' : Heap}
theorem Inv.track {a : Addr} {o : HO} (I : Inv X pins σ H s) (hs : X.s₀.heap.objs.size ≤ a) (f : FpOk X pins H a) (new : ObjOk X.prog X.w (upd H a o) s.heap a o) : Inv X pins σ (upd H a o) s :=
  ⟨I.ok, I.os, I.bare, I.base.track hs f.1, I.loc, I.cell, by rw [upd_ne (Ne.symm f.2.1)]; exact I.free, fun x c e => by rw [upd_ne (f.2.2.2.2.1 x c e)]; exact I.freeC x c e, fun p hp => by
    obtain ⟨e, n, r⟩ := I.pin p hp
    exact ⟨e, by rw [upd_ne (f.2.2.2.2.2 p hp)]; exact n, r⟩, I.hok.track f.1 new, I.len⟩
end
def signs (x : Str) : List V := x.cps.toList.map fun c => V.str ⟨#[c]⟩
def Sr.vals (K : PySem.W.Frag) (H : Hp) : Sr → List V → Prop
  | .lst a, xs => SqL K H a xs
  | .tup a, xs => SqT K H a xs
  | .str x, xs => xs = signs x
def Sr.ofV : Sr → V → Prop
  | .lst a, v => v = .ref a
  | .tup a, v => v = .ref a
  | .str x, v => v = .str x
section
variable {X : Cx} {pins : List (Addr × Obj)} {σ : St} {H : Hp} {s : Shared} {S : Sr} {xs ys : List V}
theorem Sr.vals.get (I : Inv X pins σ H s) (h : S.vals X.K H xs) : ∃ vs, S.has s.heap vs ∧ vs.size = xs.length ∧ ∀ i x v, xs[i]? = some x → S.is vs i v → RelV x v := by
  cases S with
  | lst a =>
    obtain ⟨its, rv, p, hz⟩ := I.list h
    refine ⟨its.toArray, p.isList, by have := rv.length; simp; omega, fun i x v e1 e2 => ?_⟩
    obtain ⟨u, hu, ru⟩ := rv.get e1
    have e2 : its.toArray[i]? = some v := e2
    rw [List.getElem?_toArray, hu] at e2
    cases e2
    exact ru
  | tup a =>
    obtain ⟨its, rv, p, hz⟩ := I.tuple h
    refine ⟨its.toArray, (show s.heap.IsTuple a its.toArray from p), by have := rv.length; simp; omega, fun i x v e1 e2 => ?_⟩
    obtain ⟨u, hu, ru⟩ := rv.get e1
    have e2 : its.toArray[i]? = some v := e2
    rw [List.getElem?_toArray, hu] at e2
    cases e2
    exact ru
  | str z =>
    cases (show xs = signs z from h)
    refine ⟨Array.replicate z.cps.size .none, by show (Array.replicate _ _).size = _; simp, by simp [signs], fun i x v e1 e2 => ?_⟩
    obtain ⟨c, u, ec, rfl⟩ := (show ∃ c u, z.cps[i]? = some c ∧ v = .str ⟨#[c]⟩ u from e2)
    have : (signs z)[i]? = some (V.str ⟨#[c]⟩) := by simp [signs, ec]
    rw [this] at e1
    cases e1
    exact ⟨u, rfl⟩
theorem Sr.vals.inj (I : Inv X pins σ H s) (h : S.vals X.K H xs) (h' : S.vals X.K H ys) : xs = ys := by
  cases S with
  | lst a => exact I.list_inj h h'
  | tup a => exact I.tuple_inj h h'
  | str z => exact (show xs = signs z from h).trans (show ys = signs z from h').symm
end
theorem Sr.vals.same {K : PySem.W.Frag} {H H' : Hp} {S : Sr} {xs : List V} (h : S.vals K H xs) (hl : ∀ a, SqL K H a xs → SqL K H' a xs) (ht : ∀ a, SqT K H a xs → SqT K H' a xs) : S.vals K H' xs := by
  cases S with
  | lst a => exact hl a h
  | tup a => exact ht a h
  | str z => exact h
end L2
namespace L2
open PySem PySem.Spec PyProof.Rows
section
variable {X : Cx}
theorem vals_bl {bs : List Bool} {its : List Value} (r : Vals (bs.map V.bl) its) {i : Nat} {v : Value} (h : its[i]? = some v) : ∃ b, bs[i]? = some b ∧ v = .bool b := by
  have len := r.length
  rw [List.length_map] at len
  have hi : i < its.length := (List.getElem?_eq_some_iff.mp h).1
  have hb : bs[i]? = some (bs[i]'(by omega)) := List.getElem?_eq_getElem (by omega)
  obtain ⟨u, hu, ru⟩ := r.get (i := i) (x := V.bl (bs[i]'(by omega))) (by rw [List.getElem?_map, hb]; rfl)
  rw [h] at hu
  cases hu
  exact ⟨_, hb, ru⟩
theorem all_range (bs : List Bool) : (List.range bs.length).all (fun i => bs[i]?.getD false) = bs.all id := by
  rw [Bool.eq_iff_iff, List.all_eq_true, List.all_eq_true]
  constructor
  · intro h b hb
    obtain ⟨i, hi, e⟩ := List.getElem_of_mem hb
    have := h i (List.mem_range.mpr hi)
    rw [List.getElem?_eq_getElem hi, Option.getD_some, e] at this
    exact this
  · intro h i hi
    have hi := List.mem_range.mp hi
    rw [List.getElem?_eq_getElem hi, Option.getD_some]
    exact h _ (List.getElem_mem hi)
def rAll (K : PySem.W.Frag) (f : List Bool → Bool) : List V → Hp → VK → Prop := fun xs H Q => ∃ a bs, xs = [.ref a] ∧ SqL K H a (bs.map V.bl) ∧ Q (.bl (f bs)) H
theorem call_all (hc : X.calm = true) : CallR X (.builtin "all") (rAll X.K fun bs => bs.all id) := by
  intro pins s σ H xs us Q I r h
  obtain ⟨a, bs, rfl, hq, q⟩ := h
  obtain ⟨u, rfl, ru⟩ := r.one
  cases (show u = Value.ref a from ru)
  obtain ⟨its, rv, p, hz⟩ := I.list hq
  have lt : a ≠ s.heap.objs.size := by obtain ⟨o, n, e, _⟩ := p; exact Nat.ne_of_lt (Heap.lt_size e)
  have hh : X.A.in1.handled = none := I.ok.hd hc
  have hl := p.isList
  have len := rv.length
  rw [List.length_map] at len
  refine call_all_walk (wpAny_pyIter_list hl ⟨_, _, _, _, _, _, fun i => bs[i]?.getD false, rfl, Walks.list hh s.heap.objs.size a lt its.toArray, ⟨⟨_, Heap.get?_push_size _ rfl, rfl, rfl⟩, Heap.IsList.push hl _⟩, fun i v s' Q' E' hv q' => ?_, fun h' tk k => ?_⟩)
  · have hv : its.toArray[i]? = some v := hv
    rw [List.getElem?_toArray] at hv
    obtain ⟨b, eb, rfl⟩ := vals_bl rv hv
    have q' : Q' (bs[i]?.getD false) s' := q'
    rw [eb] at q'
    exact wpAny_truthy_bool q'
  · rw [List.size_toArray, ← len, all_range]
    refine ⟨.bl _, H, I.kept (t' := tk) fun b o e => k b o (fun z => ?_) (Heap.get?_push_of_some _ e), rfl, q⟩
    rw [List.mem_singleton] at z
    exact absurd (Heap.lt_size e) (by rw [z]; exact Nat.lt_irrefl _)
end
end L2
namespace L2
open PySem PySem.Spec PyProof.Rows
section
variable {prog : Program} {w : World} {A : Around} {E : Value → Shared → Prop} {s : Shared}
end
theorem for_it {J : It} {n : Nat} {g : TG} {tb : TS} {D : Ends} {σ : St} {H : Hp} (Pv : Nat → St → Hp → Prop) (h0 : Pv 0 σ H)
    (hs : ∀ i σ H, i < n → Pv i σ H → J.go i H ∧ ∀ x H', J.yld i H x H' → g x σ H' fun σ2 H2 => tb { D with nx := Pv (i + 1), ct := Pv (i + 1), bk := D.nx } σ2 H2) (hd : ∀ σ H, Pv n σ H → J.stop n H ∧ D.nx σ H) :
    ∃ W : Nat → Nat → St → Hp → Prop, (∃ m, W 0 m σ H) ∧ ∀ i m σ H, W i m σ H →
      (J.stop i H ∧ D.nx σ H) ∨ (J.go i H ∧ ∃ N : St → Hp → Prop, (∀ σ' H', N σ' H' → ∃ m', m' < m ∧ W (i + 1) m' σ' H') ∧ ∀ x H', J.yld i H x H' → g x σ H' fun σ2 H2 => tb { D with nx := N, ct := N, bk := D.nx } σ2 H2) := by
  refine ⟨fun i m σ H => m = n - i ∧ i ≤ n ∧ Pv i σ H, ⟨n, by simp, Nat.zero_le _, h0⟩, ?_⟩
  rintro i m σ H ⟨rfl, hi, p⟩
  by_cases hlt : i < n
  · obtain ⟨a, b⟩ := hs i σ H hlt p
    exact .inr ⟨a, Pv (i + 1), fun σ' H' p' => ⟨n - (i + 1), by omega, rfl, hlt, p'⟩, b⟩
  · have e : i = n := by omega
    subst e
    exact .inl (hd σ H p)
end L2
namespace L2
open PySem PySem.Spec PyProof.Rows
def SameT (H H' : Hp) : Prop := ∀ p vs, H p = some (.tup vs) → H' p = some (.tup vs)
theorem SameT.refl (H : Hp) : SameT H H := fun _ _ h => h
theorem SameT.trans {H H1 H2 : Hp} (x : SameT H H1) (y : SameT H1 H2) : SameT H H2 := fun p vs h => y p vs (x p vs h)
theorem Same.t {H H' : Hp} (x : Same H H') : SameT H H' := fun p vs h => x p _ h
def Ents (Pd : Nat → V → Hp → Prop) (ys : List V) (n : Nat) (H : Hp) : Prop := ys.length = n ∧ ∀ j, j < n → ∃ u, ys[j]? = some u ∧ Pd j u H
section
variable {Pd Pe : Nat → V → Hp → Prop} {ys : List V} {n : Nat} {H H' : Hp} {v : V}
theorem Ents.nil : Ents Pd [] 0 H := ⟨rfl, fun j h => absurd h (Nat.not_lt_zero j)⟩
theorem Ents.mono (h : Ents Pd ys n H) (s : ∀ j u, j < n → Pd j u H → Pe j u H') : Ents Pe ys n H' := ⟨h.1, fun j hj => by
  obtain ⟨u, e, p⟩ := h.2 j hj
  exact ⟨u, e, s j u hj p⟩⟩
theorem Ents.at (h : Ents Pd ys n H) {j : Nat} {u : V} (e : ys[j]? = some u) : j < n ∧ Pd j u H := by
  have hj : j < n := by rw [← h.1]; exact (List.getElem?_eq_some_iff.mp e).1
  obtain ⟨u', e', p⟩ := h.2 j hj
  rw [e] at e'
  cases e'
  exact ⟨hj, p⟩
end
def TupOf (Pd : Nat → V → Hp → Prop) (n : Nat) (v : V) (H : Hp) : Prop := ∃ p vs, v = .ref p ∧ H p = some (.tup vs) ∧ Ents Pd vs n H
def SeqOf (K : PySem.W.Frag) (Pd : Nat → V → Hp → Prop) (n : Nat) (v : V) (H : Hp) : Prop := ∃ S vs, Sr.ofV S v ∧ S.vals K H vs ∧ (∀ H', Same H H' → S.vals K H' vs ∧ LenV K v H' vs.length) ∧ Ents Pd vs n H
theorem TupOf.seq {K : PySem.W.Frag} {Pd : Nat → V → Hp → Prop} {n : Nat} {v : V} {H : Hp} (h : TupOf Pd n v H) : SeqOf K Pd n v H := by
  obtain ⟨p, vs, rfl, hp, e⟩ := h
  exact ⟨.tup p, vs, rfl, SqT.of hp, fun H' q => ⟨SqT.of (q _ _ hp), .inr ⟨_, SqT.of (q _ _ hp), rfl⟩⟩, e⟩
theorem TupOf.mono {Pd Pe : Nat → V → Hp → Prop} {n : Nat} {v : V} {H H' : Hp} (h : TupOf Pd n v H) (s : SameT H H') (m : ∀ j u, j < n → Pd j u H → Pe j u H') : TupOf Pe n v H' := by
  obtain ⟨p, vs, rfl, hp, e⟩ := h
  exact ⟨p, vs, rfl, s _ _ hp, e.mono m⟩
theorem SeqOf.mono {K : PySem.W.Frag} {Pd Pe : Nat → V → Hp → Prop} {n : Nat} {v : V} {H H' : Hp} (h : SeqOf K Pd n v H) (s : Same H H') (m : ∀ j u, j < n → Pd j u H → Pe j u H') : SeqOf K Pe n v H' := by
  obtain ⟨S, vs, e, hv, hs, he⟩ := h
  exact ⟨S, vs, e, (hs _ s).1, fun H2 q => hs _ (s.trans q), he.mono m⟩
theorem SeqOf.list {K : PySem.W.Frag} {Pd : Nat → V → Hp → Prop} {n : Nat} {p : Addr} {vs : List V} {H : Hp} (hp : H p = some (.lst vs)) (e : Ents Pd vs n H) : SeqOf K Pd n (.ref p) H :=
  ⟨.lst p, vs, rfl, SqL.of hp, fun H' q => ⟨SqL.of (q _ _ hp), .inl ⟨_, SqL.of (q _ _ hp), rfl⟩⟩, e⟩
theorem TupOf.len {K : PySem.W.Frag} {Pd : Nat → V → Hp → Prop} {n : Nat} {v : V} {H : Hp} (h : TupOf Pd n v H) : LenV K v H n := by
  obtain ⟨p, vs, rfl, hp, e⟩ := h
  have e1 := e.1
  subst e1
  exact .inr ⟨_, SqT.of hp, rfl⟩
theorem SeqOf.len {K : PySem.W.Frag} {Pd : Nat → V → Hp → Prop} {n : Nat} {v : V} {H : Hp} (h : SeqOf K Pd n v H) : LenV K v H n := by
  obtain ⟨S, vs, _, _, hs, e⟩ := h
  have q := (hs _ (Same.refl _)).2
  rw [e.1] at q
  exact q
theorem comp_go {J : It} {n k : Nat} {g : TG} {te : TE} {σ : St} {Q : VK} {H1 : Hp} (Pv : Nat → List V → Hp → Prop) (hn : n ≤ 1000) (h0 : Pv 0 [] H1) (hl : ∀ i ys H, Pv i ys H → ys.length = i)
    (hgo : ∀ i ys H, i < n → Pv i ys H → J.go i H ∧ ∀ x H', J.yld i H x H' → g x (σ ++ List.replicate k none) H' fun σ2 H2 => (∃ zs, σ2 = σ ++ zs ∧ zs.length = k) ∧ te σ2 H2 fun v H3 => Pv (i + 1) (ys ++ [v]) H3)
    (hstop : ∀ ys H, Pv n ys H → J.stop n H) (hend : ∀ ys H p, Pv n ys H → H p = none → Q (.ref p) (upd H p (.lst ys))) :
    CTail J k g te σ Q H1 := by
  have z : 1000 < sizeLine := by decide
  refine ⟨fun i m ys H => m = n - i ∧ i ≤ n ∧ Pv i ys H, ⟨n, rfl, Nat.zero_le _, h0⟩, ?_⟩
  rintro i m ys H ⟨rfl, hi, p⟩
  have yl := hl i ys H p
  by_cases hlt : i < n
  · obtain ⟨a, b⟩ := hgo i ys H hlt p
    refine .inr ⟨a, by omega, fun x H' y => ?_⟩
    have c := b x H' y
    have e : (fun σ2 H2 => (∃ zs, σ2 = σ ++ zs ∧ zs.length = k) ∧ te σ2 H2 fun v H3 => ∃ m', m' < n - i ∧ m' = n - (i + 1) ∧ i + 1 ≤ n ∧ Pv (i + 1) (ys ++ [v]) H3) = fun σ2 H2 => (∃ zs, σ2 = σ ++ zs ∧ zs.length = k) ∧ te σ2 H2 fun v H3 => Pv (i + 1) (ys ++ [v]) H3 := by
      funext σ2 H2
      congr 2
      funext v H3
      exact propext ⟨fun ⟨_, _, _, _, q⟩ => q, fun q => ⟨_, by omega, rfl, hlt, q⟩⟩
    rw [e]
    exact c
  · have e : i = n := by omega
    subst e
    exact .inl ⟨hstop ys H p, by omega, fun q nq => hend ys H q p nq⟩
end L2
namespace HT
open PySem PyProof.Rows
section
open PySem.SeqAt
open PySem.AutoSeq1 (wpAny_loadPart')
open PySem.MeetsSeq PySem.MeetsSeq2 PySem.MeetsSeq3
end
end HT
namespace L2
open PySem PySem.Spec PyProof.Rows PySem.SeqAt
section
variable {X : Cx}
theorem Room.units1 {k : Nat} {A : Around} (r : Room k A) : A.units + 65 < cLine := by have := r.un; omega
theorem Vals.ints {ns : List Int} {us : List Value} (r : Vals (ns.map V.int) us) : ∀ (j : Nat) a, ns[j]? = some a → ∃ t, us.toArray[j]? = some (.int a t) := fun j a e => by
  obtain ⟨u, h1, t, h2⟩ := r.get (i := j) (x := .int a) (by rw [List.getElem?_map, e]; rfl)
  exact ⟨t, by rw [← h2, ← h1]; simp⟩
theorem any_same {d : PyData} : ∀ {ds : List PyData}, (∀ e ∈ ds, noMix e d = true) → ds.any (fun y => PyData.eqv y d) = ds.any fun y => PySem.Spec.same y d
  | [], _ => rfl
  | e :: ds, h => by
    rw [List.any_cons, List.any_cons, same_eq_eqv e d (h e (List.mem_cons_self ..)), any_same fun z hz => h z (List.mem_cons_of_mem _ hz)]
end
end L2
namespace L2
open PySem PySem.Spec PyProof.Rows PySem.SeqAt
section
variable {X : Cx}
theorem reads_at {h : Heap} {ds : List PyData} {vs : List Value} {as : List Addr} (r : ReadsAll h vs ds as) (hc : PyData.canLayAll0 ds = true) {m : Nat} (hm : m < vs.length) : ds[m]? = some (readOf h vs[m]) := by
  rw [← readsAll_map ds vs as hc r, List.getElem?_map, List.getElem?_eq_getElem hm]; rfl
theorem eqv_at {h : Heap} {d : PyData} {ds : List PyData} {vs : List Value} {as : List Addr} (r : ReadsAll h vs ds as) (hc : PyData.canLayAll0 ds = true) (nm : ∀ e ∈ ds, noMix e d = true) {m : Nat} (hm : m < vs.length) :
    PyData.eqv (readOf h vs[m]) d = true ↔ ds[m]? = some d := by
  have e := reads_at r hc hm
  rw [← same_eq_eqv _ d (nm _ (List.mem_of_getElem? e)), e]
  constructor
  · intro q; rw [eq_of_same _ _ q]
  · intro q; rw [Option.some.inj q]; exact same_refl _
def FirstAt (d : PyData) (ds : List PyData) (j : Nat) : Prop := ds[j]? = some d ∧ ∀ m, m < j → ds[m]? ≠ some d
theorem tuple_indexAt (l : Addr) (items : Array Value) (n : Nat) (dd : Option Addr) (sl : Array (Option Value)) (x : Value) (e : Value → Bool) (j : Nat) (hj : j < items.size)
    (hit : e items[j] = true) (hno : ∀ m (hm : m < items.size), m < j → e items[m] = false) :
    Meets (Builtin.«tuple.index» ⟨[.ref l, x], []⟩)
      (fun A R s => s.heap.get? l = some { cls := .type "tuple", dict := dd, data := .seq items n, slots := sl } ∧ (∀ y, y ∈ items → EqAt A.in1 s y x (e y)) ∧ R (.ok (.ret (.int j s.toks))) { s with toks := s.toks + 1 }) :=
  .of_wp fun prog w A R s h => by
    obtain ⟨hp, g, d, tk, os⟩ := s; obtain ⟨hl, he, h⟩ := h
    wp_walk using wpAny_loadPart' hl
    show wpAny _ _ (forIn ([:min items.size items.size] : Std.Legacy.Range) _ _) _ _ _
    rw [Std.Legacy.Range.forIn_eq_forIn_range']
    simp only [Std.Legacy.Range.size, Nat.sub_zero, Nat.add_sub_cancel, Nat.div_one, Nat.min_self]
    refine wpAny_forIn_list _ (fun rest b s' => b.1 = none ∧ s' = ⟨hp, g, d, tk, os⟩ ∧ ∃ i, i ≤ j ∧ rest = List.range' i (items.size - i)) _ ?_ ?_ _ _ ⟨rfl, rfl, 0, Nat.zero_le _, by simp⟩
    · rintro y rest b s' ⟨hb, rfl, i, hij, hr⟩
      have hlt : i < items.size := by omega
      obtain ⟨rfl, hrest⟩ : y = i ∧ rest = List.range' (i + 1) (items.size - (i + 1)) := by
        have e : items.size - i = (items.size - (i + 1)) + 1 := by omega
        rw [e, List.range'_succ] at hr
        injection hr with h1 h2
        exact ⟨h1, h2⟩
      rw [Array.getElem?_eq_getElem hlt]
      refine wpAny_bind (he _ (Array.getElem_mem hlt) prog w _ _ ?_)
      by_cases q : y = j
      · subst q
        rw [hit]
        wp_walk
        exact ⟨_, rfl, h⟩
      · rw [hno y hlt (by omega)]
        wp_walk
        exact ⟨rfl, rfl, y + 1, by omega, hrest⟩
    · rintro ⟨b1, b2⟩ s' ⟨hb, rfl, i, hij, hr⟩
      exfalso
      have := congrArg List.length hr
      simp at this
      omega
def rIdxT (K : PySem.W.Frag) : V → List V → Hp → VK → Prop := fun y xs H Q => ∃ x d ds j, xs = [x] ∧ Is K H x d ∧ Is K H y (.tuple ds) ∧ shaped d = true ∧ shaped (.tuple ds) = true ∧ (∀ e ∈ ds, noMix e d = true) ∧ FirstAt d ds j ∧ Q (.int (j : Int)) H
theorem mt_indexT (hu : X.A.units + 65 < cLine) : MtR X "tuple.index" (rIdxT X.K) := by
  intro pins s σ H y xs v us Q I ry rs h
  obtain ⟨x, d, ds, j, rfl, hx, hy, sx, sy, nm, ⟨hj, hno⟩, q⟩ := h
  cases rs with
  | cons rx rs =>
  cases rs
  obtain ⟨as, ra⟩ := hx.reads I rx
  obtain ⟨bs, rb⟩ := hy.reads I ry
  cases rb with
  | tuple h1 h2 h3 h4 =>
  rename_i o n _
  obtain ⟨cls, dd, data, sl⟩ := o
  simp only at h2 h3
  subst h2 h3
  have hc := canLay_of_shaped sy
  have hl : ∀ m, ds[m]? ≠ none → m < _ := fun m e => by
    rw [← readsAll_map ds _ _ hc h4, List.getElem?_map] at e
    exact Nat.lt_of_not_le fun z => e (by rw [List.getElem?_eq_none z]; rfl)
  have hj' := hl j (by rw [hj]; simp)
  have hjl : j < ds.length := (List.getElem?_eq_some_iff.mp hj).1
  refine call_meets F.slot_tuple_index ⟨_, h1, rfl⟩ F.entry_tuple_index (F.args_tuple_index_2 _ _) (tuple_indexAt _ _ _ _ _ _ (fun y => PyData.eqv (readOf s.heap y) d) j (by simpa using hj') ?_ ?_) ⟨h1, items_eqAt h4 ra hc (canLay_of_shaped sx) (room_in_shaped sx hu), ⟨.int _, H, I.tok _, ⟨_, rfl⟩, q⟩⟩
  · have := (eqv_at h4 hc nm hj').mpr hj
    simpa using this
  · intro m hm hmj
    have hm' := hl m (by
      have : m < ds.length := by omega
      rw [List.getElem?_eq_getElem this]; simp)
    have := fun z => hno m hmj ((eqv_at h4 hc nm hm').mp z)
    simpa using this
def tBMT (r : V → List V → Hp → VK → Prop) (to : TE) (t : TA) : TE := fun σ H Q => to σ H fun x H1 => (∃ p xs, x = .ref p ∧ H1 p = some (.tup xs) ∧ ∀ i y, xs ≠ [.int i, y]) ∧ t σ H1 fun xs H2 => r x xs H2 Q
theorem pe_bmT {o e : Expr} {es : List Expr} {to : TE} {t : TA} {name : Str} {apos cpos : Pos} {id : String} {r : V → List V → Hp → VK → Prop} (pa : PlainAttrs "tuple") (slot : Slot "tuple" name id) (hty : typeOf (.builtin id) = pure (.type "method_descriptor")) (hm : MtR X id r) (ho : PE X o to) (ha : PA X (e :: es) t)
    (hbase : attributeBase o name X.env (eval o X.env) = eval o X.env := by rfl)
    (hfew : ((backTo cpos (starEach (e :: es) X.env)).all (fun x => !x.1) && (backToKw cpos (keywordEach [] X.env)).all (fun x => x.1.isSome)
      && decide ((e :: es).length + ([] : List Keyword).length + (if ([] : List Keyword).isEmpty then 0 else 1) < 30)) = true := by rfl)
    (hline : (apos.endLine == cpos.line) = true := by rfl) (hs : starEach (e :: es) X.env = (false, eval e X.env) :: starEach es X.env := by rfl) (hplain : (backTo cpos (starEach es X.env)).any (·.1) = false := by rfl) :
    PE X (.Call (.Attribute o name apos) (e :: es) [] cpos) (tBMT r to t) := by
  intro pins s σ H Q I h
  refine wpAny_Call_method_late hbase hfew hline rfl (thn (ho pins s σ H _ I h) fun v s1 ⟨x, H1, I1, r1, ⟨p, xs, hx, hp, nx⟩, q1⟩ => ?_)
  subst hx
  cases r1
  obtain ⟨_, its, _, pt, dn⟩ := (show ObjOk X.prog X.w H1 s1.heap p (.tup xs) from I1.hok p _ hp)
  obtain ⟨o2, e2, d2⟩ := dn nx
  refine ⟨"tuple", id, pa, slot, hty, pt.typeIs, fun a e => by cases e; exact ⟨o2, e2, d2⟩, ?_⟩
  have hA := ha cpos pins s1 σ H1 _ I1 q1
  rw [hs] at hA ⊢
  refine Calls.callWith_builtin (by show (false || (backTo cpos (starEach es X.env)).any (·.1)) = false; rw [hplain] <;> rfl) (Calls.evalArgs_plain ?_)
  exact thn hA fun us s2 ⟨vs, H2, I2, r2, q2⟩ => hm pins s2 σ H2 (.ref p) vs _ us Q I2 rfl r2 q2
end
end L2
namespace L2
open PySem PySem.Spec PyProof.Rows PySem.SeqAt
section
variable {X : Cx}
def rIsiC (K : PySem.W.Frag) : List V → Hp → VK → Prop := fun xs H Q => ∃ x D t b, xs = [x, .ref D] ∧ TyOf K H x t ∧ PySem.W.kitOne K t (.ref D) = some b ∧ Q (.bl b) H
theorem call_isiC : CallR X (.builtin "isinstance") (rIsiC X.K) := by
  intro pins s σ H xs us Q I r h
  obtain ⟨x, D, t, b, rfl, ty, e, q⟩ := h
  cases r with
  | cons rx r1 =>
    cases r1 with
    | cons ry r2 =>
      cases r2
      cases ry
      exact isinst_ok I rx ty e fun tk => ⟨.bl b, H, I.tok _, rfl, q⟩
def rInT (K : PySem.W.Frag) : R2 := fun x y H Q => ∃ d ds, Is K H x d ∧ Is K H y (.tuple ds) ∧ shaped d = true ∧ shaped (.tuple ds) = true ∧ (∀ e ∈ ds, noMix e d = true) ∧ Q (.bl (ds.any fun y => PySem.Spec.same y d)) H
theorem op_inT (hu : X.A.units + 65 < cLine) : OpR X (compareOp .In) (rInT X.K) := by
  intro pins s σ H x y v u Q I rx ry h
  obtain ⟨d, ds, hx, hy, sx, sy, nm, q⟩ := h
  obtain ⟨as, ra⟩ := hx.reads I rx
  obtain ⟨bs, rb⟩ := hy.reads I ry
  refine in_tuple_reads rb ra (canLay_of_shaped sy) (canLay_of_shaped sx) (room_in_shaped sx hu) ⟨.bl _, H, I, rfl, ?_⟩
  rw [any_same nm]; exact q
end
end L2
namespace L2
open PySem PySem.Spec PyProof.Rows
section
variable {X : Cx}
def rStarts : V → List V → Hp → VK → Prop := fun x xs H Q => ∃ z y, x = .str z ∧ xs = [.str y] ∧ Q (.bl (Txt.startswith z y)) H
theorem mt_starts : MtR X "str.startswith" rStarts := by
  intro pins s σ H x xs v us Q I rx rs h
  obtain ⟨z, y, rfl, rfl, q⟩ := h
  obtain ⟨t, rfl⟩ := rx
  obtain ⟨u, rfl, ru⟩ := rs.one
  obtain ⟨t', rfl⟩ := ru
  exact PySem.SC.startswith (fin_bl I q rfl)
def rPartition : V → List V → Hp → VK → Prop := fun x xs H Q => ∃ z y, x = .str z ∧ xs = [.str y] ∧ (y.length == 0) = false ∧ z.length ≤ sizeLine ∧ ∀ p, H p = none → Q (.ref p) (upd H p (.tup [.str (Txt.partition z y).1, .str (Txt.partition z y).2.1, .str (Txt.partition z y).2.2]))
theorem mt_partition : MtR X "str.partition" rPartition := by
  intro pins s σ H x xs v us Q I rx rs h
  obtain ⟨z, y, rfl, rfl, hy, hz, q⟩ := h
  obtain ⟨t, rfl⟩ := rx
  obtain ⟨u, rfl, ru⟩ := rs.one
  obtain ⟨t', rfl⟩ := ru
  refine call_meets F.slot_str_partition (typeIs_str _ _ _) F.entry_str_partition (F.args_str_partition_2 _ _) (meets_str_partition z y t t' hy hz) ?_
  have q' := q _ (I.hok.fresh (Nat.le_refl _))
  revert q'
  unfold Txt.partition
  cases Builtin.Str.occurrences z y 0 z.length 1 with
  | nil =>
    intro q'
    refine ⟨.ref _, _, I.laid (t' := s.toks + 1) (o := .tup [.str z, .str Str.empty, .str Str.empty]) (fun b ob q => Heap.get?_push_of_some _ q) (Nat.le_refl _) ⟨by show 3 ≤ sizeLine; decide, _, .cons ⟨_, rfl⟩ (.cons ⟨_, rfl⟩ (.cons ⟨_, rfl⟩ .nil)), IsTup.new _ _, fun _ => ⟨_, Heap.get?_push_size _ rfl, rfl⟩⟩, rfl, q'⟩
  | cons i r =>
    intro q'
    refine ⟨.ref _, _, I.laid (t' := s.toks + 1 + 1) (o := .tup [.str (Builtin.Str.strSub z 0 i), .str y, .str (Builtin.Str.strSub z (i + y.length) z.length)]) (fun b ob q => Heap.get?_push_of_some _ q) (Nat.le_refl _) ⟨by show 3 ≤ sizeLine; decide, _, .cons ⟨_, rfl⟩ (.cons ⟨_, rfl⟩ (.cons ⟨_, rfl⟩ .nil)), IsTup.new _ _, fun _ => ⟨_, Heap.get?_push_size _ rfl, rfl⟩⟩, rfl, q'⟩
theorem call_int_text : CallR X (.type "int") (fun xs H Q => ∃ z n, xs = [.str z] ∧ PySem.intText? z = some n ∧ z.length ≤ 640 ∧ Q (.int n) H) := by
  intro pins s σ H xs us Q I rs h
  obtain ⟨z, n, rfl, hn, hl, q⟩ := h
  obtain ⟨u, rfl, ru⟩ := rs.one
  obtain ⟨t, rfl⟩ := ru
  exact PySem.W.KIN.call_text hn hl ⟨.int _, H, I.tok _, ⟨_, rfl⟩, q⟩
def tMethD (X : Cx) (m : Str) (ta : TE) (t : TA) : TE := fun σ H Q => ta σ H fun x H1 => ∃ (a C dx : Addr) (fs : List (Str × V)) (f : Addr) (fd : FuncData) (ps : List Str) (sp : Sp) (k : Nat), x = .ref a ∧ H1 a = some (.ins C dx fs) ∧ fs.lookup m = none ∧ Cls X.K C ∧ Meth X.K C m f ∧
  FnOk X.prog X.w X.K X.mg X.base CX0 k f fd ps sp ∧ Room k X.A ∧ Binds X.K fd ps [] ∧ t σ H1 fun vs H2 => sp (x :: vs) H2 Q E0
variable {m : Str} {pos apos : Pos} {e o : Expr} {es : List Expr} {ta : TE} {t : TA} {tx : TX}
theorem pe_methD {pl : Sem Bool} (he : PE X o ta) (hx : Passes CX0 X E0) (ha : PA X (e :: es) t)
    (hst : starEach (e :: es) X.env = (false, eval e X.env) :: starEach es X.env := by rfl) (hpl : (backTo pos (starEach es X.env)).any (·.1) = false := by rfl)
    (ht : eval (.Call (.Attribute o m apos) (e :: es) [] pos) X.env = (do
      let ov ← eval o X.env
      standAt apos.atName
      let (f, first) ← holding [ov] (getMethod ov m pl)
      callWith pos f first (backTo pos (starEach (e :: es) X.env)) (backToKw pos (keywordEach [] X.env))) := by rfl) :
    PE X (.Call (.Attribute o m apos) (e :: es) [] pos) (tMethD X m ta t) := by
  intro pins s σ H Q I h
  refine PySem.W.methodCall_KW (pl := pl) (thn (he pins s σ H _ I h) fun u s1 ⟨x, H1, I1, rx, a, C, dx, fs, f, fd, ps, sp, k, ex, ea, l, c, hm, F, hr, hb, q⟩ => ?_) ht
  subst ex
  obtain rfl : u = Value.ref a := rx
  refine getmeth_ok I1 ea c hm l ?_
  refine PySem.W.callWith_K (first := [.ref a]) (h₀ := X.base) I.ok.mod.kin hm.kp (thn (ha pos pins s1 σ H1 _ I1 q) fun us s2 ⟨vs, H2, I2, r, q2⟩ => ⟨I2.kIn, ?_⟩) hst hpl
  exact run_fn (us := .ref a :: us) (vs := .ref a :: vs) (dvs := []) F hr hb .nil hx I2 (.cons rfl r) (by rw [List.append_nil]; exact q2)
theorem pe_methD0 {pl : Sem Bool} (he : PE X o ta) (hx : Passes CX0 X E0)
    (ht : eval (.Call (.Attribute o m apos) [] [] pos) X.env = (do
      let ov ← eval o X.env
      standAt apos.atName
      let (f, first) ← holding [ov] (getMethod ov m pl)
      callWith pos f first (backTo pos (starEach [] X.env)) (backToKw pos (keywordEach [] X.env))) := by rfl) :
    PE X (.Call (.Attribute o m apos) [] [] pos) (tMethD X m ta tNil) := by
  intro pins s σ H Q I h
  refine PySem.W.methodCall_KW (pl := pl) (thn (he pins s σ H _ I h) fun u s1 ⟨x, H1, I1, rx, a, C, dx, fs, f, fd, ps, sp, k, ex, ea, l, c, hm, F, hr, hb, q⟩ => ?_) ht
  subst ex
  obtain rfl : u = Value.ref a := rx
  refine getmeth_ok I1 ea c hm l ?_
  exact PySem.W.callWith_K0 (first := [.ref a]) I1.kIn hm.kp (run_fn (us := [.ref a]) (vs := [.ref a]) (dvs := []) F hr hb .nil hx I1 (.cons rfl .nil) (by rw [List.append_nil]; exact q))
end
end L2

set_option maxHeartbeats 0
lay_quick PySem.Challenge.pw_weighwalk_k08_kinds_by_name
namespace H08
open PySem PySem.W
noncomputable section
abbrev q0 := SL.s658472552662922059x5
abbrev q1 := SL.s14018661285674007319x4
abbrev q2 := SL.s6070975301684473832x10
abbrev q3 := SL.s11030030927630378310x26
abbrev q4 := SL.s10062305145149207511x16
abbrev q5 := SL.s17162191345867700912x4
abbrev q6 := SL.s5946037652744460706x9
abbrev q7 := SL.s4278001404047624695x13
abbrev q8 := SL.s2742458400755230247x6
abbrev q9 := SL.s4209523147560561109x18
abbrev q10 := SL.s14755015743595814543x17
abbrev q11 := SL.s4290257624100764138x5
abbrev q12 := SL.s4860613602091757760x24
abbrev q13 := SL.s11443829558043349243x14
def i (n : Int) : Value := .int n 0
def r (n : Addr) : Value := .ref n
def tu (a : Array Value) (n : Nat) : Obj := ⟨.type SL.s2766695959194262286x5, none, .seq a n, #[]⟩
def co (a : Array Value) : Obj := ⟨.type SL.s5856160107412720595x4, none, .fields a, #[]⟩
def fo (n q : Str) (s : Stmt) (m c : Value) : Obj := ⟨.type SL.s7174869446012820540x8, none, .func ⟨n, q, L2.defArgs s, .stmts (L2.defBody s), L2.defScope s, 3, [], .none, .none, .none, m, none, c, .none, 0⟩, #[]⟩
def f0 (n q : Str) (s : Stmt) : Obj := ⟨.none, none, .func ⟨n, q, L2.defArgs s, .stmts (L2.defBody s), L2.defScope s, 0, [], .none, .none, .none, .none, none, .none, .none, 0⟩, #[]⟩
abbrev nd := @BT.node
abbrev nl := BT.nil
abbrev lf (x : Obj) : BT := .node x .nil .nil
abbrev kh := @PySem.PyData.keyHash
def topT (i : Nat) : Stmt := Fast.tw9737080143819961485.main.body.getD i (.Pass ⟨0, 0, 0, 0⟩)
def s0 : Str := ⟨⟨[60, 109, 111, 100, 117, 108, 101, 62]⟩⟩
def s1 : Str := ⟨⟨[47, 99, 108, 97, 105, 109, 47, 99, 117, 116, 46, 112, 121]⟩⟩
def s2 : Str := ⟨⟨[95, 95, 109, 97, 105, 110, 95, 95]⟩⟩
def s3 : Str := ⟨⟨[95, 95, 110, 97, 109, 101, 95, 95]⟩⟩
def s4 : Str := ⟨⟨[119, 101, 105, 103, 104, 119, 97, 108, 107, 46, 107, 105, 110, 100, 115]⟩⟩
def s5 : Str := ⟨⟨[95, 95, 100, 111, 99, 95, 95]⟩⟩
def s6 : Str := ⟨⟨[95, 95, 112, 97, 99, 107, 97, 103, 101, 95, 95]⟩⟩
def s7 : Str := ⟨⟨[95, 95, 108, 111, 97, 100, 101, 114, 95, 95]⟩⟩
def s8 : Str := ⟨⟨[95, 95, 115, 112, 101, 99, 95, 95]⟩⟩
def s9 : Str := ⟨⟨[95, 95, 97, 110, 110, 111, 116, 97, 116, 105, 111, 110, 115, 95, 95]⟩⟩
def s10 : Str := ⟨⟨[95, 95, 98, 117, 105, 108, 116, 105, 110, 115, 95, 95]⟩⟩
def s11 : Str := ⟨⟨[95, 95, 102, 105, 108, 101, 95, 95]⟩⟩
def s12 : Str := ⟨⟨[95, 95, 99, 97, 99, 104, 101, 100, 95, 95]⟩⟩
def s13 : Str := ⟨⟨[95, 119, 97, 108, 108]⟩⟩
def s14 : Str := ⟨⟨[87, 101, 105, 103, 104, 69, 114, 114, 111, 114]⟩⟩
def s15 : Str := ⟨⟨[78, 111, 75, 105, 110, 100]⟩⟩
def s16 : Str := ⟨⟨[87, 114, 111, 110, 103, 75, 105, 110, 100]⟩⟩
def s17 : Str := ⟨⟨[78, 111, 87, 101, 105, 103, 104, 116]⟩⟩
def s18 : Str := ⟨⟨[78, 111, 84, 101, 120, 116]⟩⟩
def s19 : Str := ⟨⟨[105, 115, 95, 119, 104, 111, 108, 101]⟩⟩
def s20 : Str := ⟨⟨[100, 105, 118, 105, 115, 111, 114]⟩⟩
def s21 : Str := ⟨⟨[105, 115, 95, 112, 114, 105, 109, 101]⟩⟩
def s22 : Str := ⟨⟨[70, 73, 71, 85, 82, 69, 83]⟩⟩
def s23 : Str := ⟨⟨[48, 49, 50, 51, 52, 53, 54, 55, 56, 57]⟩⟩
def s24 : Str := ⟨⟨[77, 79, 83, 84, 95, 70, 73, 71, 85, 82, 69, 83]⟩⟩
def s25 : Str := ⟨⟨[71, 82, 69, 65, 84, 69, 83, 84, 95, 80, 82, 73, 77, 69]⟩⟩
def s26 : Str := ⟨⟨[105, 115, 95, 119, 114, 105, 116, 116, 101, 110]⟩⟩
def s27 : Str := ⟨⟨[114, 101, 97, 100, 95, 119, 104, 111, 108, 101]⟩⟩
def s28 : Str := ⟨⟨[110, 101, 101, 100, 95, 116, 101, 120, 116]⟩⟩
def s29 : Str := ⟨⟨[75, 105, 110, 100]⟩⟩
def s30 : Str := ⟨⟨[70, 105, 101, 108, 100]⟩⟩
def s31 : Str := ⟨⟨[80, 105, 99, 107, 105, 110, 103]⟩⟩
def s32 : Str := ⟨⟨[70, 114, 97, 99, 116, 105, 111, 110, 115]⟩⟩
def s33 : Str := ⟨⟨[107]⟩⟩
def s34 : Str := ⟨⟨[95, 95, 109, 111, 100, 117, 108, 101, 95, 95]⟩⟩
def s35 : Str := ⟨⟨[119, 101, 105, 103, 104, 119, 97, 108, 107, 46, 101, 114, 114, 111, 114, 115]⟩⟩
def s36 : Str := ⟨⟨[95, 95, 113, 117, 97, 108, 110, 97, 109, 101, 95, 95]⟩⟩
def s37 : Str := ⟨⟨[95, 95, 102, 105, 114, 115, 116, 108, 105, 110, 101, 110, 111, 95, 95]⟩⟩
def s38 : Str := ⟨⟨[95, 95, 115, 116, 97, 116, 105, 99, 95, 97, 116, 116, 114, 105, 98, 117, 116, 101, 115, 95, 95]⟩⟩
def s39 : Str := ⟨⟨[95, 95, 119, 101, 97, 107, 114, 101, 102, 95, 95]⟩⟩
def s40 : Str := ⟨⟨[116, 104, 105, 110, 103]⟩⟩
def s41 : Str := ⟨⟨[119, 101, 105, 103, 104, 119, 97, 108, 107, 46, 114, 97, 116, 105, 111, 115]⟩⟩
def s42 : Str := ⟨⟨[111, 110, 101]⟩⟩
def s43 : Str := ⟨⟨[111, 116, 104, 101, 114]⟩⟩
def s44 : Str := ⟨⟨[103, 114, 101, 97, 116, 101, 115, 116]⟩⟩
def s45 : Str := ⟨⟨[114, 101, 115, 116]⟩⟩
def s46 : Str := ⟨⟨[108, 101, 102, 116]⟩⟩
def s47 : Str := ⟨⟨[110, 117, 109, 98, 101, 114]⟩⟩
def s48 : Str := ⟨⟨[102, 97, 99, 116, 111, 114]⟩⟩
def s49 : Str := ⟨⟨[116, 101, 120, 116]⟩⟩
def s50 : Str := ⟨⟨[95, 95, 100, 105, 99, 116, 95, 95]⟩⟩
def s51 : Str := ⟨⟨[105, 115, 95, 102, 105, 101, 108, 100]⟩⟩
def s52 : Str := ⟨⟨[112, 105, 99, 107, 115]⟩⟩
def s53 : Str := ⟨⟨[115, 101, 108, 102]⟩⟩
def s54 : Str := ⟨⟨[70, 105, 101, 108, 100, 46, 105, 115, 95, 102, 105, 101, 108, 100]⟩⟩
def s55 : Str := ⟨⟨[70, 105, 101, 108, 100, 46, 112, 105, 99, 107, 115]⟩⟩
def s56 : Str := ⟨⟨[109, 105, 110, 117, 115]⟩⟩
def s57 : Str := ⟨⟨[105, 110, 118, 101, 114, 115, 101]⟩⟩
def s58 : Str := ⟨⟨[80, 105, 99, 107, 105, 110, 103, 46, 105, 115, 95, 102, 105, 101, 108, 100]⟩⟩
def s59 : Str := ⟨⟨[80, 105, 99, 107, 105, 110, 103, 46, 112, 105, 99, 107, 115]⟩⟩
def s60 : Str := ⟨⟨[120]⟩⟩
def s61 : Str := ⟨⟨[80, 105, 99, 107, 105, 110, 103, 46, 109, 105, 110, 117, 115]⟩⟩
def s62 : Str := ⟨⟨[80, 105, 99, 107, 105, 110, 103, 46, 105, 110, 118, 101, 114, 115, 101]⟩⟩
def s63 : Str := ⟨⟨[116, 111, 108, 100]⟩⟩
def s64 : Str := ⟨⟨[110, 111, 117, 103, 104, 116]⟩⟩
def s65 : Str := ⟨⟨[112, 108, 117, 115]⟩⟩
def s66 : Str := ⟨⟨[116, 105, 109, 101, 115]⟩⟩
def s67 : Str := ⟨⟨[105, 115, 95, 119, 101, 105, 103, 104, 116]⟩⟩
def s68 : Str := ⟨⟨[115, 104, 111, 119, 110]⟩⟩
def s69 : Str := ⟨⟨[114, 101, 97, 100]⟩⟩
def s70 : Str := ⟨⟨[70, 114, 97, 99, 116, 105, 111, 110, 115, 46, 116, 111, 108, 100]⟩⟩
def s71 : Str := ⟨⟨[70, 114, 97, 99, 116, 105, 111, 110, 115, 46, 110, 111, 117, 103, 104, 116]⟩⟩
def s72 : Str := ⟨⟨[70, 114, 97, 99, 116, 105, 111, 110, 115, 46, 111, 110, 101]⟩⟩
def s73 : Str := ⟨⟨[121]⟩⟩
def s74 : Str := ⟨⟨[70, 114, 97, 99, 116, 105, 111, 110, 115, 46, 112, 108, 117, 115]⟩⟩
def s75 : Str := ⟨⟨[70, 114, 97, 99, 116, 105, 111, 110, 115, 46, 116, 105, 109, 101, 115]⟩⟩
def s76 : Str := ⟨⟨[70, 114, 97, 99, 116, 105, 111, 110, 115, 46, 109, 105, 110, 117, 115]⟩⟩
def s77 : Str := ⟨⟨[70, 114, 97, 99, 116, 105, 111, 110, 115, 46, 105, 110, 118, 101, 114, 115, 101]⟩⟩
def s78 : Str := ⟨⟨[70, 114, 97, 99, 116, 105, 111, 110, 115, 46, 105, 115, 95, 119, 101, 105, 103, 104, 116]⟩⟩
def s79 : Str := ⟨⟨[70, 114, 97, 99, 116, 105, 111, 110, 115, 46, 115, 104, 111, 119, 110]⟩⟩
def s80 : Str := ⟨⟨[112, 105, 101, 99, 101, 115]⟩⟩
def s81 : Str := ⟨⟨[116, 111, 112]⟩⟩
def s82 : Str := ⟨⟨[98, 111, 116, 116, 111, 109]⟩⟩
def s83 : Str := ⟨⟨[70, 114, 97, 99, 116, 105, 111, 110, 115, 46, 114, 101, 97, 100]⟩⟩
def s84 : Str := ⟨⟨[108, 97, 119, 95, 119, 101, 105, 103, 104, 119, 97, 108, 107, 95, 107, 48, 56, 95, 107, 105, 110, 100, 115, 95, 98, 121, 95, 110, 97, 109, 101]⟩⟩
def s85 : Str := ⟨⟨[82, 101, 115, 105, 100, 117, 101, 115]⟩⟩
def s86 : Str := ⟨⟨[67, 111, 115, 116, 115]⟩⟩
def s87 : Str := ⟨⟨[84, 114, 117, 116, 104, 115]⟩⟩
def s88 : Str := ⟨⟨[114, 101, 115, 105, 100, 117, 101, 115, 95, 99, 97, 108, 108, 101, 100]⟩⟩
def s89 : Str := ⟨⟨[107, 105, 110, 100, 95, 111, 102]⟩⟩
def s90 : Str := ⟨⟨[95, 108, 97, 119, 95, 119, 104, 111, 108, 101]⟩⟩
def s91 : Str := ⟨⟨[95, 108, 97, 119, 95, 100, 105, 118, 105, 115, 111, 114]⟩⟩
def s92 : Str := ⟨⟨[95, 108, 97, 119, 95, 110, 117, 109, 98, 101, 114]⟩⟩
def s93 : Str := ⟨⟨[95, 108, 97, 119, 95, 112, 114, 105, 109, 101]⟩⟩
def s94 : Str := ⟨⟨[95, 108, 97, 119, 95, 110, 97, 109, 101]⟩⟩
def s95 : Str := ⟨⟨[95, 108, 97, 119, 95, 119, 97, 121]⟩⟩
def s96 : Str := ⟨⟨[95, 108, 97, 119, 95, 114, 101, 102, 117, 115, 101, 100]⟩⟩
def s97 : Str := ⟨⟨[95, 108, 97, 119, 95, 99, 108, 97, 115, 115, 101, 115]⟩⟩
def s98 : Str := ⟨⟨[95, 108, 97, 119, 95, 116, 104, 105, 110, 103]⟩⟩
def s99 : Str := ⟨⟨[95, 108, 97, 119, 95, 105, 115, 95, 119, 101, 105, 103, 104, 116]⟩⟩
def s100 : Str := ⟨⟨[108, 97, 119]⟩⟩
def s101 : Str := ⟨⟨[95, 95, 105, 110, 105, 116, 95, 95]⟩⟩
def s102 : Str := ⟨⟨[112, 114, 105, 109, 101]⟩⟩
def s103 : Str := ⟨⟨[82, 101, 115, 105, 100, 117, 101, 115, 46, 95, 95, 105, 110, 105, 116, 95, 95]⟩⟩
def s104 : Str := ⟨⟨[82, 101, 115, 105, 100, 117, 101, 115, 46, 116, 111, 108, 100]⟩⟩
def s105 : Str := ⟨⟨[82, 101, 115, 105, 100, 117, 101, 115, 46, 110, 111, 117, 103, 104, 116]⟩⟩
def s106 : Str := ⟨⟨[82, 101, 115, 105, 100, 117, 101, 115, 46, 111, 110, 101]⟩⟩
def s107 : Str := ⟨⟨[82, 101, 115, 105, 100, 117, 101, 115, 46, 112, 108, 117, 115]⟩⟩
def s108 : Str := ⟨⟨[82, 101, 115, 105, 100, 117, 101, 115, 46, 116, 105, 109, 101, 115]⟩⟩
def s109 : Str := ⟨⟨[82, 101, 115, 105, 100, 117, 101, 115, 46, 109, 105, 110, 117, 115]⟩⟩
def s110 : Str := ⟨⟨[82, 101, 115, 105, 100, 117, 101, 115, 46, 105, 110, 118, 101, 114, 115, 101]⟩⟩
def s111 : Str := ⟨⟨[82, 101, 115, 105, 100, 117, 101, 115, 46, 105, 115, 95, 119, 101, 105, 103, 104, 116]⟩⟩
def s112 : Str := ⟨⟨[82, 101, 115, 105, 100, 117, 101, 115, 46, 115, 104, 111, 119, 110]⟩⟩
def s113 : Str := ⟨⟨[82, 101, 115, 105, 100, 117, 101, 115, 46, 114, 101, 97, 100]⟩⟩
def s114 : Str := ⟨⟨[67, 111, 115, 116, 115, 46, 116, 111, 108, 100]⟩⟩
def s115 : Str := ⟨⟨[67, 111, 115, 116, 115, 46, 110, 111, 117, 103, 104, 116]⟩⟩
def s116 : Str := ⟨⟨[67, 111, 115, 116, 115, 46, 111, 110, 101]⟩⟩
def s117 : Str := ⟨⟨[67, 111, 115, 116, 115, 46, 112, 108, 117, 115]⟩⟩
def s118 : Str := ⟨⟨[67, 111, 115, 116, 115, 46, 116, 105, 109, 101, 115]⟩⟩
def s119 : Str := ⟨⟨[67, 111, 115, 116, 115, 46, 105, 115, 95, 119, 101, 105, 103, 104, 116]⟩⟩
def s120 : Str := ⟨⟨[67, 111, 115, 116, 115, 46, 115, 104, 111, 119, 110]⟩⟩
def s121 : Str := ⟨⟨[67, 111, 115, 116, 115, 46, 114, 101, 97, 100]⟩⟩
def s122 : Str := ⟨⟨[84, 114, 117, 116, 104, 115, 46, 116, 111, 108, 100]⟩⟩
def s123 : Str := ⟨⟨[84, 114, 117, 116, 104, 115, 46, 110, 111, 117, 103, 104, 116]⟩⟩
def s124 : Str := ⟨⟨[84, 114, 117, 116, 104, 115, 46, 111, 110, 101]⟩⟩
def s125 : Str := ⟨⟨[84, 114, 117, 116, 104, 115, 46, 112, 108, 117, 115]⟩⟩
def s126 : Str := ⟨⟨[84, 114, 117, 116, 104, 115, 46, 116, 105, 109, 101, 115]⟩⟩
def s127 : Str := ⟨⟨[84, 114, 117, 116, 104, 115, 46, 105, 115, 95, 119, 101, 105, 103, 104, 116]⟩⟩
def s128 : Str := ⟨⟨[84, 114, 117, 116, 104, 115, 46, 115, 104, 111, 119, 110]⟩⟩
def s129 : Str := ⟨⟨[84, 114, 117, 116, 104, 115, 46, 114, 101, 97, 100]⟩⟩
def s130 : Str := ⟨⟨[95, 108, 97, 119, 95, 102, 111, 117, 110, 100]⟩⟩
def s131 : Str := ⟨⟨[95, 108, 97, 119, 95, 111, 110, 101]⟩⟩
def s132 : Str := ⟨⟨[95, 108, 97, 119, 95, 111, 116, 104, 101, 114]⟩⟩
def s133 : Str := ⟨⟨[95, 108, 97, 119, 95, 99, 101, 108, 108]⟩⟩
def s134 : Str := ⟨⟨[95, 108, 97, 119, 95, 110, 117, 109, 98, 101, 114, 95, 104, 101, 114, 101]⟩⟩
def s135 : Str := ⟨⟨[95, 108, 97, 119, 95, 98, 121]⟩⟩
def s136 : Str := ⟨⟨[95, 108, 97, 119, 95, 119, 97, 121, 95, 104, 101, 114, 101]⟩⟩
def s137 : Str := ⟨⟨[95, 108, 97, 119, 95, 115, 111, 109, 101]⟩⟩
def s138 : Str := ⟨⟨[95, 108, 97, 119, 95, 110, 97, 109, 101, 95, 104, 101, 114, 101]⟩⟩
def s139 : Str := ⟨⟨[95, 108, 97, 119, 95, 102, 105, 103, 117, 114, 101, 115]⟩⟩
def s140 : Str := ⟨⟨[95, 108, 97, 119, 95, 115, 105, 103, 110]⟩⟩
def s141 : Str := ⟨⟨[101]⟩⟩
def s142 : Str := ⟨⟨[95, 108, 97, 119, 95, 112, 114, 105, 109, 101, 95, 104, 101, 114, 101]⟩⟩
def s143 : Str := ⟨⟨[95, 108, 97, 119, 95, 116, 104, 105, 110, 103, 95, 104, 101, 114, 101]⟩⟩
def s144 : Str := ⟨⟨[95, 108, 97, 119, 95, 115, 99, 114, 105, 112, 116]⟩⟩
def s145 : Str := ⟨⟨[95, 108, 97, 119, 95, 99, 101, 108, 108, 115]⟩⟩
def s146 : Str := ⟨⟨[95, 108, 97, 119, 95, 107]⟩⟩
def s147 : Str := ⟨⟨[95, 108, 97, 119, 95, 107, 105, 110, 100]⟩⟩
def s148 : Str := ⟨⟨[95, 108, 97, 119, 95, 106]⟩⟩
def o11a : Obj := tu #[] 0
def o12a : Obj := ⟨.none, none, .fields #[], #[]⟩
def o13a : Obj := co #[.str s0 182, .str s0 183, .str s1 184, i 1, i 0, i 0, i 0, i 0, r 11, .bool false, i 181, r 12, .none, .none, .none, .none, i 185, i 1, .str s1 186]
def o14a : Obj := ⟨.type q0, none, .plain, #[some (r 13), some (r 3), some (r 3), none, some (.str s2 164), none, some (r 0)]⟩
def o3_0 (P : Params) : Obj := ⟨.type q1, none, .dict #[⟨kh P s3, .str s3 165, .str s4 306⟩, ⟨kh P s5, .str s5 166, .none⟩, ⟨kh P s6, .str s6 167, .none⟩, ⟨kh P s7, .str s7 168, .builtin SL.s7097527257260152453x26⟩, ⟨kh P s8, .str s8 169, .none⟩, ⟨kh P s9, .str s9 170, r 6⟩, ⟨kh P s10, .str s10 171, r 4⟩, ⟨kh P s11, .str s11 173, .str s1 172⟩, ⟨kh P s12, .str s12 174, .none⟩, ⟨kh P s13, .str s13 193, r 21⟩, ⟨kh P s14, .str s14 213, r 31⟩, ⟨kh P s15, .str s15 229, r 44⟩, ⟨kh P s16, .str s16 245, r 56⟩, ⟨kh P s17, .str s17 261, r 68⟩, ⟨kh P s18, .str s18 277, r 80⟩, ⟨kh P s19, .str s19 286, r 89⟩, ⟨kh P s20, .str s20 297, r 96⟩, ⟨kh P s21, .str s21 305, r 103⟩, ⟨kh P s22, .str s22 309, .str s23 308⟩, ⟨kh P s24, .str s24 311, .int 30 310⟩, ⟨kh P s25, .str s25 313, .int 1000000 312⟩, ⟨kh P s26, .str s26 319, r 108⟩, ⟨kh P s27, .str s27 326, r 115⟩, ⟨kh P s28, .str s28 333, r 122⟩, ⟨kh P s29, .str s29 353, r 132⟩, ⟨kh P s30, .str s30 383, r 160⟩, ⟨kh P s31, .str s31 429, r 200⟩, ⟨kh P s32, .str s32 527, r 282⟩] 28, #[]⟩
def o12_0 : Obj := ⟨.none, none, .fields #[i 1, i 0, r 20, i 5, i 0, r 27, i 7, i 0, r 40, i 9, i 0, r 52, i 11, i 0, r 64, i 13, i 0, r 76, i 16, i 0, r 88, i 18, i 0, r 95, i 26, i 0, r 102, i 39, i 0, r 107, i 48, i 0, r 114, i 52, i 0, r 121, i 55, i 0, r 128, i 57, i 0, r 142, i 64, i 0, r 168, i 77, i 0, r 208], #[]⟩
def o15 : Obj := tu #[] 0
def o16 : Obj := ⟨.none, none, .fields #[], #[]⟩
def o17 : Obj := tu #[.str s33 190] 0
def o18 : Obj := tu #[] 0
def o19 : Obj := f0 s13 s13 (topT 0)
def o20 : Obj := co #[.str s13 187, .str s13 188, .str s1 189, i 1, i 1, i 0, i 0, i 3, r 15, .bool true, i 181, r 16, .none, r 17, r 18, r 19, i 191, i 1, .str s1 192]
def o21 : Obj := fo s13 s13 (topT 0) (.str s2 164) (r 20)
def o22 : Obj := tu #[.type q2] 0
def o23 : Obj := ⟨.type q3, none, .fields #[.builtin q4, .type q5], #[]⟩
def o24 (P : Params) : Obj := ⟨.type q1, none, .dict #[⟨kh P s34, .str s34 203, .str s35 194⟩, ⟨kh P s36, .str s36 205, .str s14 204⟩, ⟨kh P s37, .str s37 207, .int 5 206⟩, ⟨kh P s38, .str s38 208, r 29⟩] 4, #[]⟩
def o25 : Obj := tu #[] 0
def o26 : Obj := ⟨.none, none, .fields #[], #[]⟩
def o27 : Obj := co #[.str s14 198, .str s14 199, .str s1 200, i 5, i 0, i 0, i 0, i 0, r 25, .bool false, i 181, r 26, .none, .none, .none, .none, i 201, i 5, .str s1 202]
def o28 : Obj := ⟨.type q0, none, .plain, #[some (r 27), some (r 3), some (r 24), none, some (.str s35 194), none, some (r 0)]⟩
def o29 : Obj := tu #[] 0
def o30 (P : Params) : Obj := ⟨.type q1, none, .dict #[⟨kh P s34, .str s34 203, .str s35 194⟩, ⟨kh P s37, .str s37 207, .int 5 206⟩, ⟨kh P s38, .str s38 208, r 29⟩, ⟨kh P s39, .str s39 210, r 32⟩, ⟨kh P s5, .str s5 211, .none⟩] 3, #[]⟩
def o31 : Obj := ⟨.type q5, none, .cls ⟨s14, [.type q2], [r 31, .type q2, .type q6, .type q7, .type q8], 30, s14, true, [], [r 44, r 56, r 68, r 80], false, none, false⟩, #[some (r 22), none, some (.str s14 196), some (.str s14 204), some (.builtin q9), some (.bool true)]⟩
def o32 : Obj := ⟨.type q10, none, .fields #[.str s39 209, r 31, .builtin SL.s10220274742760427390x26, .none], #[]⟩
def o33 : Obj := ⟨.type q11, none, .fields #[r 31, r 31, r 31], #[]⟩
def o34 : Obj := ⟨.type q3, none, .fields #[.builtin q12, r 31], #[]⟩
def o35 : Obj := tu #[r 31] 0
def o36 : Obj := ⟨.type q3, none, .fields #[.builtin q4, .type q5], #[]⟩
def o37 (P : Params) : Obj := ⟨.type q1, none, .dict #[⟨kh P s34, .str s34 221, .str s35 194⟩, ⟨kh P s36, .str s36 223, .str s15 222⟩, ⟨kh P s37, .str s37 225, .int 7 224⟩, ⟨kh P s38, .str s38 226, r 42⟩] 4, #[]⟩
def o38 : Obj := tu #[] 0
def o39 : Obj := ⟨.none, none, .fields #[], #[]⟩
def o40 : Obj := co #[.str s15 216, .str s15 217, .str s1 218, i 7, i 0, i 0, i 0, i 0, r 38, .bool false, i 181, r 39, .none, .none, .none, .none, i 219, i 7, .str s1 220]
def o41 : Obj := ⟨.type q0, none, .plain, #[some (r 40), some (r 3), some (r 37), none, some (.str s35 194), none, some (r 0)]⟩
def o42 : Obj := tu #[] 0
def o43 (P : Params) : Obj := ⟨.type q1, none, .dict #[⟨kh P s34, .str s34 221, .str s35 194⟩, ⟨kh P s37, .str s37 225, .int 7 224⟩, ⟨kh P s38, .str s38 226, r 42⟩, ⟨kh P s5, .str s5 227, .none⟩] 2, #[]⟩
def o44 : Obj := ⟨.type q5, none, .cls ⟨s15, [r 31], [r 44, r 31, .type q2, .type q6, .type q7, .type q8], 43, s15, true, [], [], false, none, false⟩, #[some (r 35), none, some (.str s15 214), some (.str s15 222), some (.builtin q9), some (.bool true)]⟩
def o45 : Obj := ⟨.type q11, none, .fields #[r 44, r 44, r 44], #[]⟩
def o46 : Obj := ⟨.type q3, none, .fields #[.builtin q12, r 44], #[]⟩
def o47 : Obj := tu #[r 31] 0
def o48 : Obj := ⟨.type q3, none, .fields #[.builtin q4, .type q5], #[]⟩
def o49 (P : Params) : Obj := ⟨.type q1, none, .dict #[⟨kh P s34, .str s34 237, .str s35 194⟩, ⟨kh P s36, .str s36 239, .str s16 238⟩, ⟨kh P s37, .str s37 241, .int 9 240⟩, ⟨kh P s38, .str s38 242, r 54⟩] 4, #[]⟩
def o50 : Obj := tu #[] 0
def o51 : Obj := ⟨.none, none, .fields #[], #[]⟩
def o52 : Obj := co #[.str s16 232, .str s16 233, .str s1 234, i 9, i 0, i 0, i 0, i 0, r 50, .bool false, i 181, r 51, .none, .none, .none, .none, i 235, i 9, .str s1 236]
def o53 : Obj := ⟨.type q0, none, .plain, #[some (r 52), some (r 3), some (r 49), none, some (.str s35 194), none, some (r 0)]⟩
def o54 : Obj := tu #[] 0
def o55 (P : Params) : Obj := ⟨.type q1, none, .dict #[⟨kh P s34, .str s34 237, .str s35 194⟩, ⟨kh P s37, .str s37 241, .int 9 240⟩, ⟨kh P s38, .str s38 242, r 54⟩, ⟨kh P s5, .str s5 243, .none⟩] 2, #[]⟩
def o56 : Obj := ⟨.type q5, none, .cls ⟨s16, [r 31], [r 56, r 31, .type q2, .type q6, .type q7, .type q8], 55, s16, true, [], [], false, none, false⟩, #[some (r 47), none, some (.str s16 230), some (.str s16 238), some (.builtin q9), some (.bool true)]⟩
def o57 : Obj := ⟨.type q11, none, .fields #[r 56, r 56, r 56], #[]⟩
def o58 : Obj := ⟨.type q3, none, .fields #[.builtin q12, r 56], #[]⟩
def o59 : Obj := tu #[r 31] 0
def o60 : Obj := ⟨.type q3, none, .fields #[.builtin q4, .type q5], #[]⟩
def o61 (P : Params) : Obj := ⟨.type q1, none, .dict #[⟨kh P s34, .str s34 253, .str s35 194⟩, ⟨kh P s36, .str s36 255, .str s17 254⟩, ⟨kh P s37, .str s37 257, .int 11 256⟩, ⟨kh P s38, .str s38 258, r 66⟩] 4, #[]⟩
def o62 : Obj := tu #[] 0
def o63 : Obj := ⟨.none, none, .fields #[], #[]⟩
def o64 : Obj := co #[.str s17 248, .str s17 249, .str s1 250, i 11, i 0, i 0, i 0, i 0, r 62, .bool false, i 181, r 63, .none, .none, .none, .none, i 251, i 11, .str s1 252]
def o65 : Obj := ⟨.type q0, none, .plain, #[some (r 64), some (r 3), some (r 61), none, some (.str s35 194), none, some (r 0)]⟩
def o66 : Obj := tu #[] 0
def o67 (P : Params) : Obj := ⟨.type q1, none, .dict #[⟨kh P s34, .str s34 253, .str s35 194⟩, ⟨kh P s37, .str s37 257, .int 11 256⟩, ⟨kh P s38, .str s38 258, r 66⟩, ⟨kh P s5, .str s5 259, .none⟩] 2, #[]⟩
def o68 : Obj := ⟨.type q5, none, .cls ⟨s17, [r 31], [r 68, r 31, .type q2, .type q6, .type q7, .type q8], 67, s17, true, [], [], false, none, false⟩, #[some (r 59), none, some (.str s17 246), some (.str s17 254), some (.builtin q9), some (.bool true)]⟩
def o69 : Obj := ⟨.type q11, none, .fields #[r 68, r 68, r 68], #[]⟩
def o70 : Obj := ⟨.type q3, none, .fields #[.builtin q12, r 68], #[]⟩
def o71 : Obj := tu #[r 31] 0
def o72 : Obj := ⟨.type q3, none, .fields #[.builtin q4, .type q5], #[]⟩
def o73 (P : Params) : Obj := ⟨.type q1, none, .dict #[⟨kh P s34, .str s34 269, .str s35 194⟩, ⟨kh P s36, .str s36 271, .str s18 270⟩, ⟨kh P s37, .str s37 273, .int 13 272⟩, ⟨kh P s38, .str s38 274, r 78⟩] 4, #[]⟩
def o74 : Obj := tu #[] 0
def o75 : Obj := ⟨.none, none, .fields #[], #[]⟩
def o76 : Obj := co #[.str s18 264, .str s18 265, .str s1 266, i 13, i 0, i 0, i 0, i 0, r 74, .bool false, i 181, r 75, .none, .none, .none, .none, i 267, i 13, .str s1 268]
def o77 : Obj := ⟨.type q0, none, .plain, #[some (r 76), some (r 3), some (r 73), none, some (.str s35 194), none, some (r 0)]⟩
def o78 : Obj := tu #[] 0
def o79 (P : Params) : Obj := ⟨.type q1, none, .dict #[⟨kh P s34, .str s34 269, .str s35 194⟩, ⟨kh P s37, .str s37 273, .int 13 272⟩, ⟨kh P s38, .str s38 274, r 78⟩, ⟨kh P s5, .str s5 275, .none⟩] 2, #[]⟩
def o80 : Obj := ⟨.type q5, none, .cls ⟨s18, [r 31], [r 80, r 31, .type q2, .type q6, .type q7, .type q8], 79, s18, true, [], [], false, none, false⟩, #[some (r 71), none, some (.str s18 262), some (.str s18 270), some (.builtin q9), some (.bool true)]⟩
def o81 : Obj := ⟨.type q11, none, .fields #[r 80, r 80, r 80], #[]⟩
def o82 : Obj := ⟨.type q3, none, .fields #[.builtin q12, r 80], #[]⟩
def o83 : Obj := tu #[] 0
def o84 : Obj := ⟨.none, none, .fields #[], #[]⟩
def o85 : Obj := tu #[.str s40 283] 0
def o86 : Obj := tu #[] 0
def o87 : Obj := f0 s19 s19 (topT 8)
def o88 : Obj := co #[.str s19 280, .str s19 281, .str s1 282, i 16, i 1, i 0, i 0, i 3, r 83, .bool true, i 181, r 84, .none, r 85, r 86, r 87, i 284, i 16, .str s1 285]
def o89 : Obj := fo s19 s19 (topT 8) (.str s41 278) (r 88)
def o90 : Obj := tu #[] 0
def o91 : Obj := ⟨.none, none, .fields #[], #[]⟩
def o92 : Obj := tu #[.str s42 290, .str s43 291, .str s44 292, .str s45 293, .str s46 294] 0
def o93 : Obj := tu #[] 0
def o94 : Obj := f0 s20 s20 (topT 9)
def o95 : Obj := co #[.str s20 287, .str s20 288, .str s1 289, i 18, i 2, i 0, i 0, i 3, r 90, .bool true, i 181, r 91, .none, r 92, r 93, r 94, i 295, i 18, .str s1 296]
def o96 : Obj := fo s20 s20 (topT 9) (.str s41 278) (r 95)
def o97 : Obj := tu #[] 0
def o98 : Obj := ⟨.none, none, .fields #[], #[]⟩
def o99 : Obj := tu #[.str s47 301, .str s48 302] 0
def o100 : Obj := tu #[] 0
def o101 : Obj := f0 s21 s21 (topT 10)
def o102 : Obj := co #[.str s21 298, .str s21 299, .str s1 300, i 26, i 1, i 0, i 0, i 3, r 97, .bool true, i 181, r 98, .none, r 99, r 100, r 101, i 303, i 26, .str s1 304]
def o103 : Obj := fo s21 s21 (topT 10) (.str s41 278) (r 102)
def o104 : Obj := tu #[] 0
def o105 : Obj := ⟨.none, none, .fields #[], #[]⟩
def o106 : Obj := f0 s26 s26 (topT 15)
def o107 : Obj := co #[.str s26 314, .str s26 315, .str s1 316, i 39, i 1, i 0, i 0, i 3, r 104, .bool true, i 181, r 105, .none, .none, .none, r 106, i 317, i 39, .str s1 318]
def o108 : Obj := fo s26 s26 (topT 15) (.str s4 306) (r 107)
def o109 : Obj := tu #[] 0
def o110 : Obj := ⟨.none, none, .fields #[], #[]⟩
def o111 : Obj := tu #[.str s49 323] 0
def o112 : Obj := tu #[] 0
def o113 : Obj := f0 s27 s27 (topT 16)
def o114 : Obj := co #[.str s27 320, .str s27 321, .str s1 322, i 48, i 1, i 0, i 0, i 3, r 109, .bool true, i 181, r 110, .none, r 111, r 112, r 113, i 324, i 48, .str s1 325]
def o115 : Obj := fo s27 s27 (topT 16) (.str s4 306) (r 114)
def o116 : Obj := tu #[] 0
def o117 : Obj := ⟨.none, none, .fields #[], #[]⟩
def o118 : Obj := tu #[.str s49 330] 0
def o119 : Obj := tu #[] 0
def o120 : Obj := f0 s28 s28 (topT 17)
def o121 : Obj := co #[.str s28 327, .str s28 328, .str s1 329, i 52, i 1, i 0, i 0, i 3, r 116, .bool true, i 181, r 117, .none, r 118, r 119, r 120, i 331, i 52, .str s1 332]
def o122 : Obj := fo s28 s28 (topT 17) (.str s4 306) (r 121)
def o123 : Obj := tu #[] 0
def o124 : Obj := ⟨.type q3, none, .fields #[.builtin q4, .type q5], #[]⟩
def o125 (P : Params) : Obj := ⟨.type q1, none, .dict #[⟨kh P s34, .str s34 341, .str s4 306⟩, ⟨kh P s36, .str s36 343, .str s29 342⟩, ⟨kh P s37, .str s37 345, .int 55 344⟩, ⟨kh P s38, .str s38 346, r 130⟩] 4, #[]⟩
def o126 : Obj := tu #[] 0
def o127 : Obj := ⟨.none, none, .fields #[], #[]⟩
def o128 : Obj := co #[.str s29 336, .str s29 337, .str s1 338, i 55, i 0, i 0, i 0, i 0, r 126, .bool false, i 181, r 127, .none, .none, .none, .none, i 339, i 55, .str s1 340]
def o129 : Obj := ⟨.type q0, none, .plain, #[some (r 128), some (r 3), some (r 125), none, some (.str s4 306), none, some (r 0)]⟩
def o130 : Obj := tu #[] 0
def o131 (P : Params) : Obj := ⟨.type q1, none, .dict #[⟨kh P s34, .str s34 341, .str s4 306⟩, ⟨kh P s37, .str s37 345, .int 55 344⟩, ⟨kh P s38, .str s38 346, r 130⟩, ⟨kh P s50, .str s50 348, r 133⟩, ⟨kh P s39, .str s39 350, r 134⟩, ⟨kh P s5, .str s5 351, .none⟩] 4, #[]⟩
def o132 : Obj := ⟨.type q5, none, .cls ⟨s29, [.type q8], [r 132, .type q8], 131, s29, true, [], [r 160, r 200], false, none, false⟩, #[none, none, some (.str s29 334), some (.str s29 342), some (.builtin q13), some (.bool true)]⟩
def o133 : Obj := ⟨.type q10, none, .fields #[.str s50 347, r 132, .builtin SL.s6511155373996960695x17, .builtin SL.s12411053484034534018x21], #[]⟩
def o134 : Obj := ⟨.type q10, none, .fields #[.str s39 349, r 132, .builtin SL.s10220274742760427390x26, .none], #[]⟩
def o135 : Obj := ⟨.type q11, none, .fields #[r 132, r 132, r 132], #[]⟩
def o136 : Obj := ⟨.type q3, none, .fields #[.builtin q12, r 132], #[]⟩
def o137 : Obj := tu #[r 132] 0
def o138 : Obj := ⟨.type q3, none, .fields #[.builtin q4, .type q5], #[]⟩
def o139 (P : Params) : Obj := ⟨.type q1, none, .dict #[⟨kh P s34, .str s34 361, .str s4 306⟩, ⟨kh P s36, .str s36 363, .str s30 362⟩, ⟨kh P s37, .str s37 365, .int 57 364⟩, ⟨kh P s51, .str s51 372, r 150⟩, ⟨kh P s52, .str s52 379, r 157⟩, ⟨kh P s38, .str s38 380, r 158⟩] 6, #[]⟩
def o140 : Obj := tu #[] 0
def o141 : Obj := ⟨.none, none, .fields #[i 59, i 4, r 149, i 62, i 4, r 156], #[]⟩
def o142 : Obj := co #[.str s30 356, .str s30 357, .str s1 358, i 57, i 0, i 0, i 0, i 0, r 140, .bool false, i 181, r 141, .none, .none, .none, .none, i 359, i 57, .str s1 360]
def o143 : Obj := ⟨.type q0, none, .plain, #[some (r 142), some (r 3), some (r 139), none, some (.str s4 306), none, some (r 0)]⟩
def o144 : Obj := tu #[] 0
def o145 : Obj := ⟨.none, none, .fields #[], #[]⟩
def o146 : Obj := tu #[.str s53 369] 0
def o147 : Obj := tu #[] 0
def o148 : Obj := f0 s51 s54 (L2.inClass (topT 19) 0)
def o149 : Obj := co #[.str s51 366, .str s54 367, .str s1 368, i 59, i 1, i 0, i 0, i 3, r 144, .bool true, i 181, r 145, .none, r 146, r 147, r 148, i 370, i 59, .str s1 371]
def o150 : Obj := fo s51 s54 (L2.inClass (topT 19) 0) (.str s4 306) (r 149)
def o151 : Obj := tu #[] 0
def o152 : Obj := ⟨.none, none, .fields #[], #[]⟩
def o153 : Obj := tu #[.str s53 376] 0
def o154 : Obj := tu #[] 0
def o155 : Obj := f0 s52 s55 (L2.inClass (topT 19) 1)
def o156 : Obj := co #[.str s52 373, .str s55 374, .str s1 375, i 62, i 1, i 0, i 0, i 3, r 151, .bool true, i 181, r 152, .none, r 153, r 154, r 155, i 377, i 62, .str s1 378]
def o157 : Obj := fo s52 s55 (L2.inClass (topT 19) 1) (.str s4 306) (r 156)
def o158 : Obj := tu #[] 0
def o159 (P : Params) : Obj := ⟨.type q1, none, .dict #[⟨kh P s34, .str s34 361, .str s4 306⟩, ⟨kh P s37, .str s37 365, .int 57 364⟩, ⟨kh P s51, .str s51 372, r 150⟩, ⟨kh P s52, .str s52 379, r 157⟩, ⟨kh P s38, .str s38 380, r 158⟩, ⟨kh P s5, .str s5 381, .none⟩] 2, #[]⟩
def o160_0 : Obj := ⟨.type q5, none, .cls ⟨s30, [r 132], [r 160, r 132, .type q8], 159, s30, true, [], [r 282], false, none, false⟩, #[some (r 137), none, some (.str s30 354), some (.str s30 362), some (.builtin q13), some (.bool true)]⟩
def o161 : Obj := ⟨.type q11, none, .fields #[r 160, r 160, r 160], #[]⟩
def o162 : Obj := ⟨.type q3, none, .fields #[.builtin q12, r 160], #[]⟩
def o163 : Obj := tu #[r 132] 0
def o164 : Obj := ⟨.type q3, none, .fields #[.builtin q4, .type q5], #[]⟩
def o165 (P : Params) : Obj := ⟨.type q1, none, .dict #[⟨kh P s34, .str s34 391, .str s4 306⟩, ⟨kh P s36, .str s36 393, .str s31 392⟩, ⟨kh P s37, .str s37 395, .int 64 394⟩, ⟨kh P s51, .str s51 402, r 176⟩, ⟨kh P s52, .str s52 409, r 183⟩, ⟨kh P s56, .str s56 417, r 190⟩, ⟨kh P s57, .str s57 425, r 197⟩, ⟨kh P s38, .str s38 426, r 198⟩] 8, #[]⟩
def o166 : Obj := tu #[] 0
def o167 : Obj := ⟨.none, none, .fields #[i 66, i 4, r 175, i 69, i 4, r 182, i 72, i 4, r 189, i 75, i 4, r 196], #[]⟩
def o168 : Obj := co #[.str s31 386, .str s31 387, .str s1 388, i 64, i 0, i 0, i 0, i 0, r 166, .bool false, i 181, r 167, .none, .none, .none, .none, i 389, i 64, .str s1 390]
def o169 : Obj := ⟨.type q0, none, .plain, #[some (r 168), some (r 3), some (r 165), none, some (.str s4 306), none, some (r 0)]⟩
def o170 : Obj := tu #[] 0
def o171 : Obj := ⟨.none, none, .fields #[], #[]⟩
def o172 : Obj := tu #[.str s53 399] 0
def o173 : Obj := tu #[] 0
def o174 : Obj := f0 s51 s58 (L2.inClass (topT 20) 0)
def o175 : Obj := co #[.str s51 396, .str s58 397, .str s1 398, i 66, i 1, i 0, i 0, i 3, r 170, .bool true, i 181, r 171, .none, r 172, r 173, r 174, i 400, i 66, .str s1 401]
def o176 : Obj := fo s51 s58 (L2.inClass (topT 20) 0) (.str s4 306) (r 175)
def o177 : Obj := tu #[] 0
def o178 : Obj := ⟨.none, none, .fields #[], #[]⟩
def o179 : Obj := tu #[.str s53 406] 0
def o180 : Obj := tu #[] 0
def o181 : Obj := f0 s52 s59 (L2.inClass (topT 20) 1)
def o182 : Obj := co #[.str s52 403, .str s59 404, .str s1 405, i 69, i 1, i 0, i 0, i 3, r 177, .bool true, i 181, r 178, .none, r 179, r 180, r 181, i 407, i 69, .str s1 408]
def o183 : Obj := fo s52 s59 (L2.inClass (topT 20) 1) (.str s4 306) (r 182)
def o184 : Obj := tu #[] 0
def o185 : Obj := ⟨.none, none, .fields #[], #[]⟩
def o186 : Obj := tu #[.str s53 413, .str s60 414] 0
def o187 : Obj := tu #[] 0
def o188 : Obj := f0 s56 s61 (L2.inClass (topT 20) 2)
def o189 : Obj := co #[.str s56 410, .str s61 411, .str s1 412, i 72, i 2, i 0, i 0, i 3, r 184, .bool true, i 181, r 185, .none, r 186, r 187, r 188, i 415, i 72, .str s1 416]
def o190 : Obj := fo s56 s61 (L2.inClass (topT 20) 2) (.str s4 306) (r 189)
def o191 : Obj := tu #[] 0
def o192 : Obj := ⟨.none, none, .fields #[], #[]⟩
def o193 : Obj := tu #[.str s53 421, .str s60 422] 0
def o194 : Obj := tu #[] 0
def o195 : Obj := f0 s57 s62 (L2.inClass (topT 20) 3)
def o196 : Obj := co #[.str s57 418, .str s62 419, .str s1 420, i 75, i 2, i 0, i 0, i 3, r 191, .bool true, i 181, r 192, .none, r 193, r 194, r 195, i 423, i 75, .str s1 424]
def o197 : Obj := fo s57 s62 (L2.inClass (topT 20) 3) (.str s4 306) (r 196)
def o198 : Obj := tu #[] 0
def o199 (P : Params) : Obj := ⟨.type q1, none, .dict #[⟨kh P s34, .str s34 391, .str s4 306⟩, ⟨kh P s37, .str s37 395, .int 64 394⟩, ⟨kh P s51, .str s51 402, r 176⟩, ⟨kh P s52, .str s52 409, r 183⟩, ⟨kh P s56, .str s56 417, r 190⟩, ⟨kh P s57, .str s57 425, r 197⟩, ⟨kh P s38, .str s38 426, r 198⟩, ⟨kh P s5, .str s5 427, .none⟩] 2, #[]⟩
def o200_0 : Obj := ⟨.type q5, none, .cls ⟨s31, [r 132], [r 200, r 132, .type q8], 199, s31, true, [], [], false, none, false⟩, #[some (r 163), none, some (.str s31 384), some (.str s31 392), some (.builtin q13), some (.bool true)]⟩
def o201 : Obj := ⟨.type q11, none, .fields #[r 200, r 200, r 200], #[]⟩
def o202 : Obj := ⟨.type q3, none, .fields #[.builtin q12, r 200], #[]⟩
def o203 : Obj := tu #[r 160] 0
def o204 : Obj := ⟨.type q3, none, .fields #[.builtin q4, .type q5], #[]⟩
def o205 (P : Params) : Obj := ⟨.type q1, none, .dict #[⟨kh P s34, .str s34 437, .str s4 306⟩, ⟨kh P s36, .str s36 439, .str s32 438⟩, ⟨kh P s37, .str s37 441, .int 77 440⟩, ⟨kh P s63, .str s63 448, r 216⟩, ⟨kh P s64, .str s64 455, r 223⟩, ⟨kh P s42, .str s42 462, r 230⟩, ⟨kh P s65, .str s65 471, r 237⟩, ⟨kh P s66, .str s66 480, r 244⟩, ⟨kh P s56, .str s56 488, r 251⟩, ⟨kh P s57, .str s57 496, r 258⟩, ⟨kh P s67, .str s67 504, r 265⟩, ⟨kh P s68, .str s68 512, r 272⟩, ⟨kh P s69, .str s69 523, r 279⟩, ⟨kh P s38, .str s38 524, r 280⟩] 14, #[]⟩
def o206 : Obj := tu #[] 0
def o207 : Obj := ⟨.none, none, .fields #[i 79, i 4, r 215, i 82, i 4, r 222, i 85, i 4, r 229, i 88, i 4, r 236, i 91, i 4, r 243, i 94, i 4, r 250, i 97, i 4, r 257, i 100, i 4, r 264, i 107, i 4, r 271, i 110, i 4, r 278], #[]⟩
def o208 : Obj := co #[.str s32 432, .str s32 433, .str s1 434, i 77, i 0, i 0, i 0, i 0, r 206, .bool false, i 181, r 207, .none, .none, .none, .none, i 435, i 77, .str s1 436]
def o209 : Obj := ⟨.type q0, none, .plain, #[some (r 208), some (r 3), some (r 205), none, some (.str s4 306), none, some (r 0)]⟩
def o210 : Obj := tu #[] 0
def o211 : Obj := ⟨.none, none, .fields #[], #[]⟩
def o212 : Obj := tu #[.str s53 445] 0
def o213 : Obj := tu #[] 0
def o214 : Obj := f0 s63 s70 (L2.inClass (topT 21) 0)
def o215 : Obj := co #[.str s63 442, .str s70 443, .str s1 444, i 79, i 1, i 0, i 0, i 3, r 210, .bool true, i 181, r 211, .none, r 212, r 213, r 214, i 446, i 79, .str s1 447]
def o216 : Obj := fo s63 s70 (L2.inClass (topT 21) 0) (.str s4 306) (r 215)
def o217 : Obj := tu #[] 0
def o218 : Obj := ⟨.none, none, .fields #[], #[]⟩
def o219 : Obj := tu #[.str s53 452] 0
def o220 : Obj := tu #[] 0
def o221 : Obj := f0 s64 s71 (L2.inClass (topT 21) 1)
def o222 : Obj := co #[.str s64 449, .str s71 450, .str s1 451, i 82, i 1, i 0, i 0, i 3, r 217, .bool true, i 181, r 218, .none, r 219, r 220, r 221, i 453, i 82, .str s1 454]
def o223 : Obj := fo s64 s71 (L2.inClass (topT 21) 1) (.str s4 306) (r 222)
def o224 : Obj := tu #[] 0
def o225 : Obj := ⟨.none, none, .fields #[], #[]⟩
def o226 : Obj := tu #[.str s53 459] 0
def o227 : Obj := tu #[] 0
def o228 : Obj := f0 s42 s72 (L2.inClass (topT 21) 2)
def o229 : Obj := co #[.str s42 456, .str s72 457, .str s1 458, i 85, i 1, i 0, i 0, i 3, r 224, .bool true, i 181, r 225, .none, r 226, r 227, r 228, i 460, i 85, .str s1 461]
def o230 : Obj := fo s42 s72 (L2.inClass (topT 21) 2) (.str s4 306) (r 229)
def o231 : Obj := tu #[] 0
def o232 : Obj := ⟨.none, none, .fields #[], #[]⟩
def o233 : Obj := tu #[.str s53 466, .str s60 467, .str s73 468] 0
def o234 : Obj := tu #[] 0
def o235 : Obj := f0 s65 s74 (L2.inClass (topT 21) 3)
def o236 : Obj := co #[.str s65 463, .str s74 464, .str s1 465, i 88, i 3, i 0, i 0, i 3, r 231, .bool true, i 181, r 232, .none, r 233, r 234, r 235, i 469, i 88, .str s1 470]
def o237 : Obj := fo s65 s74 (L2.inClass (topT 21) 3) (.str s4 306) (r 236)
def o238 : Obj := tu #[] 0
def o239 : Obj := ⟨.none, none, .fields #[], #[]⟩
def o240 : Obj := tu #[.str s53 475, .str s60 476, .str s73 477] 0
def o241 : Obj := tu #[] 0
def o242 : Obj := f0 s66 s75 (L2.inClass (topT 21) 4)
def o243 : Obj := co #[.str s66 472, .str s75 473, .str s1 474, i 91, i 3, i 0, i 0, i 3, r 238, .bool true, i 181, r 239, .none, r 240, r 241, r 242, i 478, i 91, .str s1 479]
def o244 : Obj := fo s66 s75 (L2.inClass (topT 21) 4) (.str s4 306) (r 243)
def o245 : Obj := tu #[] 0
def o246 : Obj := ⟨.none, none, .fields #[], #[]⟩
def o247 : Obj := tu #[.str s53 484, .str s60 485] 0
def o248 : Obj := tu #[] 0
def o249 : Obj := f0 s56 s76 (L2.inClass (topT 21) 5)
def o250 : Obj := co #[.str s56 481, .str s76 482, .str s1 483, i 94, i 2, i 0, i 0, i 3, r 245, .bool true, i 181, r 246, .none, r 247, r 248, r 249, i 486, i 94, .str s1 487]
def o251 : Obj := fo s56 s76 (L2.inClass (topT 21) 5) (.str s4 306) (r 250)
def o252 : Obj := tu #[] 0
def o253 : Obj := ⟨.none, none, .fields #[], #[]⟩
def o254 : Obj := tu #[.str s53 492, .str s60 493] 0
def o255 : Obj := tu #[] 0
def o256 : Obj := f0 s57 s77 (L2.inClass (topT 21) 6)
def o257 : Obj := co #[.str s57 489, .str s77 490, .str s1 491, i 97, i 2, i 0, i 0, i 3, r 252, .bool true, i 181, r 253, .none, r 254, r 255, r 256, i 494, i 97, .str s1 495]
def o258 : Obj := fo s57 s77 (L2.inClass (topT 21) 6) (.str s4 306) (r 257)
def o259 : Obj := tu #[] 0
def o260 : Obj := ⟨.none, none, .fields #[], #[]⟩
def o261 : Obj := tu #[.str s53 500, .str s40 501] 0
def o262 : Obj := tu #[] 0
def o263 : Obj := f0 s67 s78 (L2.inClass (topT 21) 7)
def o264 : Obj := co #[.str s67 497, .str s78 498, .str s1 499, i 100, i 2, i 0, i 0, i 3, r 259, .bool true, i 181, r 260, .none, r 261, r 262, r 263, i 502, i 100, .str s1 503]
def o265 : Obj := fo s67 s78 (L2.inClass (topT 21) 7) (.str s4 306) (r 264)
def o266 : Obj := tu #[] 0
def o267 : Obj := ⟨.none, none, .fields #[], #[]⟩
def o268 : Obj := tu #[.str s53 508, .str s60 509] 0
def o269 : Obj := tu #[] 0
def o270 : Obj := f0 s68 s79 (L2.inClass (topT 21) 8)
def o271 : Obj := co #[.str s68 505, .str s79 506, .str s1 507, i 107, i 2, i 0, i 0, i 3, r 266, .bool true, i 181, r 267, .none, r 268, r 269, r 270, i 510, i 107, .str s1 511]
def o272 : Obj := fo s68 s79 (L2.inClass (topT 21) 8) (.str s4 306) (r 271)
def o273 : Obj := tu #[] 0
def o274 : Obj := ⟨.none, none, .fields #[], #[]⟩
def o275 : Obj := tu #[.str s53 516, .str s49 517, .str s80 518, .str s81 519, .str s82 520] 0
def o276 : Obj := tu #[] 0
def o277 : Obj := f0 s69 s83 (L2.inClass (topT 21) 9)
def o278 : Obj := co #[.str s69 513, .str s83 514, .str s1 515, i 110, i 2, i 0, i 0, i 3, r 273, .bool true, i 181, r 274, .none, r 275, r 276, r 277, i 521, i 110, .str s1 522]
def o279 : Obj := fo s69 s83 (L2.inClass (topT 21) 9) (.str s4 306) (r 278)
def o280 : Obj := tu #[] 0
def o281 (P : Params) : Obj := ⟨.type q1, none, .dict #[⟨kh P s34, .str s34 437, .str s4 306⟩, ⟨kh P s37, .str s37 441, .int 77 440⟩, ⟨kh P s63, .str s63 448, r 216⟩, ⟨kh P s64, .str s64 455, r 223⟩, ⟨kh P s42, .str s42 462, r 230⟩, ⟨kh P s65, .str s65 471, r 237⟩, ⟨kh P s66, .str s66 480, r 244⟩, ⟨kh P s56, .str s56 488, r 251⟩, ⟨kh P s57, .str s57 496, r 258⟩, ⟨kh P s67, .str s67 504, r 265⟩, ⟨kh P s68, .str s68 512, r 272⟩, ⟨kh P s69, .str s69 523, r 279⟩, ⟨kh P s38, .str s38 524, r 280⟩, ⟨kh P s5, .str s5 525, .none⟩] 2, #[]⟩
def o282 : Obj := ⟨.type q5, none, .cls ⟨s32, [r 160], [r 282, r 160, r 132, .type q8], 281, s32, true, [], [], false, none, false⟩, #[some (r 203), none, some (.str s32 430), some (.str s32 438), some (.builtin q13), some (.bool true)]⟩
def o283 : Obj := ⟨.type q11, none, .fields #[r 282, r 282, r 282], #[]⟩
def o284 : Obj := ⟨.type q3, none, .fields #[.builtin q12, r 282], #[]⟩
def o3_1 (P : Params) : Obj := ⟨.type q1, none, .dict #[⟨kh P s3, .str s3 165, .str s84 807⟩, ⟨kh P s5, .str s5 166, .none⟩, ⟨kh P s6, .str s6 167, .none⟩, ⟨kh P s7, .str s7 168, .builtin SL.s7097527257260152453x26⟩, ⟨kh P s8, .str s8 169, .none⟩, ⟨kh P s9, .str s9 170, r 6⟩, ⟨kh P s10, .str s10 171, r 4⟩, ⟨kh P s11, .str s11 173, .str s1 172⟩, ⟨kh P s12, .str s12 174, .none⟩, ⟨kh P s13, .str s13 193, r 21⟩, ⟨kh P s14, .str s14 213, r 31⟩, ⟨kh P s15, .str s15 229, r 44⟩, ⟨kh P s16, .str s16 245, r 56⟩, ⟨kh P s17, .str s17 261, r 68⟩, ⟨kh P s18, .str s18 277, r 80⟩, ⟨kh P s19, .str s19 286, r 89⟩, ⟨kh P s20, .str s20 297, r 96⟩, ⟨kh P s21, .str s21 305, r 103⟩, ⟨kh P s22, .str s22 309, .str s23 308⟩, ⟨kh P s24, .str s24 311, .int 30 310⟩, ⟨kh P s25, .str s25 313, .int 1000000 312⟩, ⟨kh P s26, .str s26 319, r 108⟩, ⟨kh P s27, .str s27 326, r 115⟩, ⟨kh P s28, .str s28 333, r 122⟩, ⟨kh P s29, .str s29 353, r 132⟩, ⟨kh P s30, .str s30 383, r 160⟩, ⟨kh P s31, .str s31 429, r 200⟩, ⟨kh P s32, .str s32 527, r 282⟩, ⟨kh P s85, .str s85 633, r 371⟩, ⟨kh P s86, .str s86 712, r 439⟩, ⟨kh P s87, .str s87 791, r 507⟩, ⟨kh P s88, .str s88 799, r 516⟩, ⟨kh P s89, .str s89 806, r 523⟩, ⟨kh P s90, .str s90 815, r 530⟩, ⟨kh P s91, .str s91 823, r 537⟩, ⟨kh P s92, .str s92 830, r 544⟩, ⟨kh P s93, .str s93 838, r 551⟩, ⟨kh P s94, .str s94 848, r 558⟩, ⟨kh P s95, .str s95 857, r 565⟩, ⟨kh P s96, .str s96 865, r 572⟩, ⟨kh P s97, .str s97 871, r 577⟩, ⟨kh P s98, .str s98 881, r 584⟩, ⟨kh P s99, .str s99 890, r 591⟩, ⟨kh P s100, .str s100 906, r 598⟩] 44, #[]⟩
def o12_1 : Obj := ⟨.none, none, .fields #[i 1, i 0, r 20, i 5, i 0, r 27, i 7, i 0, r 40, i 9, i 0, r 52, i 11, i 0, r 64, i 13, i 0, r 76, i 16, i 0, r 88, i 18, i 0, r 95, i 26, i 0, r 102, i 39, i 0, r 107, i 48, i 0, r 114, i 52, i 0, r 121, i 55, i 0, r 128, i 57, i 0, r 142, i 64, i 0, r 168, i 77, i 0, r 208, i 120, i 0, r 290, i 160, i 0, r 379, i 188, i 0, r 447, i 218, i 0, r 515, i 223, i 0, r 522, i 234, i 0, r 529, i 236, i 0, r 536, i 240, i 0, r 543, i 246, i 0, r 550, i 255, i 0, r 557, i 269, i 0, r 564, i 283, i 0, r 571, i 291, i 0, r 576, i 296, i 0, r 583, i 302, i 0, r 590, i 312, i 0, r 597], #[]⟩
def o160_1 : Obj := ⟨.type q5, none, .cls ⟨s30, [r 132], [r 160, r 132, .type q8], 159, s30, true, [], [r 282, r 371], false, none, false⟩, #[some (r 137), none, some (.str s30 354), some (.str s30 362), some (.builtin q13), some (.bool true)]⟩
def o200_1 : Obj := ⟨.type q5, none, .cls ⟨s31, [r 132], [r 200, r 132, .type q8], 199, s31, true, [], [r 439, r 507], false, none, false⟩, #[some (r 163), none, some (.str s31 384), some (.str s31 392), some (.builtin q13), some (.bool true)]⟩
def o285 : Obj := tu #[r 160] 0
def o286 : Obj := ⟨.type q3, none, .fields #[.builtin q4, .type q5], #[]⟩
def o287 (P : Params) : Obj := ⟨.type q1, none, .dict #[⟨kh P s34, .str s34 535, .str s4 306⟩, ⟨kh P s36, .str s36 537, .str s85 536⟩, ⟨kh P s37, .str s37 539, .int 120 538⟩, ⟨kh P s101, .str s101 547, r 298⟩, ⟨kh P s63, .str s63 555, r 305⟩, ⟨kh P s64, .str s64 562, r 312⟩, ⟨kh P s42, .str s42 569, r 319⟩, ⟨kh P s65, .str s65 578, r 326⟩, ⟨kh P s66, .str s66 587, r 333⟩, ⟨kh P s56, .str s56 595, r 340⟩, ⟨kh P s57, .str s57 603, r 347⟩, ⟨kh P s67, .str s67 611, r 354⟩, ⟨kh P s68, .str s68 619, r 361⟩, ⟨kh P s69, .str s69 628, r 368⟩, ⟨kh P s38, .str s38 630, r 369⟩] 15, #[]⟩
def o288 : Obj := tu #[] 0
def o289 : Obj := ⟨.none, none, .fields #[i 122, i 4, r 297, i 127, i 4, r 304, i 131, i 4, r 311, i 134, i 4, r 318, i 137, i 4, r 325, i 140, i 4, r 332, i 143, i 4, r 339, i 146, i 4, r 346, i 149, i 4, r 353, i 152, i 4, r 360, i 155, i 4, r 367], #[]⟩
def o290 : Obj := co #[.str s85 530, .str s85 531, .str s1 532, i 120, i 0, i 0, i 0, i 0, r 288, .bool false, i 181, r 289, .none, .none, .none, .none, i 533, i 120, .str s1 534]
def o291 : Obj := ⟨.type q0, none, .plain, #[some (r 290), some (r 3), some (r 287), none, some (.str s4 306), none, some (r 0)]⟩
def o292 : Obj := tu #[] 0
def o293 : Obj := ⟨.none, none, .fields #[], #[]⟩
def o294 : Obj := tu #[.str s53 543, .str s102 544] 0
def o295 : Obj := tu #[] 0
def o296 : Obj := f0 s101 s103 (L2.inClass (topT 22) 0)
def o297 : Obj := co #[.str s101 540, .str s103 541, .str s1 542, i 122, i 2, i 0, i 0, i 3, r 292, .bool true, i 181, r 293, .none, r 294, r 295, r 296, i 545, i 122, .str s1 546]
def o298 : Obj := fo s101 s103 (L2.inClass (topT 22) 0) (.str s4 306) (r 297)
def o299 : Obj := tu #[] 0
def o300 : Obj := ⟨.none, none, .fields #[], #[]⟩
def o301 : Obj := tu #[.str s53 551, .str s102 552] 0
def o302 : Obj := tu #[] 0
def o303 : Obj := f0 s63 s104 (L2.inClass (topT 22) 1)
def o304 : Obj := co #[.str s63 548, .str s104 549, .str s1 550, i 127, i 1, i 0, i 0, i 3, r 299, .bool true, i 181, r 300, .none, r 301, r 302, r 303, i 553, i 127, .str s1 554]
def o305 : Obj := fo s63 s104 (L2.inClass (topT 22) 1) (.str s4 306) (r 304)
def o306 : Obj := tu #[] 0
def o307 : Obj := ⟨.none, none, .fields #[], #[]⟩
def o308 : Obj := tu #[.str s53 559] 0
def o309 : Obj := tu #[] 0
def o310 : Obj := f0 s64 s105 (L2.inClass (topT 22) 2)
def o311 : Obj := co #[.str s64 556, .str s105 557, .str s1 558, i 131, i 1, i 0, i 0, i 3, r 306, .bool true, i 181, r 307, .none, r 308, r 309, r 310, i 560, i 131, .str s1 561]
def o312 : Obj := fo s64 s105 (L2.inClass (topT 22) 2) (.str s4 306) (r 311)
def o313 : Obj := tu #[] 0
def o314 : Obj := ⟨.none, none, .fields #[], #[]⟩
def o315 : Obj := tu #[.str s53 566] 0
def o316 : Obj := tu #[] 0
def o317 : Obj := f0 s42 s106 (L2.inClass (topT 22) 3)
def o318 : Obj := co #[.str s42 563, .str s106 564, .str s1 565, i 134, i 1, i 0, i 0, i 3, r 313, .bool true, i 181, r 314, .none, r 315, r 316, r 317, i 567, i 134, .str s1 568]
def o319 : Obj := fo s42 s106 (L2.inClass (topT 22) 3) (.str s4 306) (r 318)
def o320 : Obj := tu #[] 0
def o321 : Obj := ⟨.none, none, .fields #[], #[]⟩
def o322 : Obj := tu #[.str s53 573, .str s60 574, .str s73 575] 0
def o323 : Obj := tu #[] 0
def o324 : Obj := f0 s65 s107 (L2.inClass (topT 22) 4)
def o325 : Obj := co #[.str s65 570, .str s107 571, .str s1 572, i 137, i 3, i 0, i 0, i 3, r 320, .bool true, i 181, r 321, .none, r 322, r 323, r 324, i 576, i 137, .str s1 577]
def o326 : Obj := fo s65 s107 (L2.inClass (topT 22) 4) (.str s4 306) (r 325)
def o327 : Obj := tu #[] 0
def o328 : Obj := ⟨.none, none, .fields #[], #[]⟩
def o329 : Obj := tu #[.str s53 582, .str s60 583, .str s73 584] 0
def o330 : Obj := tu #[] 0
def o331 : Obj := f0 s66 s108 (L2.inClass (topT 22) 5)
def o332 : Obj := co #[.str s66 579, .str s108 580, .str s1 581, i 140, i 3, i 0, i 0, i 3, r 327, .bool true, i 181, r 328, .none, r 329, r 330, r 331, i 585, i 140, .str s1 586]
def o333 : Obj := fo s66 s108 (L2.inClass (topT 22) 5) (.str s4 306) (r 332)
def o334 : Obj := tu #[] 0
def o335 : Obj := ⟨.none, none, .fields #[], #[]⟩
def o336 : Obj := tu #[.str s53 591, .str s60 592] 0
def o337 : Obj := tu #[] 0
def o338 : Obj := f0 s56 s109 (L2.inClass (topT 22) 6)
def o339 : Obj := co #[.str s56 588, .str s109 589, .str s1 590, i 143, i 2, i 0, i 0, i 3, r 334, .bool true, i 181, r 335, .none, r 336, r 337, r 338, i 593, i 143, .str s1 594]
def o340 : Obj := fo s56 s109 (L2.inClass (topT 22) 6) (.str s4 306) (r 339)
def o341 : Obj := tu #[] 0
def o342 : Obj := ⟨.none, none, .fields #[], #[]⟩
def o343 : Obj := tu #[.str s53 599, .str s60 600] 0
def o344 : Obj := tu #[] 0
def o345 : Obj := f0 s57 s110 (L2.inClass (topT 22) 7)
def o346 : Obj := co #[.str s57 596, .str s110 597, .str s1 598, i 146, i 2, i 0, i 0, i 3, r 341, .bool true, i 181, r 342, .none, r 343, r 344, r 345, i 601, i 146, .str s1 602]
def o347 : Obj := fo s57 s110 (L2.inClass (topT 22) 7) (.str s4 306) (r 346)
def o348 : Obj := tu #[] 0
def o349 : Obj := ⟨.none, none, .fields #[], #[]⟩
def o350 : Obj := tu #[.str s53 607, .str s40 608] 0
def o351 : Obj := tu #[] 0
def o352 : Obj := f0 s67 s111 (L2.inClass (topT 22) 8)
def o353 : Obj := co #[.str s67 604, .str s111 605, .str s1 606, i 149, i 2, i 0, i 0, i 3, r 348, .bool true, i 181, r 349, .none, r 350, r 351, r 352, i 609, i 149, .str s1 610]
def o354 : Obj := fo s67 s111 (L2.inClass (topT 22) 8) (.str s4 306) (r 353)
def o355 : Obj := tu #[] 0
def o356 : Obj := ⟨.none, none, .fields #[], #[]⟩
def o357 : Obj := tu #[.str s53 615, .str s60 616] 0
def o358 : Obj := tu #[] 0
def o359 : Obj := f0 s68 s112 (L2.inClass (topT 22) 9)
def o360 : Obj := co #[.str s68 612, .str s112 613, .str s1 614, i 152, i 2, i 0, i 0, i 3, r 355, .bool true, i 181, r 356, .none, r 357, r 358, r 359, i 617, i 152, .str s1 618]
def o361 : Obj := fo s68 s112 (L2.inClass (topT 22) 9) (.str s4 306) (r 360)
def o362 : Obj := tu #[] 0
def o363 : Obj := ⟨.none, none, .fields #[], #[]⟩
def o364 : Obj := tu #[.str s53 623, .str s49 624, .str s47 625] 0
def o365 : Obj := tu #[] 0
def o366 : Obj := f0 s69 s113 (L2.inClass (topT 22) 10)
def o367 : Obj := co #[.str s69 620, .str s113 621, .str s1 622, i 155, i 2, i 0, i 0, i 3, r 362, .bool true, i 181, r 363, .none, r 364, r 365, r 366, i 626, i 155, .str s1 627]
def o368 : Obj := fo s69 s113 (L2.inClass (topT 22) 10) (.str s4 306) (r 367)
def o369 : Obj := tu #[.str s102 629] 0
def o370 (P : Params) : Obj := ⟨.type q1, none, .dict #[⟨kh P s34, .str s34 535, .str s4 306⟩, ⟨kh P s37, .str s37 539, .int 120 538⟩, ⟨kh P s101, .str s101 547, r 298⟩, ⟨kh P s63, .str s63 555, r 305⟩, ⟨kh P s64, .str s64 562, r 312⟩, ⟨kh P s42, .str s42 569, r 319⟩, ⟨kh P s65, .str s65 578, r 326⟩, ⟨kh P s66, .str s66 587, r 333⟩, ⟨kh P s56, .str s56 595, r 340⟩, ⟨kh P s57, .str s57 603, r 347⟩, ⟨kh P s67, .str s67 611, r 354⟩, ⟨kh P s68, .str s68 619, r 361⟩, ⟨kh P s69, .str s69 628, r 368⟩, ⟨kh P s38, .str s38 630, r 369⟩, ⟨kh P s5, .str s5 631, .none⟩] 2, #[]⟩
def o371 : Obj := ⟨.type q5, none, .cls ⟨s85, [r 160], [r 371, r 160, r 132, .type q8], 370, s85, true, [], [], false, none, false⟩, #[some (r 285), none, some (.str s85 528), some (.str s85 536), some (.builtin q13), some (.bool true)]⟩
def o372 : Obj := ⟨.type q11, none, .fields #[r 371, r 371, r 371], #[]⟩
def o373 : Obj := ⟨.type q3, none, .fields #[.builtin q12, r 371], #[]⟩
def o374 : Obj := tu #[r 200] 0
def o375 : Obj := ⟨.type q3, none, .fields #[.builtin q4, .type q5], #[]⟩
def o376 (P : Params) : Obj := ⟨.type q1, none, .dict #[⟨kh P s34, .str s34 641, .str s4 306⟩, ⟨kh P s36, .str s36 643, .str s86 642⟩, ⟨kh P s37, .str s37 645, .int 160 644⟩, ⟨kh P s63, .str s63 652, r 387⟩, ⟨kh P s64, .str s64 659, r 394⟩, ⟨kh P s42, .str s42 666, r 401⟩, ⟨kh P s65, .str s65 675, r 408⟩, ⟨kh P s66, .str s66 684, r 415⟩, ⟨kh P s67, .str s67 692, r 422⟩, ⟨kh P s68, .str s68 700, r 429⟩, ⟨kh P s69, .str s69 708, r 436⟩, ⟨kh P s38, .str s38 709, r 437⟩] 12, #[]⟩
def o377 : Obj := tu #[] 0
def o378 : Obj := ⟨.none, none, .fields #[i 162, i 4, r 386, i 165, i 4, r 393, i 168, i 4, r 400, i 171, i 4, r 407, i 174, i 4, r 414, i 177, i 4, r 421, i 180, i 4, r 428, i 183, i 4, r 435], #[]⟩
def o379 : Obj := co #[.str s86 636, .str s86 637, .str s1 638, i 160, i 0, i 0, i 0, i 0, r 377, .bool false, i 181, r 378, .none, .none, .none, .none, i 639, i 160, .str s1 640]
def o380 : Obj := ⟨.type q0, none, .plain, #[some (r 379), some (r 3), some (r 376), none, some (.str s4 306), none, some (r 0)]⟩
def o381 : Obj := tu #[] 0
def o382 : Obj := ⟨.none, none, .fields #[], #[]⟩
def o383 : Obj := tu #[.str s53 649] 0
def o384 : Obj := tu #[] 0
def o385 : Obj := f0 s63 s114 (L2.inClass (topT 23) 0)
def o386 : Obj := co #[.str s63 646, .str s114 647, .str s1 648, i 162, i 1, i 0, i 0, i 3, r 381, .bool true, i 181, r 382, .none, r 383, r 384, r 385, i 650, i 162, .str s1 651]
def o387 : Obj := fo s63 s114 (L2.inClass (topT 23) 0) (.str s4 306) (r 386)
def o388 : Obj := tu #[] 0
def o389 : Obj := ⟨.none, none, .fields #[], #[]⟩
def o390 : Obj := tu #[.str s53 656] 0
def o391 : Obj := tu #[] 0
def o392 : Obj := f0 s64 s115 (L2.inClass (topT 23) 1)
def o393 : Obj := co #[.str s64 653, .str s115 654, .str s1 655, i 165, i 1, i 0, i 0, i 3, r 388, .bool true, i 181, r 389, .none, r 390, r 391, r 392, i 657, i 165, .str s1 658]
def o394 : Obj := fo s64 s115 (L2.inClass (topT 23) 1) (.str s4 306) (r 393)
def o395 : Obj := tu #[] 0
def o396 : Obj := ⟨.none, none, .fields #[], #[]⟩
def o397 : Obj := tu #[.str s53 663] 0
def o398 : Obj := tu #[] 0
def o399 : Obj := f0 s42 s116 (L2.inClass (topT 23) 2)
def o400 : Obj := co #[.str s42 660, .str s116 661, .str s1 662, i 168, i 1, i 0, i 0, i 3, r 395, .bool true, i 181, r 396, .none, r 397, r 398, r 399, i 664, i 168, .str s1 665]
def o401 : Obj := fo s42 s116 (L2.inClass (topT 23) 2) (.str s4 306) (r 400)
def o402 : Obj := tu #[] 0
def o403 : Obj := ⟨.none, none, .fields #[], #[]⟩
def o404 : Obj := tu #[.str s53 670, .str s60 671, .str s73 672] 0
def o405 : Obj := tu #[] 0
def o406 : Obj := f0 s65 s117 (L2.inClass (topT 23) 3)
def o407 : Obj := co #[.str s65 667, .str s117 668, .str s1 669, i 171, i 3, i 0, i 0, i 3, r 402, .bool true, i 181, r 403, .none, r 404, r 405, r 406, i 673, i 171, .str s1 674]
def o408 : Obj := fo s65 s117 (L2.inClass (topT 23) 3) (.str s4 306) (r 407)
def o409 : Obj := tu #[] 0
def o410 : Obj := ⟨.none, none, .fields #[], #[]⟩
def o411 : Obj := tu #[.str s53 679, .str s60 680, .str s73 681] 0
def o412 : Obj := tu #[] 0
def o413 : Obj := f0 s66 s118 (L2.inClass (topT 23) 4)
def o414 : Obj := co #[.str s66 676, .str s118 677, .str s1 678, i 174, i 3, i 0, i 0, i 3, r 409, .bool true, i 181, r 410, .none, r 411, r 412, r 413, i 682, i 174, .str s1 683]
def o415 : Obj := fo s66 s118 (L2.inClass (topT 23) 4) (.str s4 306) (r 414)
def o416 : Obj := tu #[] 0
def o417 : Obj := ⟨.none, none, .fields #[], #[]⟩
def o418 : Obj := tu #[.str s53 688, .str s40 689] 0
def o419 : Obj := tu #[] 0
def o420 : Obj := f0 s67 s119 (L2.inClass (topT 23) 5)
def o421 : Obj := co #[.str s67 685, .str s119 686, .str s1 687, i 177, i 2, i 0, i 0, i 3, r 416, .bool true, i 181, r 417, .none, r 418, r 419, r 420, i 690, i 177, .str s1 691]
def o422 : Obj := fo s67 s119 (L2.inClass (topT 23) 5) (.str s4 306) (r 421)
def o423 : Obj := tu #[] 0
def o424 : Obj := ⟨.none, none, .fields #[], #[]⟩
def o425 : Obj := tu #[.str s53 696, .str s60 697] 0
def o426 : Obj := tu #[] 0
def o427 : Obj := f0 s68 s120 (L2.inClass (topT 23) 6)
def o428 : Obj := co #[.str s68 693, .str s120 694, .str s1 695, i 180, i 2, i 0, i 0, i 3, r 423, .bool true, i 181, r 424, .none, r 425, r 426, r 427, i 698, i 180, .str s1 699]
def o429 : Obj := fo s68 s120 (L2.inClass (topT 23) 6) (.str s4 306) (r 428)
def o430 : Obj := tu #[] 0
def o431 : Obj := ⟨.none, none, .fields #[], #[]⟩
def o432 : Obj := tu #[.str s53 704, .str s49 705] 0
def o433 : Obj := tu #[] 0
def o434 : Obj := f0 s69 s121 (L2.inClass (topT 23) 7)
def o435 : Obj := co #[.str s69 701, .str s121 702, .str s1 703, i 183, i 2, i 0, i 0, i 3, r 430, .bool true, i 181, r 431, .none, r 432, r 433, r 434, i 706, i 183, .str s1 707]
def o436 : Obj := fo s69 s121 (L2.inClass (topT 23) 7) (.str s4 306) (r 435)
def o437 : Obj := tu #[] 0
def o438 (P : Params) : Obj := ⟨.type q1, none, .dict #[⟨kh P s34, .str s34 641, .str s4 306⟩, ⟨kh P s37, .str s37 645, .int 160 644⟩, ⟨kh P s63, .str s63 652, r 387⟩, ⟨kh P s64, .str s64 659, r 394⟩, ⟨kh P s42, .str s42 666, r 401⟩, ⟨kh P s65, .str s65 675, r 408⟩, ⟨kh P s66, .str s66 684, r 415⟩, ⟨kh P s67, .str s67 692, r 422⟩, ⟨kh P s68, .str s68 700, r 429⟩, ⟨kh P s69, .str s69 708, r 436⟩, ⟨kh P s38, .str s38 709, r 437⟩, ⟨kh P s5, .str s5 710, .none⟩] 2, #[]⟩
def o439 : Obj := ⟨.type q5, none, .cls ⟨s86, [r 200], [r 439, r 200, r 132, .type q8], 438, s86, true, [], [], false, none, false⟩, #[some (r 374), none, some (.str s86 634), some (.str s86 642), some (.builtin q13), some (.bool true)]⟩
def o440 : Obj := ⟨.type q11, none, .fields #[r 439, r 439, r 439], #[]⟩
def o441 : Obj := ⟨.type q3, none, .fields #[.builtin q12, r 439], #[]⟩
def o442 : Obj := tu #[r 200] 0
def o443 : Obj := ⟨.type q3, none, .fields #[.builtin q4, .type q5], #[]⟩
def o444 (P : Params) : Obj := ⟨.type q1, none, .dict #[⟨kh P s34, .str s34 720, .str s4 306⟩, ⟨kh P s36, .str s36 722, .str s87 721⟩, ⟨kh P s37, .str s37 724, .int 188 723⟩, ⟨kh P s63, .str s63 731, r 455⟩, ⟨kh P s64, .str s64 738, r 462⟩, ⟨kh P s42, .str s42 745, r 469⟩, ⟨kh P s65, .str s65 754, r 476⟩, ⟨kh P s66, .str s66 763, r 483⟩, ⟨kh P s67, .str s67 771, r 490⟩, ⟨kh P s68, .str s68 779, r 497⟩, ⟨kh P s69, .str s69 787, r 504⟩, ⟨kh P s38, .str s38 788, r 505⟩] 12, #[]⟩
def o445 : Obj := tu #[] 0
def o446 : Obj := ⟨.none, none, .fields #[i 190, i 4, r 454, i 193, i 4, r 461, i 196, i 4, r 468, i 199, i 4, r 475, i 202, i 4, r 482, i 205, i 4, r 489, i 208, i 4, r 496, i 211, i 4, r 503], #[]⟩
def o447 : Obj := co #[.str s87 715, .str s87 716, .str s1 717, i 188, i 0, i 0, i 0, i 0, r 445, .bool false, i 181, r 446, .none, .none, .none, .none, i 718, i 188, .str s1 719]
def o448 : Obj := ⟨.type q0, none, .plain, #[some (r 447), some (r 3), some (r 444), none, some (.str s4 306), none, some (r 0)]⟩
def o449 : Obj := tu #[] 0
def o450 : Obj := ⟨.none, none, .fields #[], #[]⟩
def o451 : Obj := tu #[.str s53 728] 0
def o452 : Obj := tu #[] 0
def o453 : Obj := f0 s63 s122 (L2.inClass (topT 24) 0)
def o454 : Obj := co #[.str s63 725, .str s122 726, .str s1 727, i 190, i 1, i 0, i 0, i 3, r 449, .bool true, i 181, r 450, .none, r 451, r 452, r 453, i 729, i 190, .str s1 730]
def o455 : Obj := fo s63 s122 (L2.inClass (topT 24) 0) (.str s4 306) (r 454)
def o456 : Obj := tu #[] 0
def o457 : Obj := ⟨.none, none, .fields #[], #[]⟩
def o458 : Obj := tu #[.str s53 735] 0
def o459 : Obj := tu #[] 0
def o460 : Obj := f0 s64 s123 (L2.inClass (topT 24) 1)
def o461 : Obj := co #[.str s64 732, .str s123 733, .str s1 734, i 193, i 1, i 0, i 0, i 3, r 456, .bool true, i 181, r 457, .none, r 458, r 459, r 460, i 736, i 193, .str s1 737]
def o462 : Obj := fo s64 s123 (L2.inClass (topT 24) 1) (.str s4 306) (r 461)
def o463 : Obj := tu #[] 0
def o464 : Obj := ⟨.none, none, .fields #[], #[]⟩
def o465 : Obj := tu #[.str s53 742] 0
def o466 : Obj := tu #[] 0
def o467 : Obj := f0 s42 s124 (L2.inClass (topT 24) 2)
def o468 : Obj := co #[.str s42 739, .str s124 740, .str s1 741, i 196, i 1, i 0, i 0, i 3, r 463, .bool true, i 181, r 464, .none, r 465, r 466, r 467, i 743, i 196, .str s1 744]
def o469 : Obj := fo s42 s124 (L2.inClass (topT 24) 2) (.str s4 306) (r 468)
def o470 : Obj := tu #[] 0
def o471 : Obj := ⟨.none, none, .fields #[], #[]⟩
def o472 : Obj := tu #[.str s53 749, .str s60 750, .str s73 751] 0
def o473 : Obj := tu #[] 0
def o474 : Obj := f0 s65 s125 (L2.inClass (topT 24) 3)
def o475 : Obj := co #[.str s65 746, .str s125 747, .str s1 748, i 199, i 3, i 0, i 0, i 3, r 470, .bool true, i 181, r 471, .none, r 472, r 473, r 474, i 752, i 199, .str s1 753]
def o476 : Obj := fo s65 s125 (L2.inClass (topT 24) 3) (.str s4 306) (r 475)
def o477 : Obj := tu #[] 0
def o478 : Obj := ⟨.none, none, .fields #[], #[]⟩
def o479 : Obj := tu #[.str s53 758, .str s60 759, .str s73 760] 0
def o480 : Obj := tu #[] 0
def o481 : Obj := f0 s66 s126 (L2.inClass (topT 24) 4)
def o482 : Obj := co #[.str s66 755, .str s126 756, .str s1 757, i 202, i 3, i 0, i 0, i 3, r 477, .bool true, i 181, r 478, .none, r 479, r 480, r 481, i 761, i 202, .str s1 762]
def o483 : Obj := fo s66 s126 (L2.inClass (topT 24) 4) (.str s4 306) (r 482)
def o484 : Obj := tu #[] 0
def o485 : Obj := ⟨.none, none, .fields #[], #[]⟩
def o486 : Obj := tu #[.str s53 767, .str s40 768] 0
def o487 : Obj := tu #[] 0
def o488 : Obj := f0 s67 s127 (L2.inClass (topT 24) 5)
def o489 : Obj := co #[.str s67 764, .str s127 765, .str s1 766, i 205, i 2, i 0, i 0, i 3, r 484, .bool true, i 181, r 485, .none, r 486, r 487, r 488, i 769, i 205, .str s1 770]
def o490 : Obj := fo s67 s127 (L2.inClass (topT 24) 5) (.str s4 306) (r 489)
def o491 : Obj := tu #[] 0
def o492 : Obj := ⟨.none, none, .fields #[], #[]⟩
def o493 : Obj := tu #[.str s53 775, .str s60 776] 0
def o494 : Obj := tu #[] 0
def o495 : Obj := f0 s68 s128 (L2.inClass (topT 24) 6)
def o496 : Obj := co #[.str s68 772, .str s128 773, .str s1 774, i 208, i 2, i 0, i 0, i 3, r 491, .bool true, i 181, r 492, .none, r 493, r 494, r 495, i 777, i 208, .str s1 778]
def o497 : Obj := fo s68 s128 (L2.inClass (topT 24) 6) (.str s4 306) (r 496)
def o498 : Obj := tu #[] 0
def o499 : Obj := ⟨.none, none, .fields #[], #[]⟩
def o500 : Obj := tu #[.str s53 783, .str s49 784] 0
def o501 : Obj := tu #[] 0
def o502 : Obj := f0 s69 s129 (L2.inClass (topT 24) 7)
def o503 : Obj := co #[.str s69 780, .str s129 781, .str s1 782, i 211, i 2, i 0, i 0, i 3, r 498, .bool true, i 181, r 499, .none, r 500, r 501, r 502, i 785, i 211, .str s1 786]
def o504 : Obj := fo s69 s129 (L2.inClass (topT 24) 7) (.str s4 306) (r 503)
def o505 : Obj := tu #[] 0
def o506 (P : Params) : Obj := ⟨.type q1, none, .dict #[⟨kh P s34, .str s34 720, .str s4 306⟩, ⟨kh P s37, .str s37 724, .int 188 723⟩, ⟨kh P s63, .str s63 731, r 455⟩, ⟨kh P s64, .str s64 738, r 462⟩, ⟨kh P s42, .str s42 745, r 469⟩, ⟨kh P s65, .str s65 754, r 476⟩, ⟨kh P s66, .str s66 763, r 483⟩, ⟨kh P s67, .str s67 771, r 490⟩, ⟨kh P s68, .str s68 779, r 497⟩, ⟨kh P s69, .str s69 787, r 504⟩, ⟨kh P s38, .str s38 788, r 505⟩, ⟨kh P s5, .str s5 789, .none⟩] 2, #[]⟩
def o507 : Obj := ⟨.type q5, none, .cls ⟨s87, [r 200], [r 507, r 200, r 132, .type q8], 506, s87, true, [], [], false, none, false⟩, #[some (r 442), none, some (.str s87 713), some (.str s87 721), some (.builtin q13), some (.bool true)]⟩
def o508 : Obj := ⟨.type q11, none, .fields #[r 507, r 507, r 507], #[]⟩
def o509 : Obj := ⟨.type q3, none, .fields #[.builtin q12, r 507], #[]⟩
def o510 : Obj := tu #[] 0
def o511 : Obj := ⟨.none, none, .fields #[], #[]⟩
def o512 : Obj := tu #[.str s49 795, .str s80 796] 0
def o513 : Obj := tu #[] 0
def o514 : Obj := f0 s88 s88 (topT 25)
def o515 : Obj := co #[.str s88 792, .str s88 793, .str s1 794, i 218, i 1, i 0, i 0, i 3, r 510, .bool true, i 181, r 511, .none, r 512, r 513, r 514, i 797, i 218, .str s1 798]
def o516 : Obj := fo s88 s88 (topT 25) (.str s4 306) (r 515)
def o517 : Obj := tu #[] 0
def o518 : Obj := ⟨.none, none, .fields #[], #[]⟩
def o519 : Obj := tu #[.str s49 803] 0
def o520 : Obj := tu #[] 0
def o521 : Obj := f0 s89 s89 (topT 26)
def o522 : Obj := co #[.str s89 800, .str s89 801, .str s1 802, i 223, i 1, i 0, i 0, i 3, r 517, .bool true, i 181, r 518, .none, r 519, r 520, r 521, i 804, i 223, .str s1 805]
def o523 : Obj := fo s89 s89 (topT 26) (.str s4 306) (r 522)
def o524 : Obj := tu #[] 0
def o525 : Obj := ⟨.none, none, .fields #[], #[]⟩
def o526 : Obj := tu #[.str s130 812] 0
def o527 : Obj := tu #[] 0
def o528 : Obj := f0 s90 s90 (topT 28)
def o529 : Obj := co #[.str s90 809, .str s90 810, .str s1 811, i 234, i 1, i 0, i 0, i 3, r 524, .bool true, i 181, r 525, .none, r 526, r 527, r 528, i 813, i 234, .str s1 814]
def o530 : Obj := fo s90 s90 (topT 28) (.str s84 807) (r 529)
def o531 : Obj := tu #[] 0
def o532 : Obj := ⟨.none, none, .fields #[], #[]⟩
def o533 : Obj := tu #[.str s131 819, .str s132 820] 0
def o534 : Obj := tu #[] 0
def o535 : Obj := f0 s91 s91 (topT 29)
def o536 : Obj := co #[.str s91 816, .str s91 817, .str s1 818, i 236, i 2, i 0, i 0, i 3, r 531, .bool true, i 181, r 532, .none, r 533, r 534, r 535, i 821, i 236, .str s1 822]
def o537 : Obj := fo s91 s91 (topT 29) (.str s84 807) (r 536)
def o538 : Obj := tu #[] 0
def o539 : Obj := ⟨.none, none, .fields #[], #[]⟩
def o540 : Obj := tu #[.str s133 827] 0
def o541 : Obj := tu #[] 0
def o542 : Obj := f0 s92 s92 (topT 30)
def o543 : Obj := co #[.str s92 824, .str s92 825, .str s1 826, i 240, i 1, i 0, i 0, i 3, r 538, .bool true, i 181, r 539, .none, r 540, r 541, r 542, i 828, i 240, .str s1 829]
def o544 : Obj := fo s92 s92 (topT 30) (.str s84 807) (r 543)
def o545 : Obj := tu #[] 0
def o546 : Obj := ⟨.none, none, .fields #[], #[]⟩
def o547 : Obj := tu #[.str s134 834, .str s135 835] 0
def o548 : Obj := tu #[] 0
def o549 : Obj := f0 s93 s93 (topT 31)
def o550 : Obj := co #[.str s93 831, .str s93 832, .str s1 833, i 246, i 1, i 0, i 0, i 3, r 545, .bool true, i 181, r 546, .none, r 547, r 548, r 549, i 836, i 246, .str s1 837]
def o551 : Obj := fo s93 s93 (topT 31) (.str s84 807) (r 550)
def o552 : Obj := tu #[] 0
def o553 : Obj := ⟨.none, none, .fields #[], #[]⟩
def o554 : Obj := tu #[.str s133 842, .str s136 843, .str s134 844, .str s137 845] 0
def o555 : Obj := tu #[] 0
def o556 : Obj := f0 s94 s94 (topT 32)
def o557 : Obj := co #[.str s94 839, .str s94 840, .str s1 841, i 255, i 1, i 0, i 0, i 3, r 552, .bool true, i 181, r 553, .none, r 554, r 555, r 556, i 846, i 255, .str s1 847]
def o558 : Obj := fo s94 s94 (topT 32) (.str s84 807) (r 557)
def o559 : Obj := tu #[] 0
def o560 : Obj := ⟨.none, none, .fields #[], #[]⟩
def o561 : Obj := tu #[.str s138 852, .str s139 853, .str s140 854] 0
def o562 : Obj := tu #[] 0
def o563 : Obj := f0 s95 s95 (topT 33)
def o564 : Obj := co #[.str s95 849, .str s95 850, .str s1 851, i 269, i 1, i 0, i 0, i 3, r 559, .bool true, i 181, r 560, .none, r 561, r 562, r 563, i 855, i 269, .str s1 856]
def o565 : Obj := fo s95 s95 (topT 33) (.str s84 807) (r 564)
def o566 : Obj := tu #[] 0
def o567 : Obj := ⟨.none, none, .fields #[], #[]⟩
def o568 : Obj := tu #[.str s138 861, .str s141 862] 0
def o569 : Obj := tu #[] 0
def o570 : Obj := f0 s96 s96 (topT 34)
def o571 : Obj := co #[.str s96 858, .str s96 859, .str s1 860, i 283, i 1, i 0, i 0, i 3, r 566, .bool true, i 181, r 567, .none, r 568, r 569, r 570, i 863, i 283, .str s1 864]
def o572 : Obj := fo s96 s96 (topT 34) (.str s84 807) (r 571)
def o573 : Obj := tu #[] 0
def o574 : Obj := ⟨.none, none, .fields #[], #[]⟩
def o575 : Obj := f0 s97 s97 (topT 35)
def o576 : Obj := co #[.str s97 866, .str s97 867, .str s1 868, i 291, i 2, i 0, i 0, i 3, r 573, .bool true, i 181, r 574, .none, .none, .none, r 575, i 869, i 291, .str s1 870]
def o577 : Obj := fo s97 s97 (topT 35) (.str s84 807) (r 576)
def o578 : Obj := tu #[] 0
def o579 : Obj := ⟨.none, none, .fields #[], #[]⟩
def o580 : Obj := tu #[.str s133 875, .str s131 876, .str s132 877, .str s137 878] 0
def o581 : Obj := tu #[] 0
def o582 : Obj := f0 s98 s98 (topT 36)
def o583 : Obj := co #[.str s98 872, .str s98 873, .str s1 874, i 296, i 1, i 0, i 0, i 3, r 578, .bool true, i 181, r 579, .none, r 580, r 581, r 582, i 879, i 296, .str s1 880]
def o584 : Obj := fo s98 s98 (topT 36) (.str s84 807) (r 583)
def o585 : Obj := tu #[] 0
def o586 : Obj := ⟨.none, none, .fields #[], #[]⟩
def o587 : Obj := tu #[.str s136 885, .str s142 886, .str s143 887] 0
def o588 : Obj := tu #[] 0
def o589 : Obj := f0 s99 s99 (topT 37)
def o590 : Obj := co #[.str s99 882, .str s99 883, .str s1 884, i 302, i 3, i 0, i 0, i 3, r 585, .bool true, i 181, r 586, .none, r 587, r 588, r 589, i 888, i 302, .str s1 889]
def o591 : Obj := fo s99 s99 (topT 37) (.str s84 807) (r 590)
def o592 : Obj := tu #[] 0
def o593 : Obj := ⟨.none, none, .fields #[], #[]⟩
def o594 : Obj := tu #[.str s144 894, .str s145 895, .str s146 896, .str s138 897, .str s136 898, .str s147 899, .str s142 900, .str s148 901, .str s143 902, .str s130 903] 0
def o595 : Obj := tu #[] 0
def o596 : Obj := f0 s100 s100 (topT 38)
def o597 : Obj := co #[.str s100 891, .str s100 892, .str s1 893, i 312, i 1, i 0, i 0, i 3, r 592, .bool true, i 181, r 593, .none, r 594, r 595, r 596, i 904, i 312, .str s1 905]
def o598 : Obj := fo s100 s100 (topT 38) (.str s84 807) (r 597)
def envT : Env := { scope := Fast.tw9737080143819961485.main.scope, locals := mainNs, globals := mainNs, cells := [], code := (r 13), frame := some 14 }
def cT : Code := .body (behindTheImports Fast.tw9737080143819961485) envT
def qP : Pos := ⟨0, 0, 0, 0⟩
def Ha (P : Params) : Heap := ⟨⟨[boot_o_0 P, boot_o_1 P, boot_o_2 P, boot_o_3 P, boot_o_4 P, boot_o_5 P, boot_o_6 P, boot_o_7 P, boot_o_8 P, boot_o_9 P, boot_o_10 P, o11a, o12a, o13a, o14a]⟩, PySem.Life.mk [] [] [] 0 [] [] false #[] [] 0 false false false 0 [2000, 10, 10] false 0 true [] [] 0 false⟩
def Sa (w : World) (os : OsState) : Shared := ⟨Ha w.params, ⟨[]⟩, PySem.Drawn.mk 0 0 0 0, 187, os⟩
def Tb (P : Params) : BT := (nd (boot_o_0 P) (nd (boot_o_1 P) (nd (boot_o_3 P) (lf (boot_o_7 P)) (lf o11a)) (nd (boot_o_5 P) (lf (boot_o_9 P)) (lf o13a))) (nd (boot_o_2 P) (nd (boot_o_4 P) (lf (boot_o_8 P)) (lf o12a)) (nd (boot_o_6 P) (lf (boot_o_10 P)) (lf o14a))))
def Sb (w : World) (os : OsState) : SharedT := ⟨Tb w.params, 15, PySem.Life.mk [] [] [] 0 [] [] false #[] [] 0 false false false 0 [2000, 10, 10] false 0 true [] [] 0 false, ⟨[]⟩, PySem.Drawn.mk 0 0 0 0, 187, os⟩
def T0 (P : Params) : BT := (nd (boot_o_0 P) (nd (boot_o_1 P) (nd (o3_0 P) (nd (boot_o_7 P) (nd o15 (nd o31 (nd o63 (nd o127 (lf o255) nl) (lf o191)) (nd o95 (lf (o159 P)) (lf o223))) (nd o47 (nd (o79 P) (nd o143 (lf o271) nl) (lf o207)) (nd o111 (lf o175) (lf o239)))) (nd o23 (nd o39 (nd o71 (nd o135 (lf o263) nl) (lf (o199 P))) (nd o103 (lf o167) (lf o231))) (nd (o55 P) (nd o87 (nd o151 (lf o279) nl) (lf o215)) (nd o119 (lf o183) (lf o247))))) (nd o11a (nd o19 (nd o35 (nd (o67 P) (nd (o131 P) (lf o259) nl) (lf o195)) (nd o99 (lf o163) (lf o227))) (nd o51 (nd o83 (nd o147 (lf o275) nl) (lf o211)) (nd o115 (lf o179) (lf o243)))) (nd o27 (nd (o43 P) (nd o75 (nd (o139 P) (lf o267) nl) (lf o203)) (nd o107 (lf o171) (lf o235))) (nd o59 (nd o91 (nd o155 (lf o283) nl) (lf o219)) (nd o123 (lf o187) (lf o251)))))) (nd (boot_o_5 P) (nd (boot_o_9 P) (nd o17 (nd o33 (nd o65 (nd o129 (lf o257) nl) (lf o193)) (nd o97 (lf o161) (lf o225))) (nd (o49 P) (nd o81 (nd o145 (lf o273) nl) (lf o209)) (nd o113 (lf o177) (lf o241)))) (nd o25 (nd o41 (nd (o73 P) (nd o137 (lf o265) nl) (lf o201)) (nd o105 (lf o169) (lf o233))) (nd o57 (nd o89 (nd o153 (lf (o281 P)) nl) (lf o217)) (nd o121 (lf o185) (lf o249))))) (nd o13a (nd o21 (nd (o37 P) (nd o69 (nd o133 (lf o261) nl) (lf o197)) (nd o101 (lf (o165 P)) (lf o229))) (nd o53 (nd o85 (nd o149 (lf o277) nl) (lf o213)) (nd o117 (lf o181) (lf o245)))) (nd o29 (nd o45 (nd o77 (nd o141 (lf o269) nl) (lf (o205 P))) (nd o109 (lf o173) (lf o237))) (nd (o61 P) (nd o93 (lf o157) (lf o221)) (nd (o125 P) (lf o189) (lf o253))))))) (nd (boot_o_2 P) (nd (boot_o_4 P) (nd (boot_o_8 P) (nd o16 (nd o32 (nd o64 (nd o128 (lf o256) nl) (lf o192)) (nd o96 (lf o160_0) (lf o224))) (nd o48 (nd o80 (nd o144 (lf o272) nl) (lf o208)) (nd o112 (lf o176) (lf o240)))) (nd (o24 P) (nd o40 (nd o72 (nd o136 (lf o264) nl) (lf o200_0)) (nd o104 (lf o168) (lf o232))) (nd o56 (nd o88 (nd o152 (lf o280) nl) (lf o216)) (nd o120 (lf o184) (lf o248))))) (nd o12_0 (nd o20 (nd o36 (nd o68 (nd o132 (lf o260) nl) (lf o196)) (nd o100 (lf o164) (lf o228))) (nd o52 (nd o84 (nd o148 (lf o276) nl) (lf o212)) (nd o116 (lf o180) (lf o244)))) (nd o28 (nd o44 (nd o76 (nd o140 (lf o268) nl) (lf o204)) (nd o108 (lf o172) (lf o236))) (nd o60 (nd o92 (nd o156 (lf o284) nl) (lf o220)) (nd o124 (lf o188) (lf o252)))))) (nd (boot_o_6 P) (nd (boot_o_10 P) (nd o18 (nd o34 (nd o66 (nd o130 (lf o258) nl) (lf o194)) (nd o98 (lf o162) (lf o226))) (nd o50 (nd o82 (nd o146 (lf o274) nl) (lf o210)) (nd o114 (lf o178) (lf o242)))) (nd o26 (nd o42 (nd o74 (nd o138 (lf o266) nl) (lf o202)) (nd o106 (lf o170) (lf o234))) (nd o58 (nd o90 (nd o154 (lf o282) nl) (lf o218)) (nd o122 (lf o186) (lf o250))))) (nd o14a (nd o22 (nd o38 (nd o70 (nd o134 (lf o262) nl) (lf o198)) (nd o102 (lf o166) (lf o230))) (nd o54 (nd o86 (nd o150 (lf o278) nl) (lf o214)) (nd o118 (lf o182) (lf o246)))) (nd (o30 P) (nd o46 (nd o78 (nd o142 (lf o270) nl) (lf o206)) (nd o110 (lf o174) (lf o238))) (nd o62 (nd o94 (lf o158) (lf o222)) (nd o126 (lf o190) (lf o254))))))))
def S0 (w : World) (os : OsState) : SharedT := ⟨T0 w.params, 285, PySem.Life.mk [] [] [] 0 [] [] false #[] [] 0 false false false 0 [2000, 10, 10] false 0 true [] [] 0 false, ⟨[]⟩, PySem.Drawn.mk 0 0 0 0, 528, os⟩
def T1 (P : Params) : BT := (nd (boot_o_0 P) (nd (boot_o_1 P) (nd (o3_1 P) (nd (boot_o_7 P) (nd o15 (nd o31 (nd o63 (nd o127 (nd o255 (lf o511) nl) (lf o383)) (nd o191 (nd o319 (lf o575) nl) (lf o447))) (nd o95 (nd (o159 P) (nd (o287 P) (lf o543) nl) (lf o415)) (nd o223 (lf o351) (lf o479)))) (nd o47 (nd (o79 P) (nd o143 (nd o271 (lf o527) nl) (lf o399)) (nd o207 (nd o335 (lf o591) nl) (lf o463))) (nd o111 (nd o175 (nd o303 (lf o559) nl) (lf o431)) (nd o239 (lf o367) (lf o495))))) (nd o23 (nd o39 (nd o71 (nd o135 (nd o263 (lf o519) nl) (lf o391)) (nd (o199 P) (nd o327 (lf o583) nl) (lf o455))) (nd o103 (nd o167 (nd o295 (lf o551) nl) (lf o423)) (nd o231 (lf o359) (lf o487)))) (nd (o55 P) (nd o87 (nd o151 (nd o279 (lf o535) nl) (lf o407)) (nd o215 (lf o343) (lf o471))) (nd o119 (nd o183 (nd o311 (lf o567) nl) (lf o439)) (nd o247 (lf o375) (lf o503)))))) (nd o11a (nd o19 (nd o35 (nd (o67 P) (nd (o131 P) (nd o259 (lf o515) nl) (lf o387)) (nd o195 (nd o323 (lf o579) nl) (lf o451))) (nd o99 (nd o163 (nd o291 (lf o547) nl) (lf o419)) (nd o227 (lf o355) (lf o483)))) (nd o51 (nd o83 (nd o147 (nd o275 (lf o531) nl) (lf o403)) (nd o211 (nd o339 (lf o595) nl) (lf o467))) (nd o115 (nd o179 (nd o307 (lf o563) nl) (lf o435)) (nd o243 (lf o371) (lf o499))))) (nd o27 (nd (o43 P) (nd o75 (nd (o139 P) (nd o267 (lf o523) nl) (lf o395)) (nd o203 (nd o331 (lf o587) nl) (lf o459))) (nd o107 (nd o171 (nd o299 (lf o555) nl) (lf o427)) (nd o235 (lf o363) (lf o491)))) (nd o59 (nd o91 (nd o155 (nd o283 (lf o539) nl) (lf o411)) (nd o219 (lf o347) (lf o475))) (nd o123 (nd o187 (nd o315 (lf o571) nl) (lf o443)) (nd o251 (lf o379) (lf o507))))))) (nd (boot_o_5 P) (nd (boot_o_9 P) (nd o17 (nd o33 (nd o65 (nd o129 (nd o257 (lf o513) nl) (lf o385)) (nd o193 (nd o321 (lf o577) nl) (lf o449))) (nd o97 (nd o161 (nd o289 (lf o545) nl) (lf o417)) (nd o225 (lf o353) (lf o481)))) (nd (o49 P) (nd o81 (nd o145 (nd o273 (lf o529) nl) (lf o401)) (nd o209 (nd o337 (lf o593) nl) (lf o465))) (nd o113 (nd o177 (nd o305 (lf o561) nl) (lf o433)) (nd o241 (lf o369) (lf o497))))) (nd o25 (nd o41 (nd (o73 P) (nd o137 (nd o265 (lf o521) nl) (lf o393)) (nd o201 (nd o329 (lf o585) nl) (lf o457))) (nd o105 (nd o169 (nd o297 (lf o553) nl) (lf o425)) (nd o233 (lf o361) (lf o489)))) (nd o57 (nd o89 (nd o153 (nd (o281 P) (lf o537) nl) (lf o409)) (nd o217 (lf o345) (lf o473))) (nd o121 (nd o185 (nd o313 (lf o569) nl) (lf o441)) (nd o249 (lf o377) (lf o505)))))) (nd o13a (nd o21 (nd (o37 P) (nd o69 (nd o133 (nd o261 (lf o517) nl) (lf o389)) (nd o197 (nd o325 (lf o581) nl) (lf o453))) (nd o101 (nd (o165 P) (nd o293 (lf o549) nl) (lf o421)) (nd o229 (lf o357) (lf o485)))) (nd o53 (nd o85 (nd o149 (nd o277 (lf o533) nl) (lf o405)) (nd o213 (nd o341 (lf o597) nl) (lf o469))) (nd o117 (nd o181 (nd o309 (lf o565) nl) (lf o437)) (nd o245 (lf o373) (lf o501))))) (nd o29 (nd o45 (nd o77 (nd o141 (nd o269 (lf o525) nl) (lf o397)) (nd (o205 P) (nd o333 (lf o589) nl) (lf o461))) (nd o109 (nd o173 (nd o301 (lf o557) nl) (lf o429)) (nd o237 (lf o365) (lf o493)))) (nd (o61 P) (nd o93 (nd o157 (nd o285 (lf o541) nl) (lf o413)) (nd o221 (lf o349) (lf o477))) (nd (o125 P) (nd o189 (nd o317 (lf o573) nl) (lf o445)) (nd o253 (lf o381) (lf o509)))))))) (nd (boot_o_2 P) (nd (boot_o_4 P) (nd (boot_o_8 P) (nd o16 (nd o32 (nd o64 (nd o128 (nd o256 (lf o512) nl) (lf o384)) (nd o192 (nd o320 (lf o576) nl) (lf o448))) (nd o96 (nd o160_1 (nd o288 (lf o544) nl) (lf o416)) (nd o224 (lf o352) (lf o480)))) (nd o48 (nd o80 (nd o144 (nd o272 (lf o528) nl) (lf o400)) (nd o208 (nd o336 (lf o592) nl) (lf o464))) (nd o112 (nd o176 (nd o304 (lf o560) nl) (lf o432)) (nd o240 (lf o368) (lf o496))))) (nd (o24 P) (nd o40 (nd o72 (nd o136 (nd o264 (lf o520) nl) (lf o392)) (nd o200_1 (nd o328 (lf o584) nl) (lf o456))) (nd o104 (nd o168 (nd o296 (lf o552) nl) (lf o424)) (nd o232 (lf o360) (lf o488)))) (nd o56 (nd o88 (nd o152 (nd o280 (lf o536) nl) (lf o408)) (nd o216 (lf o344) (lf o472))) (nd o120 (nd o184 (nd o312 (lf o568) nl) (lf o440)) (nd o248 (lf (o376 P)) (lf o504)))))) (nd o12_1 (nd o20 (nd o36 (nd o68 (nd o132 (nd o260 (lf o516) nl) (lf o388)) (nd o196 (nd o324 (lf o580) nl) (lf o452))) (nd o100 (nd o164 (nd o292 (lf o548) nl) (lf o420)) (nd o228 (lf o356) (lf o484)))) (nd o52 (nd o84 (nd o148 (nd o276 (lf o532) nl) (lf o404)) (nd o212 (nd o340 (lf o596) nl) (lf o468))) (nd o116 (nd o180 (nd o308 (lf o564) nl) (lf o436)) (nd o244 (lf o372) (lf o500))))) (nd o28 (nd o44 (nd o76 (nd o140 (nd o268 (lf o524) nl) (lf o396)) (nd o204 (nd o332 (lf o588) nl) (lf o460))) (nd o108 (nd o172 (nd o300 (lf o556) nl) (lf o428)) (nd o236 (lf o364) (lf o492)))) (nd o60 (nd o92 (nd o156 (nd o284 (lf o540) nl) (lf o412)) (nd o220 (lf o348) (lf o476))) (nd o124 (nd o188 (nd o316 (lf o572) nl) (lf (o444 P))) (nd o252 (lf o380) (lf o508))))))) (nd (boot_o_6 P) (nd (boot_o_10 P) (nd o18 (nd o34 (nd o66 (nd o130 (nd o258 (lf o514) nl) (lf o386)) (nd o194 (nd o322 (lf o578) nl) (lf o450))) (nd o98 (nd o162 (nd o290 (lf o546) nl) (lf o418)) (nd o226 (lf o354) (lf o482)))) (nd o50 (nd o82 (nd o146 (nd o274 (lf o530) nl) (lf o402)) (nd o210 (nd o338 (lf o594) nl) (lf o466))) (nd o114 (nd o178 (nd o306 (lf o562) nl) (lf o434)) (nd o242 (lf (o370 P)) (lf o498))))) (nd o26 (nd o42 (nd o74 (nd o138 (nd o266 (lf o522) nl) (lf o394)) (nd o202 (nd o330 (lf o586) nl) (lf o458))) (nd o106 (nd o170 (nd o298 (lf o554) nl) (lf o426)) (nd o234 (lf o362) (lf o490)))) (nd o58 (nd o90 (nd o154 (nd o282 (lf o538) nl) (lf o410)) (nd o218 (lf o346) (lf o474))) (nd o122 (nd o186 (nd o314 (lf o570) nl) (lf o442)) (nd o250 (lf o378) (lf (o506 P))))))) (nd o14a (nd o22 (nd o38 (nd o70 (nd o134 (nd o262 (lf o518) nl) (lf o390)) (nd o198 (nd o326 (lf o582) nl) (lf o454))) (nd o102 (nd o166 (nd o294 (lf o550) nl) (lf o422)) (nd o230 (lf o358) (lf o486)))) (nd o54 (nd o86 (nd o150 (nd o278 (lf o534) nl) (lf o406)) (nd o214 (nd o342 (lf o598) nl) (lf o470))) (nd o118 (nd o182 (nd o310 (lf o566) nl) (lf (o438 P))) (nd o246 (lf o374) (lf o502))))) (nd (o30 P) (nd o46 (nd o78 (nd o142 (nd o270 (lf o526) nl) (lf o398)) (nd o206 (nd o334 (lf o590) nl) (lf o462))) (nd o110 (nd o174 (nd o302 (lf o558) nl) (lf o430)) (nd o238 (lf o366) (lf o494)))) (nd o62 (nd o94 (nd o158 (nd o286 (lf o542) nl) (lf o414)) (nd o222 (lf o350) (lf o478))) (nd o126 (nd o190 (nd o318 (lf o574) nl) (lf o446)) (nd o254 (lf o382) (lf o510)))))))))
def S1 (w : World) (os : OsState) : SharedT := ⟨T1 w.params, 599, PySem.Life.mk [] [] [] 0 [] [] false #[] [] 0 false false false 0 [2000, 10, 10] false 0 true [] [] 0 false, ⟨[]⟩, PySem.Drawn.mk 0 0 0 0, 907, os⟩
def Hf (P : Params) : Heap := ⟨⟨[boot_o_0 P, boot_o_1 P, boot_o_2 P, o3_1 P, boot_o_4 P, boot_o_5 P, boot_o_6 P, boot_o_7 P, boot_o_8 P, boot_o_9 P, boot_o_10 P, o11a, o12_1, o13a, o14a, o15, o16, o17, o18, o19, o20, o21, o22, o23, o24 P, o25, o26, o27, o28, o29, o30 P, o31, o32, o33, o34, o35, o36, o37 P, o38, o39, o40, o41, o42, o43 P, o44, o45, o46, o47, o48, o49 P, o50, o51, o52, o53, o54, o55 P, o56, o57, o58, o59, o60, o61 P, o62, o63, o64, o65, o66, o67 P, o68, o69, o70, o71, o72, o73 P, o74, o75, o76, o77, o78, o79 P, o80, o81, o82, o83, o84, o85, o86, o87, o88, o89, o90, o91, o92, o93, o94, o95, o96, o97, o98, o99, o100, o101, o102, o103, o104, o105, o106, o107, o108, o109, o110, o111, o112, o113, o114, o115, o116, o117, o118, o119, o120, o121, o122, o123, o124, o125 P, o126, o127, o128, o129, o130, o131 P, o132, o133, o134, o135, o136, o137, o138, o139 P, o140, o141, o142, o143, o144, o145, o146, o147, o148, o149, o150, o151, o152, o153, o154, o155, o156, o157, o158, o159 P, o160_1, o161, o162, o163, o164, o165 P, o166, o167, o168, o169, o170, o171, o172, o173, o174, o175, o176, o177, o178, o179, o180, o181, o182, o183, o184, o185, o186, o187, o188, o189, o190, o191, o192, o193, o194, o195, o196, o197, o198, o199 P, o200_1, o201, o202, o203, o204, o205 P, o206, o207, o208, o209, o210, o211, o212, o213, o214, o215, o216, o217, o218, o219, o220, o221, o222, o223, o224, o225, o226, o227, o228, o229, o230, o231, o232, o233, o234, o235, o236, o237, o238, o239, o240, o241, o242, o243, o244, o245, o246, o247, o248, o249, o250, o251, o252, o253, o254, o255, o256, o257, o258, o259, o260, o261, o262, o263, o264, o265, o266, o267, o268, o269, o270, o271, o272, o273, o274, o275, o276, o277, o278, o279, o280, o281 P, o282, o283, o284, o285, o286, o287 P, o288, o289, o290, o291, o292, o293, o294, o295, o296, o297, o298, o299, o300, o301, o302, o303, o304, o305, o306, o307, o308, o309, o310, o311, o312, o313, o314, o315, o316, o317, o318, o319, o320, o321, o322, o323, o324, o325, o326, o327, o328, o329, o330, o331, o332, o333, o334, o335, o336, o337, o338, o339, o340, o341, o342, o343, o344, o345, o346, o347, o348, o349, o350, o351, o352, o353, o354, o355, o356, o357, o358, o359, o360, o361, o362, o363, o364, o365, o366, o367, o368, o369, o370 P, o371, o372, o373, o374, o375, o376 P, o377, o378, o379, o380, o381, o382, o383, o384, o385, o386, o387, o388, o389, o390, o391, o392, o393, o394, o395, o396, o397, o398, o399, o400, o401, o402, o403, o404, o405, o406, o407, o408, o409, o410, o411, o412, o413, o414, o415, o416, o417, o418, o419, o420, o421, o422, o423, o424, o425, o426, o427, o428, o429, o430, o431, o432, o433, o434, o435, o436, o437, o438 P, o439, o440, o441, o442, o443, o444 P, o445, o446, o447, o448, o449, o450, o451, o452, o453, o454, o455, o456, o457, o458, o459, o460, o461, o462, o463, o464, o465, o466, o467, o468, o469, o470, o471, o472, o473, o474, o475, o476, o477, o478, o479, o480, o481, o482, o483, o484, o485, o486, o487, o488, o489, o490, o491, o492, o493, o494, o495, o496, o497, o498, o499, o500, o501, o502, o503, o504, o505, o506 P, o507, o508, o509, o510, o511, o512, o513, o514, o515, o516, o517, o518, o519, o520, o521, o522, o523, o524, o525, o526, o527, o528, o529, o530, o531, o532, o533, o534, o535, o536, o537, o538, o539, o540, o541, o542, o543, o544, o545, o546, o547, o548, o549, o550, o551, o552, o553, o554, o555, o556, o557, o558, o559, o560, o561, o562, o563, o564, o565, o566, o567, o568, o569, o570, o571, o572, o573, o574, o575, o576, o577, o578, o579, o580, o581, o582, o583, o584, o585, o586, o587, o588, o589, o590, o591, o592, o593, o594, o595, o596, o597, o598]⟩, PySem.Life.mk [] [] [] 0 [] [] false #[] [] 0 false false false 0 [2000, 10, 10] false 0 true [] [] 0 false⟩
def Sf (w : World) (os : OsState) : Shared := ⟨Hf w.params, ⟨[]⟩, PySem.Drawn.mk 0 0 0 0, 907, os⟩
theorem pre_ (w : World) (os : OsState) : topGo treeTable Fast.tw9737080143819961485 w 11 ((some (r 6))) 12 ⟨boot_heap w.params, ⟨[]⟩, boot_drawn, boot_toks, os⟩ (topStub Fast.tw9737080143819961485) = some (Sa w os, ⟨denote treeTable cT, cT, ⟨0, 0, 0, 0⟩, [topFrame qP]⟩) := by (try rw [Fast.te15667345088766844465]); (try rw [Fast.te14082659384304107361]); (try rw [Fast.te14374325043358763698]); (try rw [Fast.te10110043849684766642]); (try rw [Fast.te14364793385576792824]); (try rw [Fast.te11892475500146522536]); (try rw [Fast.te4187177175401517315]); (try rw [Fast.te5923862056798008813]); (try rw [Fast.te8920871248978507458]); kernel_rfl
theorem block_ (w : World) (os : OsState) : segRun treeTable Fast.tw9737080143819961485 w 11 ((some (r 6))) 1 1 (Sa w os) (blockOf (behindTheImports Fast.tw9737080143819961485) envT cT ⟨0, 0, 0, 0⟩ [topFrame qP]) = some (.next, (Sb w os).abs, cT, ⟨0, 0, 0, 0⟩) := by (try rw [Fast.te15667345088766844465]); (try rw [Fast.te14082659384304107361]); (try rw [Fast.te14374325043358763698]); (try rw [Fast.te10110043849684766642]); (try rw [Fast.te14364793385576792824]); (try rw [Fast.te11892475500146522536]); (try rw [Fast.te4187177175401517315]); (try rw [Fast.te5923862056798008813]); (try rw [Fast.te8920871248978507458]); kernel_rfl
def sts0 : List Stmt := [topT 0, topT 1, topT 2, topT 3, topT 4, topT 5, topT 6, topT 7, topT 8, topT 9, topT 10, topT 11, topT 12, topT 13, topT 14, topT 15, topT 16, topT 17, topT 18, topT 19, topT 20, topT 21]
theorem pc0 (w : World) (os : OsState) : segRunT treeTable Fast.tw9737080143819961485 w 11 ((some (r 6))) 1 2648 (Sb w os) (piecesOf sts0 envT cT ⟨0, 0, 0, 0⟩ [topFrame qP]) = some (.next, S0 w os, cT, ⟨77, 0, 119, 28⟩) := by (try rw [Fast.te15667345088766844465]); (try rw [Fast.te14082659384304107361]); (try rw [Fast.te14374325043358763698]); (try rw [Fast.te10110043849684766642]); (try rw [Fast.te14364793385576792824]); (try rw [Fast.te11892475500146522536]); (try rw [Fast.te4187177175401517315]); (try rw [Fast.te5923862056798008813]); (try rw [Fast.te8920871248978507458]); kernel_rfl
def sts1 : List Stmt := [topT 22, topT 23, topT 24, topT 25, topT 26, topT 27, topT 28, topT 29, topT 30, topT 31, topT 32, topT 33, topT 34, topT 35, topT 36, topT 37, topT 38]
theorem pc1 (w : World) (os : OsState) : segRunT treeTable Fast.tw9737080143819961485 w 11 ((some (r 6))) 1 1949 (S0 w os) (piecesOf sts1 envT cT ⟨77, 0, 119, 28⟩ [topFrame qP]) = some (.next, S1 w os, cT, ⟨312, 0, 332, 15⟩) := by (try rw [Fast.te15667345088766844465]); (try rw [Fast.te14082659384304107361]); (try rw [Fast.te14374325043358763698]); (try rw [Fast.te10110043849684766642]); (try rw [Fast.te14364793385576792824]); (try rw [Fast.te11892475500146522536]); (try rw [Fast.te4187177175401517315]); (try rw [Fast.te5923862056798008813]); (try rw [Fast.te8920871248978507458]); kernel_rfl
theorem fin_ (w : World) (os : OsState) : topRun treeTable Fast.tw9737080143819961485 w 11 ((some (r 6))) 2 (S1 w os).abs ⟨doneF .next, cT, ⟨312, 0, 332, 15⟩, [topFrame qP]⟩ = some (Sf w os) := by (try rw [Fast.te15667345088766844465]); (try rw [Fast.te14082659384304107361]); (try rw [Fast.te14374325043358763698]); (try rw [Fast.te10110043849684766642]); (try rw [Fast.te14364793385576792824]); (try rw [Fast.te11892475500146522536]); (try rw [Fast.te4187177175401517315]); (try rw [Fast.te5923862056798008813]); (try rw [Fast.te8920871248978507458]); kernel_rfl
theorem body_eq : behindTheImports Fast.tw9737080143819961485 = (sts0 ++ (sts1 ++ [])) := by kernel_rfl
theorem run_ (w : World) (os : OsState) : topRun treeTable Fast.tw9737080143819961485 w 11 ((some (r 6))) (12 + (1 + (2648 + (1949 + 2)))) ⟨boot_heap w.params, ⟨[]⟩, boot_drawn, boot_toks, os⟩ (topStub Fast.tw9737080143819961485) = some (Sf w os) := by
  have h := (piece_app (segRun_of (pc0 w os)) (piece_app (segRun_of (pc1 w os)) (piece_nil (fin_ w os))))
  rw [← body_eq] at h
  exact go_top (pre_ w os) (piece_block (block_ w os) h)
def K (P : Params) : Frag := (nat_lit 2, boot_o_2 P) :: (nat_lit 3, o3_1 P) :: (nat_lit 15, o15) :: (nat_lit 17, o17) :: (nat_lit 18, o18) :: (nat_lit 20, o20) :: (nat_lit 21, o21) :: (nat_lit 22, o22) :: (nat_lit 29, o29) :: (nat_lit 30, o30 P) :: (nat_lit 31, o31) :: (nat_lit 32, o32) :: (nat_lit 35, o35) :: (nat_lit 42, o42) :: (nat_lit 43, o43 P) :: (nat_lit 44, o44) :: (nat_lit 47, o47) :: (nat_lit 54, o54) :: (nat_lit 55, o55 P) :: (nat_lit 56, o56) :: (nat_lit 59, o59) :: (nat_lit 66, o66) :: (nat_lit 67, o67 P) :: (nat_lit 68, o68) :: (nat_lit 71, o71) :: (nat_lit 78, o78) :: (nat_lit 79, o79 P) :: (nat_lit 80, o80) :: (nat_lit 83, o83) :: (nat_lit 85, o85) :: (nat_lit 86, o86) :: (nat_lit 88, o88) :: (nat_lit 89, o89) :: (nat_lit 90, o90) :: (nat_lit 92, o92) :: (nat_lit 93, o93) :: (nat_lit 95, o95) :: (nat_lit 96, o96) :: (nat_lit 97, o97) :: (nat_lit 99, o99) :: (nat_lit 100, o100) :: (nat_lit 102, o102) :: (nat_lit 103, o103) :: (nat_lit 104, o104) :: (nat_lit 107, o107) :: (nat_lit 108, o108) :: (nat_lit 109, o109) :: (nat_lit 111, o111) :: (nat_lit 112, o112) :: (nat_lit 114, o114) :: (nat_lit 115, o115) :: (nat_lit 116, o116) :: (nat_lit 118, o118) :: (nat_lit 119, o119) :: (nat_lit 121, o121) :: (nat_lit 122, o122) :: (nat_lit 130, o130) :: (nat_lit 131, o131 P) :: (nat_lit 132, o132) :: (nat_lit 133, o133) :: (nat_lit 134, o134) :: (nat_lit 137, o137) :: (nat_lit 144, o144) :: (nat_lit 146, o146) :: (nat_lit 147, o147) :: (nat_lit 149, o149) :: (nat_lit 150, o150) :: (nat_lit 151, o151) :: (nat_lit 153, o153) :: (nat_lit 154, o154) :: (nat_lit 156, o156) :: (nat_lit 157, o157) :: (nat_lit 158, o158) :: (nat_lit 159, o159 P) :: (nat_lit 160, o160_1) :: (nat_lit 163, o163) :: (nat_lit 170, o170) :: (nat_lit 172, o172) :: (nat_lit 173, o173) :: (nat_lit 175, o175) :: (nat_lit 176, o176) :: (nat_lit 177, o177) :: (nat_lit 179, o179) :: (nat_lit 180, o180) :: (nat_lit 182, o182) :: (nat_lit 183, o183) :: (nat_lit 184, o184) :: (nat_lit 186, o186) :: (nat_lit 187, o187) :: (nat_lit 189, o189) :: (nat_lit 190, o190) :: (nat_lit 191, o191) :: (nat_lit 193, o193) :: (nat_lit 194, o194) :: (nat_lit 196, o196) :: (nat_lit 197, o197) :: (nat_lit 198, o198) :: (nat_lit 199, o199 P) :: (nat_lit 200, o200_1) :: (nat_lit 203, o203) :: (nat_lit 210, o210) :: (nat_lit 212, o212) :: (nat_lit 213, o213) :: (nat_lit 215, o215) :: (nat_lit 216, o216) :: (nat_lit 217, o217) :: (nat_lit 219, o219) :: (nat_lit 220, o220) :: (nat_lit 222, o222) :: (nat_lit 223, o223) :: (nat_lit 224, o224) :: (nat_lit 226, o226) :: (nat_lit 227, o227) :: (nat_lit 229, o229) :: (nat_lit 230, o230) :: (nat_lit 231, o231) :: (nat_lit 233, o233) :: (nat_lit 234, o234) :: (nat_lit 236, o236) :: (nat_lit 237, o237) :: (nat_lit 238, o238) :: (nat_lit 240, o240) :: (nat_lit 241, o241) :: (nat_lit 243, o243) :: (nat_lit 244, o244) :: (nat_lit 245, o245) :: (nat_lit 247, o247) :: (nat_lit 248, o248) :: (nat_lit 250, o250) :: (nat_lit 251, o251) :: (nat_lit 252, o252) :: (nat_lit 254, o254) :: (nat_lit 255, o255) :: (nat_lit 257, o257) :: (nat_lit 258, o258) :: (nat_lit 259, o259) :: (nat_lit 261, o261) :: (nat_lit 262, o262) :: (nat_lit 264, o264) :: (nat_lit 265, o265) :: (nat_lit 266, o266) :: (nat_lit 268, o268) :: (nat_lit 269, o269) :: (nat_lit 271, o271) :: (nat_lit 272, o272) :: (nat_lit 273, o273) :: (nat_lit 275, o275) :: (nat_lit 276, o276) :: (nat_lit 278, o278) :: (nat_lit 279, o279) :: (nat_lit 280, o280) :: (nat_lit 281, o281 P) :: (nat_lit 282, o282) :: (nat_lit 285, o285) :: (nat_lit 292, o292) :: (nat_lit 294, o294) :: (nat_lit 295, o295) :: (nat_lit 297, o297) :: (nat_lit 298, o298) :: (nat_lit 299, o299) :: (nat_lit 301, o301) :: (nat_lit 302, o302) :: (nat_lit 304, o304) :: (nat_lit 305, o305) :: (nat_lit 306, o306) :: (nat_lit 308, o308) :: (nat_lit 309, o309) :: (nat_lit 311, o311) :: (nat_lit 312, o312) :: (nat_lit 313, o313) :: (nat_lit 315, o315) :: (nat_lit 316, o316) :: (nat_lit 318, o318) :: (nat_lit 319, o319) :: (nat_lit 320, o320) :: (nat_lit 322, o322) :: (nat_lit 323, o323) :: (nat_lit 325, o325) :: (nat_lit 326, o326) :: (nat_lit 327, o327) :: (nat_lit 329, o329) :: (nat_lit 330, o330) :: (nat_lit 332, o332) :: (nat_lit 333, o333) :: (nat_lit 334, o334) :: (nat_lit 336, o336) :: (nat_lit 337, o337) :: (nat_lit 339, o339) :: (nat_lit 340, o340) :: (nat_lit 341, o341) :: (nat_lit 343, o343) :: (nat_lit 344, o344) :: (nat_lit 346, o346) :: (nat_lit 347, o347) :: (nat_lit 348, o348) :: (nat_lit 350, o350) :: (nat_lit 351, o351) :: (nat_lit 353, o353) :: (nat_lit 354, o354) :: (nat_lit 355, o355) :: (nat_lit 357, o357) :: (nat_lit 358, o358) :: (nat_lit 360, o360) :: (nat_lit 361, o361) :: (nat_lit 362, o362) :: (nat_lit 364, o364) :: (nat_lit 365, o365) :: (nat_lit 367, o367) :: (nat_lit 368, o368) :: (nat_lit 369, o369) :: (nat_lit 370, o370 P) :: (nat_lit 371, o371) :: (nat_lit 374, o374) :: (nat_lit 381, o381) :: (nat_lit 383, o383) :: (nat_lit 384, o384) :: (nat_lit 386, o386) :: (nat_lit 387, o387) :: (nat_lit 388, o388) :: (nat_lit 390, o390) :: (nat_lit 391, o391) :: (nat_lit 393, o393) :: (nat_lit 394, o394) :: (nat_lit 395, o395) :: (nat_lit 397, o397) :: (nat_lit 398, o398) :: (nat_lit 400, o400) :: (nat_lit 401, o401) :: (nat_lit 402, o402) :: (nat_lit 404, o404) :: (nat_lit 405, o405) :: (nat_lit 407, o407) :: (nat_lit 408, o408) :: (nat_lit 409, o409) :: (nat_lit 411, o411) :: (nat_lit 412, o412) :: (nat_lit 414, o414) :: (nat_lit 415, o415) :: (nat_lit 416, o416) :: (nat_lit 418, o418) :: (nat_lit 419, o419) :: (nat_lit 421, o421) :: (nat_lit 422, o422) :: (nat_lit 423, o423) :: (nat_lit 425, o425) :: (nat_lit 426, o426) :: (nat_lit 428, o428) :: (nat_lit 429, o429) :: (nat_lit 430, o430) :: (nat_lit 432, o432) :: (nat_lit 433, o433) :: (nat_lit 435, o435) :: (nat_lit 436, o436) :: (nat_lit 437, o437) :: (nat_lit 438, o438 P) :: (nat_lit 439, o439) :: (nat_lit 442, o442) :: (nat_lit 449, o449) :: (nat_lit 451, o451) :: (nat_lit 452, o452) :: (nat_lit 454, o454) :: (nat_lit 455, o455) :: (nat_lit 456, o456) :: (nat_lit 458, o458) :: (nat_lit 459, o459) :: (nat_lit 461, o461) :: (nat_lit 462, o462) :: (nat_lit 463, o463) :: (nat_lit 465, o465) :: (nat_lit 466, o466) :: (nat_lit 468, o468) :: (nat_lit 469, o469) :: (nat_lit 470, o470) :: (nat_lit 472, o472) :: (nat_lit 473, o473) :: (nat_lit 475, o475) :: (nat_lit 476, o476) :: (nat_lit 477, o477) :: (nat_lit 479, o479) :: (nat_lit 480, o480) :: (nat_lit 482, o482) :: (nat_lit 483, o483) :: (nat_lit 484, o484) :: (nat_lit 486, o486) :: (nat_lit 487, o487) :: (nat_lit 489, o489) :: (nat_lit 490, o490) :: (nat_lit 491, o491) :: (nat_lit 493, o493) :: (nat_lit 494, o494) :: (nat_lit 496, o496) :: (nat_lit 497, o497) :: (nat_lit 498, o498) :: (nat_lit 500, o500) :: (nat_lit 501, o501) :: (nat_lit 503, o503) :: (nat_lit 504, o504) :: (nat_lit 505, o505) :: (nat_lit 506, o506 P) :: (nat_lit 507, o507) :: (nat_lit 510, o510) :: (nat_lit 512, o512) :: (nat_lit 513, o513) :: (nat_lit 515, o515) :: (nat_lit 516, o516) :: (nat_lit 517, o517) :: (nat_lit 519, o519) :: (nat_lit 520, o520) :: (nat_lit 522, o522) :: (nat_lit 523, o523) :: (nat_lit 524, o524) :: (nat_lit 526, o526) :: (nat_lit 527, o527) :: (nat_lit 529, o529) :: (nat_lit 530, o530) :: (nat_lit 531, o531) :: (nat_lit 533, o533) :: (nat_lit 534, o534) :: (nat_lit 536, o536) :: (nat_lit 537, o537) :: (nat_lit 538, o538) :: (nat_lit 540, o540) :: (nat_lit 541, o541) :: (nat_lit 543, o543) :: (nat_lit 544, o544) :: (nat_lit 545, o545) :: (nat_lit 547, o547) :: (nat_lit 548, o548) :: (nat_lit 550, o550) :: (nat_lit 551, o551) :: (nat_lit 552, o552) :: (nat_lit 554, o554) :: (nat_lit 555, o555) :: (nat_lit 557, o557) :: (nat_lit 558, o558) :: (nat_lit 559, o559) :: (nat_lit 561, o561) :: (nat_lit 562, o562) :: (nat_lit 564, o564) :: (nat_lit 565, o565) :: (nat_lit 566, o566) :: (nat_lit 568, o568) :: (nat_lit 569, o569) :: (nat_lit 571, o571) :: (nat_lit 572, o572) :: (nat_lit 573, o573) :: (nat_lit 576, o576) :: (nat_lit 577, o577) :: (nat_lit 578, o578) :: (nat_lit 580, o580) :: (nat_lit 581, o581) :: (nat_lit 583, o583) :: (nat_lit 584, o584) :: (nat_lit 585, o585) :: (nat_lit 587, o587) :: (nat_lit 588, o588) :: (nat_lit 590, o590) :: (nat_lit 591, o591) :: (nat_lit 592, o592) :: (nat_lit 594, o594) :: (nat_lit 595, o595) :: (nat_lit 597, o597) :: (nat_lit 598, o598) :: []
def KA : List Addr := [2, 3, 15, 17, 18, 20, 21, 22, 29, 30, 31, 32, 35, 42, 43, 44, 47, 54, 55, 56, 59, 66, 67, 68, 71, 78, 79, 80, 83, 85, 86, 88, 89, 90, 92, 93, 95, 96, 97, 99, 100, 102, 103, 104, 107, 108, 109, 111, 112, 114, 115, 116, 118, 119, 121, 122, 130, 131, 132, 133, 134, 137, 144, 146, 147, 149, 150, 151, 153, 154, 156, 157, 158, 159, 160, 163, 170, 172, 173, 175, 176, 177, 179, 180, 182, 183, 184, 186, 187, 189, 190, 191, 193, 194, 196, 197, 198, 199, 200, 203, 210, 212, 213, 215, 216, 217, 219, 220, 222, 223, 224, 226, 227, 229, 230, 231, 233, 234, 236, 237, 238, 240, 241, 243, 244, 245, 247, 248, 250, 251, 252, 254, 255, 257, 258, 259, 261, 262, 264, 265, 266, 268, 269, 271, 272, 273, 275, 276, 278, 279, 280, 281, 282, 285, 292, 294, 295, 297, 298, 299, 301, 302, 304, 305, 306, 308, 309, 311, 312, 313, 315, 316, 318, 319, 320, 322, 323, 325, 326, 327, 329, 330, 332, 333, 334, 336, 337, 339, 340, 341, 343, 344, 346, 347, 348, 350, 351, 353, 354, 355, 357, 358, 360, 361, 362, 364, 365, 367, 368, 369, 370, 371, 374, 381, 383, 384, 386, 387, 388, 390, 391, 393, 394, 395, 397, 398, 400, 401, 402, 404, 405, 407, 408, 409, 411, 412, 414, 415, 416, 418, 419, 421, 422, 423, 425, 426, 428, 429, 430, 432, 433, 435, 436, 437, 438, 439, 442, 449, 451, 452, 454, 455, 456, 458, 459, 461, 462, 463, 465, 466, 468, 469, 470, 472, 473, 475, 476, 477, 479, 480, 482, 483, 484, 486, 487, 489, 490, 491, 493, 494, 496, 497, 498, 500, 501, 503, 504, 505, 506, 507, 510, 512, 513, 515, 516, 517, 519, 520, 522, 523, 524, 526, 527, 529, 530, 531, 533, 534, 536, 537, 538, 540, 541, 543, 544, 545, 547, 548, 550, 551, 552, 554, 555, 557, 558, 559, 561, 562, 564, 565, 566, 568, 569, 571, 572, 573, 576, 577, 578, 580, 581, 583, 584, 585, 587, 588, 590, 591, 592, 594, 595, 597, 598]
theorem KA_eq (P : Params) : KA = (K P).map (·.1) := by kernel_rfl
def topO (i : Nat) : Stmt := PySem.Challenge.pw_weighwalk_k08_kinds_by_name.main.body.getD i (.Pass ⟨0, 0, 0, 0⟩)
theorem top_eq : topT = topO := by unfold topT topO; rw [Fast.te9737080143819961485]
def qT : Program := { Fast.tw9737080143819961485 with main := { Fast.tw9737080143819961485.main with body := [topT 0, topT 2, topT 3, topT 4, topT 5, topT 6, topT 8, topT 9, topT 10, topT 12, topT 13, topT 14, topT 15, topT 16, topT 17, topT 18, topT 19, topT 20, topT 21, topT 22, topT 23, topT 24, topT 25, topT 26, topT 28, topT 29, topT 30, topT 31, topT 32, topT 33, topT 34, topT 35, topT 36, topT 37, topT 38] } }
def qO : Program := { PySem.Challenge.pw_weighwalk_k08_kinds_by_name with main := { PySem.Challenge.pw_weighwalk_k08_kinds_by_name.main with body := [topO 0, topO 2, topO 3, topO 4, topO 5, topO 6, topO 8, topO 9, topO 10, topO 12, topO 13, topO 14, topO 15, topO 16, topO 17, topO 18, topO 19, topO 20, topO 21, topO 22, topO 23, topO 24, topO 25, topO 26, topO 28, topO 29, topO 30, topO 31, topO 32, topO 33, topO 34, topO 35, topO 36, topO 37, topO 38] } }
theorem q_eq : qO = qT := by unfold qO qT; rw [top_eq, Fast.te9737080143819961485]
def recs := RowW.records (OpenRow.toRowW (OpenLaw.row PySem.Challenge.rw_weighwalk_k08_kinds_by_name))
abbrev Xt (q : Program) (s : Shared) : Bool := xlAt q [] s && recOk recs s
abbrev hook : Hook := kHook K KA KA_eq
theorem size_ (w : World) : ((boot_heap w.params).isNs mainGlobals && (⟨[]⟩ : Array GenState).size == 0, (boot_heap w.params).objs.size, (boot_heap w.params).nsMap mainGlobals "__annotations__") = (true, 11, (some (r 6))) := by (try rw [Fast.te15667345088766844465]); (try rw [Fast.te14082659384304107361]); (try rw [Fast.te14374325043358763698]); (try rw [Fast.te10110043849684766642]); (try rw [Fast.te14364793385576792824]); (try rw [Fast.te11892475500146522536]); (try rw [Fast.te4187177175401517315]); (try rw [Fast.te5923862056798008813]); (try rw [Fast.te8920871248978507458]); kernel_rfl
theorem open_ : ∀ w : World, (fencedOpening treeTable Fast.tw9737080143819961485 w 9316).map (fun s => (s.heap, s.gens, s.drawn, s.toks)) = some (boot_heap w.params, ⟨[]⟩, boot_drawn, boot_toks) := boot_open (by kernel_rfl) (by decide) (fun s => by (try rw [Fast.te15667345088766844465]); (try rw [Fast.te14082659384304107361]); (try rw [Fast.te14374325043358763698]); (try rw [Fast.te10110043849684766642]); (try rw [Fast.te14364793385576792824]); (try rw [Fast.te11892475500146522536]); (try rw [Fast.te4187177175401517315]); (try rw [Fast.te5923862056798008813]); (try rw [Fast.te8920871248978507458]); kernel_rfl)
theorem look1 (w : World) (os : OsState) : (staticsOk (importedModules Fast.tw9737080143819961485.main.body) (boot_heap w.params) (Hf w.params) && namesBound Fast.tw9737080143819961485 (Hf w.params) && gensDone (Sf w os) && laidKept (boot_heap w.params) (Hf w.params)) = true := by (try rw [Fast.te15667345088766844465]); (try rw [Fast.te14082659384304107361]); (try rw [Fast.te14374325043358763698]); (try rw [Fast.te10110043849684766642]); (try rw [Fast.te14364793385576792824]); (try rw [Fast.te11892475500146522536]); (try rw [Fast.te4187177175401517315]); (try rw [Fast.te5923862056798008813]); (try rw [Fast.te8920871248978507458]); kernel_rfl
theorem look2 (w : World) (os : OsState) : openSeen qT [] (importedModules Fast.tw9737080143819961485.main.body) (Xt qT) true (Sf w os) = openGood qT [] := by (try rw [Fast.te15667345088766844465]); (try rw [Fast.te14082659384304107361]); (try rw [Fast.te14374325043358763698]); (try rw [Fast.te10110043849684766642]); (try rw [Fast.te14364793385576792824]); (try rw [Fast.te11892475500146522536]); (try rw [Fast.te4187177175401517315]); (try rw [Fast.te5923862056798008813]); (try rw [Fast.te8920871248978507458]); kernel_rfl
theorem look3 (w : World) (os : OsState) : hook.obs (Sf w os) = hook.val w := by kernel_rfl
theorem leftT : LeftO Fast.tw9737080143819961485 qT [] (Xt qT) hook.obs hook.val 9316 := LeftO.of_pieces (H₁ := Hf) open_ size_ run_ (by decide) (fun w => funext fun os => looks_pair (look1 w os) (looks_pair (look2 w os) (look3 w os)))
theorem left : LeftO PySem.Challenge.pw_weighwalk_k08_kinds_by_name qO [] (Xt qO) hook.obs hook.val 9316 := by have h := leftT; rw [← q_eq, ← Fast.te9737080143819961485] at h; exact h
def dO : DefRec := ⟨PySem.Str.ofString "law", L2.defArgs (topO 38), L2.defBody (topO 38), L2.defScope (topO 38), ⟨312, 0, 332, 15⟩⟩
theorem holds_ (said : (OpenLaw.row PySem.Challenge.rw_weighwalk_k08_kinds_by_name).wellSaid = true) (hw : (OpenLaw.row PySem.Challenge.rw_weighwalk_k08_kinds_by_name).toRowW.promised) (hc : WalkO qO [] (XL qO []) (Hook.says hook) (OpenLaw.row PySem.Challenge.rw_weighwalk_k08_kinds_by_name).toRowW dO [] (fun f vs => PySem.call f vs)) : (OpenLaw.row PySem.Challenge.rw_weighwalk_k08_kinds_by_name).Holds :=
  holds_open (r := (OpenLaw.row PySem.Challenge.rw_weighwalk_k08_kinds_by_name)) (q := qO) (loose := []) (Xt := Xt qO) (XP := XL qO []) (Yf := hook.obs) (Ya := hook.val) (YP := hook.says) (d := dO) (kwd := []) (N := 9316) left hook.of hook.keeps (fun s e => xl_of s (Bool.and_eq_true_iff.mp e).1) XL.keeps (by kernel_rfl) (by kernel_rfl) (by kernel_rfl) (fun s e => recFacts_of (Bool.and_eq_true_iff.mp e).2) (by kernel_rfl) said (by decide +kernel) ⟨rfl, rfl, rfl, rfl, rfl, by decide +kernel⟩ hw hc
abbrev fO (n q : String) (s : Stmt) (m c : Value) : Obj := ⟨.type SL.s7174869446012820540x8, none, .func (fnOf (PySem.Str.ofString n) (PySem.Str.ofString q) (L2.defArgs s) (L2.defBody s) (L2.defScope s) .none .none .none m none c .none), #[]⟩
theorem lk_is_whole (P : Params) : (K P).lookup 89 = some (fO "is_whole" "is_whole" (topO 8) (.str s41 278) (r 88)) := by rw [← top_eq]; kernel_rfl
theorem lk_divisor (P : Params) : (K P).lookup 96 = some (fO "divisor" "divisor" (topO 9) (.str s41 278) (r 95)) := by rw [← top_eq]; kernel_rfl
theorem lk_is_prime (P : Params) : (K P).lookup 103 = some (fO "is_prime" "is_prime" (topO 10) (.str s41 278) (r 102)) := by rw [← top_eq]; kernel_rfl
theorem lk_is_written (P : Params) : (K P).lookup 108 = some (fO "is_written" "is_written" (topO 15) (.str s4 306) (r 107)) := by rw [← top_eq]; kernel_rfl
theorem lk_Fractions_told (P : Params) : (K P).lookup 216 = some (fO "told" "Fractions.told" (L2.inClass (topO 21) 0) (.str s4 306) (r 215)) := by rw [← top_eq]; kernel_rfl
theorem lk_Fractions_is_weight (P : Params) : (K P).lookup 265 = some (fO "is_weight" "Fractions.is_weight" (L2.inClass (topO 21) 7) (.str s4 306) (r 264)) := by rw [← top_eq]; kernel_rfl
theorem lk_Residues___init__ (P : Params) : (K P).lookup 298 = some (fO "__init__" "Residues.__init__" (L2.inClass (topO 22) 0) (.str s4 306) (r 297)) := by rw [← top_eq]; kernel_rfl
theorem lk_Residues_told (P : Params) : (K P).lookup 305 = some (fO "told" "Residues.told" (L2.inClass (topO 22) 1) (.str s4 306) (r 304)) := by rw [← top_eq]; kernel_rfl
theorem lk_Residues_is_weight (P : Params) : (K P).lookup 354 = some (fO "is_weight" "Residues.is_weight" (L2.inClass (topO 22) 8) (.str s4 306) (r 353)) := by rw [← top_eq]; kernel_rfl
theorem lk_Costs_told (P : Params) : (K P).lookup 387 = some (fO "told" "Costs.told" (L2.inClass (topO 23) 0) (.str s4 306) (r 386)) := by rw [← top_eq]; kernel_rfl
theorem lk_Costs_is_weight (P : Params) : (K P).lookup 422 = some (fO "is_weight" "Costs.is_weight" (L2.inClass (topO 23) 5) (.str s4 306) (r 421)) := by rw [← top_eq]; kernel_rfl
theorem lk_Truths_told (P : Params) : (K P).lookup 455 = some (fO "told" "Truths.told" (L2.inClass (topO 24) 0) (.str s4 306) (r 454)) := by rw [← top_eq]; kernel_rfl
theorem lk_Truths_is_weight (P : Params) : (K P).lookup 490 = some (fO "is_weight" "Truths.is_weight" (L2.inClass (topO 24) 5) (.str s4 306) (r 489)) := by rw [← top_eq]; kernel_rfl
theorem lk_residues_called (P : Params) : (K P).lookup 516 = some (fO "residues_called" "residues_called" (topO 25) (.str s4 306) (r 515)) := by rw [← top_eq]; kernel_rfl
theorem lk_kind_of (P : Params) : (K P).lookup 523 = some (fO "kind_of" "kind_of" (topO 26) (.str s4 306) (r 522)) := by rw [← top_eq]; kernel_rfl
theorem lk__law_whole (P : Params) : (K P).lookup 530 = some (fO "_law_whole" "_law_whole" (topO 28) (.str s84 807) (r 529)) := by rw [← top_eq]; kernel_rfl
theorem lk__law_divisor (P : Params) : (K P).lookup 537 = some (fO "_law_divisor" "_law_divisor" (topO 29) (.str s84 807) (r 536)) := by rw [← top_eq]; kernel_rfl
theorem lk__law_number (P : Params) : (K P).lookup 544 = some (fO "_law_number" "_law_number" (topO 30) (.str s84 807) (r 543)) := by rw [← top_eq]; kernel_rfl
theorem lk__law_prime (P : Params) : (K P).lookup 551 = some (fO "_law_prime" "_law_prime" (topO 31) (.str s84 807) (r 550)) := by rw [← top_eq]; kernel_rfl
theorem lk__law_name (P : Params) : (K P).lookup 558 = some (fO "_law_name" "_law_name" (topO 32) (.str s84 807) (r 557)) := by rw [← top_eq]; kernel_rfl
theorem lk__law_way (P : Params) : (K P).lookup 565 = some (fO "_law_way" "_law_way" (topO 33) (.str s84 807) (r 564)) := by rw [← top_eq]; kernel_rfl
theorem lk__law_refused (P : Params) : (K P).lookup 572 = some (fO "_law_refused" "_law_refused" (topO 34) (.str s84 807) (r 571)) := by rw [← top_eq]; kernel_rfl
theorem lk__law_classes (P : Params) : (K P).lookup 577 = some (fO "_law_classes" "_law_classes" (topO 35) (.str s84 807) (r 576)) := by rw [← top_eq]; kernel_rfl
theorem lk__law_thing (P : Params) : (K P).lookup 584 = some (fO "_law_thing" "_law_thing" (topO 36) (.str s84 807) (r 583)) := by rw [← top_eq]; kernel_rfl
theorem lk__law_is_weight (P : Params) : (K P).lookup 591 = some (fO "_law_is_weight" "_law_is_weight" (topO 37) (.str s84 807) (r 590)) := by rw [← top_eq]; kernel_rfl
theorem lk_law (P : Params) : (K P).lookup 598 = some (fO "law" "law" (topO 38) (.str s84 807) (r 597)) := by rw [← top_eq]; kernel_rfl
end
end H08

set_option maxHeartbeats 4000000
namespace K08
open PySem L2 Mine PyProof.Rows PySem.SeqAt
abbrev Pr : Program := PySem.Challenge.pw_weighwalk_k08_kinds_by_name
def top (i : Nat) : Stmt := PySem.Challenge.pw_weighwalk_k08_kinds_by_name.main.body.getD i (.Pass ⟨0, 0, 0, 0⟩)
abbrev s_is_whole : Stmt := top 8
abbrev s_divisor : Stmt := top 9
abbrev s_is_prime : Stmt := top 10
abbrev s_Residues___init__ : Stmt := inClass (top 22) 0
abbrev s_Residues_told : Stmt := inClass (top 22) 1
abbrev s_Fractions_told : Stmt := inClass (top 21) 0
abbrev s_Costs_told : Stmt := inClass (top 23) 0
abbrev s_Truths_told : Stmt := inClass (top 24) 0
abbrev s_is_written : Stmt := top 15
abbrev s_residues_called : Stmt := top 25
abbrev s_kind_of : Stmt := top 26
abbrev s_Fractions_is_weight : Stmt := inClass (top 21) 7
abbrev s_Residues_is_weight : Stmt := inClass (top 22) 8
abbrev s_Costs_is_weight : Stmt := inClass (top 23) 5
abbrev s_Truths_is_weight : Stmt := inClass (top 24) 5
abbrev s_law_whole : Stmt := top 28
abbrev s_law_divisor : Stmt := top 29
abbrev s_law_number : Stmt := top 30
abbrev s_law_prime : Stmt := top 31
abbrev s_law_name : Stmt := top 32
abbrev s_law_way : Stmt := top 33
abbrev s_law_refused : Stmt := top 34
abbrev s_law_classes : Stmt := top 35
abbrev s_law_thing : Stmt := top 36
abbrev s_law_is_weight : Stmt := top 37
abbrev s_law : Stmt := top 38
theorem sc_is_whole : FnScope ["thing"] ["thing"] (defScope s_is_whole) := ⟨rfl, rfl, rfl, by decide +kernel, rfl, by decide +kernel, by decide +kernel⟩
theorem sc_divisor : FnScope ["one", "other", "greatest", "rest", "left"] ["one", "other"] (defScope s_divisor) := ⟨rfl, rfl, rfl, by decide +kernel, rfl, by decide +kernel, by decide +kernel⟩
theorem sc_is_prime : FnScope ["number", "factor"] ["number"] (defScope s_is_prime) := ⟨rfl, rfl, rfl, by decide +kernel, rfl, by decide +kernel, by decide +kernel⟩
theorem sc_Residues___init__ : FnScope ["self", "prime"] ["self", "prime"] (defScope s_Residues___init__) := ⟨rfl, rfl, rfl, by decide +kernel, rfl, by decide +kernel, by decide +kernel⟩
theorem sc_Residues_told : FnScope ["self", "prime"] ["self"] (defScope s_Residues_told) := ⟨rfl, rfl, rfl, by decide +kernel, rfl, by decide +kernel, by decide +kernel⟩
theorem sc_Fractions_told : FnScope ["self"] ["self"] (defScope s_Fractions_told) := ⟨rfl, rfl, rfl, by decide +kernel, rfl, by decide +kernel, by decide +kernel⟩
theorem sc_Costs_told : FnScope ["self"] ["self"] (defScope s_Costs_told) := ⟨rfl, rfl, rfl, by decide +kernel, rfl, by decide +kernel, by decide +kernel⟩
theorem sc_Truths_told : FnScope ["self"] ["self"] (defScope s_Truths_told) := ⟨rfl, rfl, rfl, by decide +kernel, rfl, by decide +kernel, by decide +kernel⟩
theorem sc_is_written : FnScope ["text", "figures"] ["text"] (defScope s_is_written) := ⟨rfl, rfl, rfl, by decide +kernel, rfl, by decide +kernel, by decide +kernel⟩
theorem sc_residues_called : FnScope ["text", "pieces"] ["text"] (defScope s_residues_called) := ⟨rfl, rfl, rfl, by decide +kernel, rfl, by decide +kernel, by decide +kernel⟩
theorem sc_kind_of : FnScope ["text"] ["text"] (defScope s_kind_of) := ⟨rfl, rfl, rfl, by decide +kernel, rfl, by decide +kernel, by decide +kernel⟩
theorem sc_Fractions_is_weight : FnScope ["self", "thing"] ["self", "thing"] (defScope s_Fractions_is_weight) := ⟨rfl, rfl, rfl, by decide +kernel, rfl, by decide +kernel, by decide +kernel⟩
theorem sc_Residues_is_weight : FnScope ["self", "thing"] ["self", "thing"] (defScope s_Residues_is_weight) := ⟨rfl, rfl, rfl, by decide +kernel, rfl, by decide +kernel, by decide +kernel⟩
theorem sc_Costs_is_weight : FnScope ["self", "thing"] ["self", "thing"] (defScope s_Costs_is_weight) := ⟨rfl, rfl, rfl, by decide +kernel, rfl, by decide +kernel, by decide +kernel⟩
theorem sc_Truths_is_weight : FnScope ["self", "thing"] ["self", "thing"] (defScope s_Truths_is_weight) := ⟨rfl, rfl, rfl, by decide +kernel, rfl, by decide +kernel, by decide +kernel⟩
theorem sc_law_whole : FnScope ["_law_found"] ["_law_found"] (defScope s_law_whole) := ⟨rfl, rfl, rfl, by decide +kernel, rfl, by decide +kernel, by decide +kernel⟩
theorem sc_law_divisor : FnScope ["_law_one", "_law_other"] ["_law_one", "_law_other"] (defScope s_law_divisor) := ⟨rfl, rfl, rfl, by decide +kernel, rfl, by decide +kernel, by decide +kernel⟩
theorem sc_law_number : FnScope ["_law_cell"] ["_law_cell"] (defScope s_law_number) := ⟨rfl, rfl, rfl, by decide +kernel, rfl, by decide +kernel, by decide +kernel⟩
theorem sc_law_prime : FnScope ["_law_number_here", "_law_by"] ["_law_number_here"] (defScope s_law_prime) := ⟨rfl, rfl, rfl, by decide +kernel, rfl, by decide +kernel, by decide +kernel⟩
theorem sc_law_name : FnScope ["_law_cell", "_law_way_here", "_law_number_here", "_law_some"] ["_law_cell"] (defScope s_law_name) := ⟨rfl, rfl, rfl, by decide +kernel, rfl, by decide +kernel, by decide +kernel⟩
theorem sc_law_way : FnScope ["_law_name_here", "_law_figures", "_law_sign"] ["_law_name_here"] (defScope s_law_way) := ⟨rfl, rfl, rfl, by decide +kernel, rfl, by decide +kernel, by decide +kernel⟩
theorem sc_law_refused : FnScope ["_law_name_here", "e"] ["_law_name_here"] (defScope s_law_refused) := ⟨rfl, rfl, rfl, by decide +kernel, rfl, by decide +kernel, by decide +kernel⟩
theorem sc_law_classes : FnScope ["_law_kind", "_law_way_here", "_law_found"] ["_law_kind", "_law_way_here"] (defScope s_law_classes) := ⟨rfl, rfl, rfl, by decide +kernel, rfl, by decide +kernel, by decide +kernel⟩
theorem sc_law_thing : FnScope ["_law_cell", "_law_one", "_law_other", "_law_some"] ["_law_cell"] (defScope s_law_thing) := ⟨rfl, rfl, rfl, by decide +kernel, rfl, by decide +kernel, by decide +kernel⟩
theorem sc_law_is_weight : FnScope ["_law_way_here", "_law_prime_here", "_law_thing_here"] ["_law_way_here", "_law_prime_here", "_law_thing_here"] (defScope s_law_is_weight) := ⟨rfl, rfl, rfl, by decide +kernel, rfl, by decide +kernel, by decide +kernel⟩
theorem sc_law : FnScope ["_law_script", "_law_cells", "_law_k", "_law_name_here", "_law_way_here", "_law_kind", "_law_prime_here", "_law_j", "_law_thing_here", "_law_found"] ["_law_script"] (defScope s_law) := ⟨rfl, rfl, rfl, by decide +kernel, rfl, by decide +kernel, by decide +kernel⟩
def sp_divisor : Sp := fun vs H Q _ => ∃ a b, vs = [.int a, .int b] ∧ Q (.int (dv a b)) H
/-- a thing that is no whole number -/
def Odd (K : PySem.W.Frag) (H : Hp) (v : V) : Prop := (∃ b, v = .bl b) ∨ ∃ t, TyOf K H v t ∧ PySem.W.kitOne K t (.type "int") = some false
def sp_whole (K : PySem.W.Frag) : Sp := fun vs H Q _ => ∃ v, vs = [v] ∧ ((∃ i, v = .int i) ∧ Q (.bl true) H ∨ Odd K H v ∧ Q (.bl false) H)
def sp_prime : Sp := fun vs H Q _ => ∃ n, vs = [.int n] ∧ n ≤ 1100000 ∧ Q (.bl (isP n)) H
/-- a thing of which there are no residues -/
def Bad (K : PySem.W.Frag) (H : Hp) (v : V) : Prop := (∃ n, v = .int n ∧ (1000000 < n ∨ isP n = false)) ∨ Odd K H v
def GoodP (n : Int) : Prop := 2 ≤ n ∧ n ≤ 1000000 ∧ isP n = true
structure Adr where
  is_whole : Addr
  d_is_whole : FuncData
  divisor : Addr
  d_divisor : FuncData
  is_prime : Addr
  d_is_prime : FuncData
  Residues___init__ : Addr
  d_Residues___init__ : FuncData
  Residues_told : Addr
  d_Residues_told : FuncData
  Fractions_told : Addr
  d_Fractions_told : FuncData
  Costs_told : Addr
  d_Costs_told : FuncData
  Truths_told : Addr
  d_Truths_told : FuncData
  is_written : Addr
  d_is_written : FuncData
  residues_called : Addr
  d_residues_called : FuncData
  kind_of : Addr
  d_kind_of : FuncData
  Fractions_is_weight : Addr
  d_Fractions_is_weight : FuncData
  Residues_is_weight : Addr
  d_Residues_is_weight : FuncData
  Costs_is_weight : Addr
  d_Costs_is_weight : FuncData
  Truths_is_weight : Addr
  d_Truths_is_weight : FuncData
  law_whole : Addr
  d_law_whole : FuncData
  law_divisor : Addr
  d_law_divisor : FuncData
  law_number : Addr
  d_law_number : FuncData
  law_prime : Addr
  d_law_prime : FuncData
  law_name : Addr
  d_law_name : FuncData
  law_way : Addr
  d_law_way : FuncData
  law_refused : Addr
  d_law_refused : FuncData
  law_classes : Addr
  d_law_classes : FuncData
  law_thing : Addr
  d_law_thing : FuncData
  law_is_weight : Addr
  d_law_is_weight : FuncData
  law : Addr
  d_law : FuncData
  Kind : Addr
  Field : Addr
  Picking : Addr
  Fractions : Addr
  Residues : Addr
  Costs : Addr
  Truths : Addr
  WeighError : Addr
  NoText : Addr
  NoKind : Addr
  NoWeight : Addr
  WrongKind : Addr
structure Txt (K : PySem.W.Frag) (mg : Str → Option Value) (t : Adr) : Prop where
  F_is_whole : Fun K "is_whole" "is_whole" s_is_whole t.is_whole t.d_is_whole
  b_is_whole : Binds K t.d_is_whole ["thing"] []
  m_is_whole : mg "is_whole" = some (.ref t.is_whole)
  F_divisor : Fun K "divisor" "divisor" s_divisor t.divisor t.d_divisor
  b_divisor : Binds K t.d_divisor ["one", "other"] []
  m_divisor : mg "divisor" = some (.ref t.divisor)
  F_is_prime : Fun K "is_prime" "is_prime" s_is_prime t.is_prime t.d_is_prime
  b_is_prime : Binds K t.d_is_prime ["number"] []
  m_is_prime : mg "is_prime" = some (.ref t.is_prime)
  F_Residues___init__ : Fun K "__init__" "Residues.__init__" s_Residues___init__ t.Residues___init__ t.d_Residues___init__
  b_Residues___init__ : Binds K t.d_Residues___init__ ["self", "prime"] []
  t_Residues___init__ : Meth K t.Residues "__init__" t.Residues___init__
  F_Residues_told : Fun K "told" "Residues.told" s_Residues_told t.Residues_told t.d_Residues_told
  b_Residues_told : Binds K t.d_Residues_told ["self"] []
  t_Residues_told : Meth K t.Residues "told" t.Residues_told
  F_Fractions_told : Fun K "told" "Fractions.told" s_Fractions_told t.Fractions_told t.d_Fractions_told
  b_Fractions_told : Binds K t.d_Fractions_told ["self"] []
  t_Fractions_told : Meth K t.Fractions "told" t.Fractions_told
  F_Costs_told : Fun K "told" "Costs.told" s_Costs_told t.Costs_told t.d_Costs_told
  b_Costs_told : Binds K t.d_Costs_told ["self"] []
  t_Costs_told : Meth K t.Costs "told" t.Costs_told
  F_Truths_told : Fun K "told" "Truths.told" s_Truths_told t.Truths_told t.d_Truths_told
  b_Truths_told : Binds K t.d_Truths_told ["self"] []
  t_Truths_told : Meth K t.Truths "told" t.Truths_told
  F_is_written : Fun K "is_written" "is_written" s_is_written t.is_written t.d_is_written
  b_is_written : Binds K t.d_is_written ["text"] []
  m_is_written : mg "is_written" = some (.ref t.is_written)
  F_residues_called : Fun K "residues_called" "residues_called" s_residues_called t.residues_called t.d_residues_called
  b_residues_called : Binds K t.d_residues_called ["text"] []
  m_residues_called : mg "residues_called" = some (.ref t.residues_called)
  F_kind_of : Fun K "kind_of" "kind_of" s_kind_of t.kind_of t.d_kind_of
  b_kind_of : Binds K t.d_kind_of ["text"] []
  m_kind_of : mg "kind_of" = some (.ref t.kind_of)
  F_Fractions_is_weight : Fun K "is_weight" "Fractions.is_weight" s_Fractions_is_weight t.Fractions_is_weight t.d_Fractions_is_weight
  b_Fractions_is_weight : Binds K t.d_Fractions_is_weight ["self", "thing"] []
  t_Fractions_is_weight : Meth K t.Fractions "is_weight" t.Fractions_is_weight
  F_Residues_is_weight : Fun K "is_weight" "Residues.is_weight" s_Residues_is_weight t.Residues_is_weight t.d_Residues_is_weight
  b_Residues_is_weight : Binds K t.d_Residues_is_weight ["self", "thing"] []
  t_Residues_is_weight : Meth K t.Residues "is_weight" t.Residues_is_weight
  F_Costs_is_weight : Fun K "is_weight" "Costs.is_weight" s_Costs_is_weight t.Costs_is_weight t.d_Costs_is_weight
  b_Costs_is_weight : Binds K t.d_Costs_is_weight ["self", "thing"] []
  t_Costs_is_weight : Meth K t.Costs "is_weight" t.Costs_is_weight
  F_Truths_is_weight : Fun K "is_weight" "Truths.is_weight" s_Truths_is_weight t.Truths_is_weight t.d_Truths_is_weight
  b_Truths_is_weight : Binds K t.d_Truths_is_weight ["self", "thing"] []
  t_Truths_is_weight : Meth K t.Truths "is_weight" t.Truths_is_weight
  F_law_whole : Fun K "_law_whole" "_law_whole" s_law_whole t.law_whole t.d_law_whole
  b_law_whole : Binds K t.d_law_whole ["_law_found"] []
  m_law_whole : mg "_law_whole" = some (.ref t.law_whole)
  F_law_divisor : Fun K "_law_divisor" "_law_divisor" s_law_divisor t.law_divisor t.d_law_divisor
  b_law_divisor : Binds K t.d_law_divisor ["_law_one", "_law_other"] []
  m_law_divisor : mg "_law_divisor" = some (.ref t.law_divisor)
  F_law_number : Fun K "_law_number" "_law_number" s_law_number t.law_number t.d_law_number
  b_law_number : Binds K t.d_law_number ["_law_cell"] []
  m_law_number : mg "_law_number" = some (.ref t.law_number)
  F_law_prime : Fun K "_law_prime" "_law_prime" s_law_prime t.law_prime t.d_law_prime
  b_law_prime : Binds K t.d_law_prime ["_law_number_here"] []
  m_law_prime : mg "_law_prime" = some (.ref t.law_prime)
  F_law_name : Fun K "_law_name" "_law_name" s_law_name t.law_name t.d_law_name
  b_law_name : Binds K t.d_law_name ["_law_cell"] []
  m_law_name : mg "_law_name" = some (.ref t.law_name)
  F_law_way : Fun K "_law_way" "_law_way" s_law_way t.law_way t.d_law_way
  b_law_way : Binds K t.d_law_way ["_law_name_here"] []
  m_law_way : mg "_law_way" = some (.ref t.law_way)
  F_law_refused : Fun K "_law_refused" "_law_refused" s_law_refused t.law_refused t.d_law_refused
  b_law_refused : Binds K t.d_law_refused ["_law_name_here"] []
  m_law_refused : mg "_law_refused" = some (.ref t.law_refused)
  F_law_classes : Fun K "_law_classes" "_law_classes" s_law_classes t.law_classes t.d_law_classes
  b_law_classes : Binds K t.d_law_classes ["_law_kind", "_law_way_here"] []
  m_law_classes : mg "_law_classes" = some (.ref t.law_classes)
  F_law_thing : Fun K "_law_thing" "_law_thing" s_law_thing t.law_thing t.d_law_thing
  b_law_thing : Binds K t.d_law_thing ["_law_cell"] []
  m_law_thing : mg "_law_thing" = some (.ref t.law_thing)
  F_law_is_weight : Fun K "_law_is_weight" "_law_is_weight" s_law_is_weight t.law_is_weight t.d_law_is_weight
  b_law_is_weight : Binds K t.d_law_is_weight ["_law_way_here", "_law_prime_here", "_law_thing_here"] []
  m_law_is_weight : mg "_law_is_weight" = some (.ref t.law_is_weight)
  F_law : Fun K "law" "law" s_law t.law t.d_law
  b_law : Binds K t.d_law ["_law_script"] []
  m_law : mg "law" = some (.ref t.law)
  C_Kind : Cls K t.Kind
  m_Kind : mg "Kind" = some (.ref t.Kind)
  M_Kind : MkO K t.Kind
  C_Field : Cls K t.Field
  m_Field : mg "Field" = some (.ref t.Field)
  M_Field : MkO K t.Field
  C_Picking : Cls K t.Picking
  m_Picking : mg "Picking" = some (.ref t.Picking)
  M_Picking : MkO K t.Picking
  C_Fractions : Cls K t.Fractions
  m_Fractions : mg "Fractions" = some (.ref t.Fractions)
  M_Fractions : MkO K t.Fractions
  C_Residues : Cls K t.Residues
  m_Residues : mg "Residues" = some (.ref t.Residues)
  M_Residues : Mk K t.Residues t.Residues___init__
  C_Costs : Cls K t.Costs
  m_Costs : mg "Costs" = some (.ref t.Costs)
  M_Costs : MkO K t.Costs
  C_Truths : Cls K t.Truths
  m_Truths : mg "Truths" = some (.ref t.Truths)
  M_Truths : MkO K t.Truths
  m_WeighError : mg "WeighError" = some (.ref t.WeighError)
  x_WeighError : ExcK K t.WeighError
  m_NoText : mg "NoText" = some (.ref t.NoText)
  x_NoText : ExcK K t.NoText
  m_NoKind : mg "NoKind" = some (.ref t.NoKind)
  x_NoKind : ExcK K t.NoKind
  m_NoWeight : mg "NoWeight" = some (.ref t.NoWeight)
  x_NoWeight : ExcK K t.NoWeight
  m_WrongKind : mg "WrongKind" = some (.ref t.WrongKind)
  x_WrongKind : ExcK K t.WrongKind
  z_isinstance : mg "isinstance" = none
  z_int : mg "int" = none
  z_bool : mg "bool" = none
  z_abs : mg "abs" = none
  c_GREATEST_PRIME : ∃ tk, mg "GREATEST_PRIME" = some (Value.int 1000000 tk)
  z_str : mg "str" = none
  z_len : mg "len" = none
  c_MOST_FIGURES : ∃ tk, mg "MOST_FIGURES" = some (Value.int 30 tk)
  z_all : mg "all" = none
  c_FIGURES : ∃ tk, mg "FIGURES" = some (Value.str "0123456789" tk)
  z_tuple : mg "tuple" = none
  z_ValueError : mg "ValueError" = none
  z_range : mg "range" = none
  k_ii : PySem.W.kitOne K (.type "int") (.type "int") = some true
  k_ib : PySem.W.kitOne K (.type "int") (.type "bool") = some false
  k_it : PySem.W.kitOne K (.type "int") (.type "tuple") = some false
  k_is : PySem.W.kitOne K (.type "int") (.type "str") = some false
  k_bi : PySem.W.kitOne K (.type "bool") (.type "int") = some true
  k_bb : PySem.W.kitOne K (.type "bool") (.type "bool") = some true
  k_bt : PySem.W.kitOne K (.type "bool") (.type "tuple") = some false
  k_bs : PySem.W.kitOne K (.type "bool") (.type "str") = some false
  k_ni : PySem.W.kitOne K (.type "NoneType") (.type "int") = some false
  k_nb : PySem.W.kitOne K (.type "NoneType") (.type "bool") = some false
  k_nt : PySem.W.kitOne K (.type "NoneType") (.type "tuple") = some false
  k_ns : PySem.W.kitOne K (.type "NoneType") (.type "str") = some false
  k_si : PySem.W.kitOne K (.type "str") (.type "int") = some false
  k_sb : PySem.W.kitOne K (.type "str") (.type "bool") = some false
  k_st : PySem.W.kitOne K (.type "str") (.type "tuple") = some false
  k_ss : PySem.W.kitOne K (.type "str") (.type "str") = some true
  k_ti : PySem.W.kitOne K (.type "tuple") (.type "int") = some false
  k_tb : PySem.W.kitOne K (.type "tuple") (.type "bool") = some false
  k_tt : PySem.W.kitOne K (.type "tuple") (.type "tuple") = some true
  k_ts : PySem.W.kitOne K (.type "tuple") (.type "str") = some false
  k_li : PySem.W.kitOne K (.type "list") (.type "int") = some false
  k_lb : PySem.W.kitOne K (.type "list") (.type "bool") = some false
  k_lt : PySem.W.kitOne K (.type "list") (.type "tuple") = some false
  k_ls : PySem.W.kitOne K (.type "list") (.type "str") = some false
  k_di : PySem.W.kitOne K (.type "dict") (.type "int") = some false
  k_db : PySem.W.kitOne K (.type "dict") (.type "bool") = some false
  k_dt : PySem.W.kitOne K (.type "dict") (.type "tuple") = some false
  k_ds : PySem.W.kitOne K (.type "dict") (.type "str") = some false
  nP : NoAttr K t.Residues "prime"
  e_K : PySem.W.exmOne K (.ref t.NoKind) (.ref t.WeighError) = some true
  k_KT : PySem.W.kitOne K (.ref t.NoKind) (.ref t.NoText) = some false
  k_KW : PySem.W.kitOne K (.ref t.NoKind) (.ref t.NoWeight) = some false
  k_KG : PySem.W.kitOne K (.ref t.NoKind) (.ref t.WrongKind) = some false
  k_KK : PySem.W.kitOne K (.ref t.NoKind) (.ref t.NoKind) = some true
  k_KV : PySem.W.kitOne K (.ref t.NoKind) (.type "ValueError") = some true
  i_F_Fr : PySem.W.kitOne K (.ref t.Fractions) (.ref t.Fractions) = some true
  i_F_Re : PySem.W.kitOne K (.ref t.Fractions) (.ref t.Residues) = some false
  i_F_Co : PySem.W.kitOne K (.ref t.Fractions) (.ref t.Costs) = some false
  i_F_Tr : PySem.W.kitOne K (.ref t.Fractions) (.ref t.Truths) = some false
  i_F_Ki : PySem.W.kitOne K (.ref t.Fractions) (.ref t.Kind) = some true
  i_F_Fi : PySem.W.kitOne K (.ref t.Fractions) (.ref t.Field) = some true
  i_F_Pi : PySem.W.kitOne K (.ref t.Fractions) (.ref t.Picking) = some false
  hc_F : PySem.W.findIn K (.ref t.Fractions) "__class__" = some (some (.builtin "object.__class__"))
  hm_F : PySem.W.mroIn K t.Fractions (.type "object") = some true
  i_R_Fr : PySem.W.kitOne K (.ref t.Residues) (.ref t.Fractions) = some false
  i_R_Re : PySem.W.kitOne K (.ref t.Residues) (.ref t.Residues) = some true
  i_R_Co : PySem.W.kitOne K (.ref t.Residues) (.ref t.Costs) = some false
  i_R_Tr : PySem.W.kitOne K (.ref t.Residues) (.ref t.Truths) = some false
  i_R_Ki : PySem.W.kitOne K (.ref t.Residues) (.ref t.Kind) = some true
  i_R_Fi : PySem.W.kitOne K (.ref t.Residues) (.ref t.Field) = some true
  i_R_Pi : PySem.W.kitOne K (.ref t.Residues) (.ref t.Picking) = some false
  hc_R : PySem.W.findIn K (.ref t.Residues) "__class__" = some (some (.builtin "object.__class__"))
  hm_R : PySem.W.mroIn K t.Residues (.type "object") = some true
  i_C_Fr : PySem.W.kitOne K (.ref t.Costs) (.ref t.Fractions) = some false
  i_C_Re : PySem.W.kitOne K (.ref t.Costs) (.ref t.Residues) = some false
  i_C_Co : PySem.W.kitOne K (.ref t.Costs) (.ref t.Costs) = some true
  i_C_Tr : PySem.W.kitOne K (.ref t.Costs) (.ref t.Truths) = some false
  i_C_Ki : PySem.W.kitOne K (.ref t.Costs) (.ref t.Kind) = some true
  i_C_Fi : PySem.W.kitOne K (.ref t.Costs) (.ref t.Field) = some false
  i_C_Pi : PySem.W.kitOne K (.ref t.Costs) (.ref t.Picking) = some true
  hc_C : PySem.W.findIn K (.ref t.Costs) "__class__" = some (some (.builtin "object.__class__"))
  hm_C : PySem.W.mroIn K t.Costs (.type "object") = some true
  i_T_Fr : PySem.W.kitOne K (.ref t.Truths) (.ref t.Fractions) = some false
  i_T_Re : PySem.W.kitOne K (.ref t.Truths) (.ref t.Residues) = some false
  i_T_Co : PySem.W.kitOne K (.ref t.Truths) (.ref t.Costs) = some false
  i_T_Tr : PySem.W.kitOne K (.ref t.Truths) (.ref t.Truths) = some true
  i_T_Ki : PySem.W.kitOne K (.ref t.Truths) (.ref t.Kind) = some true
  i_T_Fi : PySem.W.kitOne K (.ref t.Truths) (.ref t.Field) = some false
  i_T_Pi : PySem.W.kitOne K (.ref t.Truths) (.ref t.Picking) = some true
  hc_T : PySem.W.findIn K (.ref t.Truths) "__class__" = some (some (.builtin "object.__class__"))
  hm_T : PySem.W.mroIn K t.Truths (.type "object") = some true
  hn : PySem.W.specialIn K (.builtin "object.__class__") "__get__" = some (some (.builtin "getset_descriptor.__get__"))
  htk : PySem.W.takesIn K (.builtin "object.__class__") = some true
/-! texts by their signs -/
def tx (l : List Nat) : Str := ⟨l.toArray⟩
def vT (l : List Nat) : V := .str (tx l)
theorem tx_app (a b : List Nat) : tx a ++ tx b = tx (a ++ b) := by
  show (⟨a.toArray ++ b.toArray⟩ : Str) = ⟨(a ++ b).toArray⟩
  simp
theorem tx_len (a : List Nat) : (tx a).length = a.length := by
  show a.toArray.size = a.length
  simp
theorem tx_of (z : Str) : tx z.cps.toList = z := by cases z; rfl
theorem tx_inj {a b : List Nat} (h : tx a = tx b) : a = b := by
  have := congrArg (fun z : Str => z.cps.toList) h
  simpa [tx] using this
def Gd (n : Nat) (l : List Nat) : Prop := l.length ≤ n ∧ ∀ c ∈ l, c < 128
instance (n : Nat) (l : List Nat) : Decidable (Gd n l) := by unfold Gd; exact inferInstance
theorem Gd.asc {n : Nat} {l : List Nat} (h : Gd n l) : (tx l).cps.all (· < 128) = true := by
  show l.toArray.all (· < 128) = true
  simp only [List.all_toArray, List.all_eq_true, decide_eq_true_eq]
  exact h.2
theorem Gd.mono {m n : Nat} {l : List Nat} (h : Gd m l) (k : m ≤ n) : Gd n l := ⟨Nat.le_trans h.1 k, h.2⟩
theorem Gd.app {m n : Nat} {a b : List Nat} (h : Gd m a) (h' : Gd n b) : Gd (m + n) (a ++ b) := ⟨by rw [List.length_append]; exact Nat.add_le_add h.1 h'.1, fun c hc => (List.mem_append.mp hc).elim (h.2 c) (h'.2 c)⟩
theorem Gd.take {n : Nat} {l : List Nat} (h : Gd n l) (k : Nat) : Gd n (l.take k) := ⟨Nat.le_trans (by rw [List.length_take]; exact Nat.min_le_right _ _) h.1, fun c hc => h.2 c (List.mem_of_mem_take hc)⟩
theorem Gd.drop {n : Nat} {l : List Nat} (h : Gd n l) (k : Nat) : Gd n (l.drop k) := ⟨Nat.le_trans (by rw [List.length_drop]; exact Nat.sub_le _ _) h.1, fun c hc => h.2 c (List.mem_of_mem_drop hc)⟩
theorem sl_to {p : List Nat} {q : Int} (h0 : 0 ≤ q) (h1 : q ≤ p.length) : Txt.slice (tx p) none (some q) = tx (p.take q.toNat) := by
  have e := PyProof.Rows.slice_closes_toL (x := tx p) (j := q) h0 (by rw [tx_len]; exact h1)
  rw [beq_iff_eq] at e
  rw [e]
  show (⟨_⟩ : Str) = ⟨_⟩
  simp [tx]
theorem sl_from {p : List Nat} {q : Int} (h0 : 0 ≤ q) : Txt.slice (tx p) (some q) none = tx (p.drop q.toNat) := by
  by_cases h1 : q ≤ p.length
  · rw [PyProof.Rows.slice_from_eq (x := tx p) (b := p.length) h0 (by rw [tx_len]; exact h1) (by rw [tx_len])]
    show (⟨_⟩ : Str) = ⟨_⟩
    have e : ((p.drop q.toNat).take ((p.length : Int) - q).toNat) = p.drop q.toNat := List.take_of_length_le (by rw [List.length_drop]; omega)
    simp only [tx, List.toList_toArray, e]
  · rw [PyProof.Rows.slice_beyond (x := tx p) (by rw [tx_len]; omega), List.drop_of_length_le (by omega)]
    rfl
theorem mi_is : (Str.ofString "-") = tx [45] := by decide +kernel
theorem nil_is : (Str.ofString "") = tx [] := by decide +kernel
theorem sl_is : (Str.ofString "/") = tx [47] := by decide +kernel
theorem o_is : (Str.ofString "0") = tx [48] := by decide +kernel
theorem fig_is : (Str.ofString "0123456789") = tx [48, 49, 50, 51, 52, 53, 54, 55, 56, 57] := by decide +kernel
def dg (c : Nat) : Bool := decide (48 ≤ c ∧ c ≤ 57)
theorem in_fig (c : Nat) : (!(Builtin.Str.occurrences (Str.ofString "0123456789") ⟨#[c]⟩ 0 (Str.ofString "0123456789").length 1).isEmpty) = dg c := by
  rw [PySem.StrLaws.found_one, fig_is]
  show decide (c ∈ [48, 49, 50, 51, 52, 53, 54, 55, 56, 57]) = _
  rw [Bool.eq_iff_iff, decide_eq_true_eq]
  unfold dg
  rw [decide_eq_true_eq]
  simp
  omega
theorem starts_is (l : List Nat) : Txt.startswith (tx l) (Str.ofString "-") = decide (l.head? = some 45) := by
  rw [mi_is]
  cases l with
  | nil => rfl
  | cons a r =>
    simp [Txt.startswith, Builtin.Str.subAt, tx, Str.length]
    rfl
theorem first_is (l : List Nat) : Txt.slice (tx l) none (some 1) = tx (l.take 1) := by
  cases l with
  | nil => decide +kernel
  | cons a r => exact sl_to (by decide) (by simp; omega)
theorem first_mi (l : List Nat) : decide (V.str (Txt.slice (tx l) none (some 1)) = V.str (Str.ofString "-")) = decide (l.head? = some 45) := by
  rw [first_is, mi_is, Bool.eq_iff_iff, decide_eq_true_eq, decide_eq_true_eq]
  constructor
  · intro h
    have := tx_inj (V.str.inj h)
    cases l with
    | nil => cases this
    | cons a r => simpa using this
  · intro h
    cases l with
    | nil => cases h
    | cons a r =>
      have : a = 45 := by simpa using h
      subst this
      rfl
def figs (l : List Nat) : List Nat := if l.head? = some 45 then l.drop 1 else l
def wr (l : List Nat) : Bool := (decide (0 < (figs l).length) && decide ((figs l).length ≤ 30)) && (if (figs l).head? = some 48 then decide (l = [48]) else (figs l).all dg)
def nm (l : List Nat) : Int := (PySem.intText? (tx l)).getD 0
theorem all_dg {f : List Nat} (h : f.all dg = true) : PySem.NumText.AllDigits f := fun c hc => by
  have := List.all_eq_true.mp h c hc
  unfold dg at this
  simpa using this
theorem wr_int {l : List Nat} (h : wr l = true) : PySem.intText? (tx l) = some (nm l) ∧ (tx l).length ≤ 640 := by
  unfold wr at h
  simp only [Bool.and_eq_true, decide_eq_true_eq] at h
  obtain ⟨⟨h1, h2⟩, h3⟩ := h
  have key : ∃ n, PySem.intText? (tx l) = some n := by
    unfold figs at h1 h2 h3
    by_cases hm : l.head? = some 45
    · rw [if_pos hm] at h1 h2 h3
      cases l with
      | nil => cases hm
      | cons a r =>
        have ha : a = 45 := by simpa using hm
        subst ha
        simp only [List.drop_succ_cons, List.drop_zero] at h1 h2 h3
        split at h3
        · simp at h3
        · exact ⟨_, PySem.intText_neg (cs := r) (by simp [tx]) (all_dg h3) (fun e => by subst e; simp at h1) (by rw [tx_len]; simp; omega)⟩
    · rw [if_neg hm] at h1 h2 h3
      split at h3
      · have h3 := of_decide_eq_true h3
        subst h3
        exact ⟨0, by decide +kernel⟩
      · exact ⟨_, PySem.intText_digits (by simpa [tx] using all_dg h3) (by simp [tx]; intro e; subst e; simp at h1) (by rw [tx_len]; omega)⟩
  obtain ⟨n, e⟩ := key
  refine ⟨by rw [nm, e]; rfl, ?_⟩
  rw [tx_len]
  unfold figs at h2
  split at h2
  · rw [List.length_drop] at h2; omega
  · omega
/-- where the text is cut -/
def cutAt (l : List Nat) : Option Nat := (Builtin.Str.occurrences (tx l) (Str.ofString "/") 0 (tx l).length 1).head?
theorem cut_le {l : List Nat} {i : Nat} (h : cutAt l = some i) : i + 1 ≤ l.length := by
  unfold cutAt at h
  have := (PySem.StrLaws.occ_spec (tx l) (Str.ofString "/") 0 (tx l).length 1 i (List.mem_of_mem_head? (by rw [h]; rfl))).1
  rw [tx_len] at this
  exact this
theorem part_none {l : List Nat} (h : cutAt l = none) : Txt.partition (tx l) (Str.ofString "/") = (tx l, Str.empty, Str.empty) := by
  unfold cutAt at h
  unfold Txt.partition
  rw [List.head?_eq_none_iff.mp h]
theorem part_some {l : List Nat} {i : Nat} (h : cutAt l = some i) : Txt.partition (tx l) (Str.ofString "/") = (tx (l.take i), Str.ofString "/", tx (l.drop (i + 1))) := by
  have hle := cut_le h
  unfold cutAt at h
  unfold Txt.partition
  obtain ⟨r, e⟩ := List.head?_eq_some_iff.mp h
  rw [e]
  have e1 : Builtin.Str.strSub (tx l) 0 i = tx (l.take i) := by
    show (⟨_⟩ : Str) = ⟨_⟩
    simp [tx]
  have e2 : Builtin.Str.strSub (tx l) (i + (Str.ofString "/").length) (tx l).length = tx (l.drop (i + 1)) := by
    show (⟨_⟩ : Str) = ⟨_⟩
    rw [tx_len, show (Str.ofString "/").length = 1 from rfl]
    simp [tx]
    exact List.take_of_length_le (by rw [List.length_drop]; omega)
  dsimp only
  rw [e1, e2]
def rdF (l : List Nat) : Option PyData := match cutAt l with
  | none => if wr l = true then some (.tuple [.int (nm l), .int 1]) else none
  | some i => if wr (l.take i) = true ∧ wr (l.drop (i + 1)) = true ∧ 2 ≤ nm (l.drop (i + 1)) ∧ dv (nm (l.take i)) (nm (l.drop (i + 1))) = 1 then some (.tuple [.int (nm (l.take i)), .int (nm (l.drop (i + 1)))]) else none
def rdR (p : Int) (l : List Nat) : Option PyData := if wr l = true ∧ 0 ≤ nm l ∧ nm l < p then some (.int (nm l)) else none
def rdC (l : List Nat) : Option PyData := if tx l = Str.ofString "none" then some .none else if wr l = true then some (.int (nm l)) else none
def rdT (l : List Nat) : Option PyData := if tx l = Str.ofString "yes" then some (.bool true) else if tx l = Str.ofString "no" then some (.bool false) else none
theorem iteS {a b : Str} {A B : Prop} (h1 : a = b → A) (h2 : a ≠ b → B) : if decide (V.str a = V.str b) = true then A else B := by
  by_cases h : a = b
  · rw [if_pos (by rw [h]; simp)]; exact h1 h
  · rw [if_neg (by simp; exact h)]; exact h2 h
theorem iteNS {a b : Str} {A B : Prop} (h1 : a ≠ b → A) (h2 : a = b → B) : if (!decide (V.str a = V.str b)) = true then A else B := by
  by_cases h : a = b
  · rw [if_neg (by rw [h]; simp)]; exact h2 h
  · rw [if_pos (by simp; exact h)]; exact h1 h
/-- what a weight is, as data -/
def WDt (d : PyData) : Prop := d = .none ∨ (∃ b, d = .bool b) ∨ (∃ i, d = .int i) ∨ ∃ a b, d = .tuple [.int a, .int b]
def ts (i : Int) : Str := Str.ofString (toString i)
def wrt : PyData → Str
  | .tuple [.int a, .int b] => if b = 1 then ts a else (ts a ++ Str.ofString "/") ++ ts b
  | .int a => ts a
  | .none => Str.ofString "none"
  | .bool true => Str.ofString "yes"
  | .bool false => Str.ofString "no"
  | _ => Str.empty
/-- the weights drawn for each way -/
def WB (way : Int) (d : PyData) : Prop := (way = 0 ∧ ∃ a b : Int, d = .tuple [.int a, .int b] ∧ a.natAbs ≤ 2 ^ 100 ∧ b.natAbs ≤ 2 ^ 100) ∨ (way = 1 ∧ ∃ a : Int, d = .int a ∧ a.natAbs ≤ 2 ^ 100) ∨ (way = 2 ∧ (d = .none ∨ ∃ a : Int, d = .int a ∧ a.natAbs ≤ 2 ^ 100)) ∨ (way = 3 ∧ ∃ b, d = .bool b)
theorem log_100 {a : Int} (h : a.natAbs ≤ 2 ^ 100) : a.natAbs.log2 < 101 := by
  by_cases e : a.natAbs = 0
  · rw [e]; decide
  · rw [Nat.log2_lt e]; exact Nat.lt_of_le_of_lt h (Nat.pow_lt_pow_right (by decide) (by decide))
theorem ts_gd {a : Int} (h : a.natAbs ≤ 2 ^ 100) : Gd 102 (ts a).cps.toList := by
  refine ⟨?_, fun c hc => ?_⟩
  · have := PySem.int_text_length_le (k := 101) (by decide) (log_100 h)
    rw [ts, PyProof.Rows.signs_ofString, List.length_map]
    exact this
  · rw [ts, PyProof.Rows.signs_ofString] at hc
    obtain ⟨ch, hch, rfl⟩ := List.mem_map.mp hc
    exact PySem.int_ascii a ch hch
theorem app_gd {m n : Nat} {a b : Str} (h : Gd m a.cps.toList) (h' : Gd n b.cps.toList) : Gd (m + n) (a ++ b).cps.toList := by
  have e : (a ++ b).cps.toList = a.cps.toList ++ b.cps.toList := by
    rw [← tx_of a, ← tx_of b, tx_app]; simp [tx]
  rw [e]; exact h.app h'
theorem wrt_gd {way : Int} {d : PyData} (h : WB way d) : Gd 300 (wrt d).cps.toList := by
  rcases h with ⟨_, a, b, rfl, ha, hb⟩ | ⟨_, a, rfl, ha⟩ | ⟨_, rfl | ⟨a, rfl, ha⟩⟩ | ⟨_, b, rfl⟩
  · rw [wrt]
    split
    · exact (ts_gd ha).mono (by decide)
    · exact (app_gd (app_gd (n := 1) (ts_gd ha) (by decide +kernel)) (ts_gd hb)).mono (by decide)
  · exact (ts_gd ha).mono (by decide)
  · exact (show Gd 300 (Str.ofString "none").cps.toList by decide +kernel)
  · exact (ts_gd ha).mono (by decide)
  · cases b
    · exact (show Gd 300 (Str.ofString "no").cps.toList by decide +kernel)
    · exact (show Gd 300 (Str.ofString "yes").cps.toList by decide +kernel)
theorem emp_app (z : Str) : Str.empty ++ z = z := by
  show (⟨#[] ++ z.cps⟩ : Str) = z
  simp
seal L2.PSs L2.PS L2.PE L2.PT L2.PW L2.PA L2.PG L2.PGs L2.PI
section
variable {w : World} {K : PySem.W.Frag} {mg : Str → Option Value} {base : Heap} {t : Adr}
theorem ok_is_whole (T : Txt K mg t) : FnOk Pr w K mg base CX0 1 t.is_whole t.d_is_whole ["thing"] (sp_whole K) := by
  refine T.F_is_whole.ok sc_is_whole (fun vs H Q E h => ?_) (fun cdv A outer s H vs Q E hr h => ?_)
  · obtain ⟨v, rfl, _⟩ := h
    rfl
  · obtain ⟨v, rfl, h⟩ := h
    refine ⟨_, (pss_one (ps_ret (pe_and (pe_callB call_isi (by rfl) T.z_isinstance boot_isinstance (pa_cons (pv 0) (pa_cons (pe_bltn (v := .ty "int") rfl T.z_int boot_int rfl) pa_nil))) (pe_one (pe_not (pe_callB call_isi (by rfl) T.z_isinstance boot_isinstance (pa_cons (pv 0) (pa_cons (pe_bltn (v := .ty "bool") rfl T.z_bool boot_bool rfl) pa_nil)))))))), ?_⟩
    rcases h with ⟨⟨i, rfl⟩, k⟩ | ⟨⟨b, rfl⟩ | ⟨ty, hty, hk⟩, k⟩
    · refine ⟨_, rfl, _, _, _, _, rfl, TyOf.int _, T.k_ii, _, rfl, iteT ?_⟩
      refine ⟨_, rfl, _, _, _, _, rfl, TyOf.int _, T.k_ib, _, rfl, ?_⟩
      exact k
    · refine ⟨_, rfl, _, _, _, _, rfl, TyOf.bl _, T.k_bi, _, rfl, iteT ?_⟩
      refine ⟨_, rfl, _, _, _, _, rfl, TyOf.bl _, T.k_bb, _, rfl, ?_⟩
      exact k
    · refine ⟨_, rfl, _, _, _, _, rfl, hty, hk, _, rfl, iteF ?_⟩
      exact k
theorem isP_small {n : Int} (h : n < 2) : isP n = false := (p_small h).symm
theorem ok_is_prime (T : Txt K mg t) : FnOk Pr w K mg base CX0 1 t.is_prime t.d_is_prime ["number"] sp_prime := by
  refine T.F_is_prime.ok sc_is_prime (fun vs H Q E h => ?_) (fun cdv A outer s H vs Q E hr h => ?_)
  · obtain ⟨n, rfl, _⟩ := h
    rfl
  · obtain ⟨n, rfl, n6, k⟩ := h
    refine ⟨_, (pss_cons (ps_if (pt_cmpR op_lt (pv 0) pe_int (nomark _)) (pss_one (ps_ret pe_bl)) pss_nil) (pss_cons (ps_set (i := 1) sc_is_prime.nd rfl (Or.inl rfl) pe_int) (pss_cons (ps_while PassesOwn.never (pt_cmpR op_le (pe_op op_mul (pv 1) (pv 1)) (pv 0) (nomark _)) (pss_cons (ps_if (pt_cmpR op_eq (pe_op op_modN (pv 0) (pv 1)) pe_int (nomark _)) (pss_one (ps_ret pe_bl)) pss_nil) (pss_one (ps_set (i := 1) sc_is_prime.nd rfl (Or.inl rfl) (pe_op op_add (pv 1) pe_int))))) (pss_one (ps_ret pe_bl))))), ?_⟩
    refine ⟨_, rfl, _, _, rfl, rfl, _, rfl, ?_⟩
    refine iteP (fun h0 => by rw [isP_small h0] at k; exact k) (fun n2 => ?_)
    refine ⟨fun m σ H' => ∃ f : Int, σ = [some (.int n), some (.int f)] ∧ m = (n + 2 - f).toNat ∧ (2 ≤ f ∧ f ≤ n + 1) ∧ (∀ d : Int, 2 ≤ d → d < f → ¬ n.fmod d = 0) ∧ H' = H, ⟨_, _, rfl, rfl, ⟨by omega, by omega⟩, (fun d h1 h2 => absurd h1 (by omega)), rfl⟩, ?_⟩
    rintro m σ H' ⟨f, rfl, rfl, ⟨f2, fn⟩, hd, rfl⟩
    have cm : CMul f f := .inl ⟨by omega, by omega⟩
    refine ⟨_, rfl, _, rfl, _, _, rfl, rfl, cm, _, rfl, _, _, rfl, rfl, _, rfl, ?_⟩
    refine iteP (fun h0 => ?_) (fun h0 => ?_)
    · refine ⟨fun σ' H'' => ∃ f' : Int, σ' = [some (.int n), some (.int f')] ∧ (n + 2 - f').toNat < (n + 2 - f).toNat ∧ (2 ≤ f' ∧ f' ≤ n + 1) ∧ (∀ d : Int, 2 ≤ d → d < f' → ¬ n.fmod d = 0) ∧ H'' = H', fun σ' H'' ⟨f', e1, e2, e3, e5, e4⟩ => ⟨_, e2, f', e1, rfl, e3, e5, e4⟩, ?_⟩
      refine ⟨_, rfl, _, rfl, _, _, rfl, rfl, (show f ≠ 0 by omega), rfl, _, rfl, ?_⟩
      have hs := sq_le f2 h0
      refine iteI (fun h1 => ?_) (fun h1 => ?_)
      · rw [← p_hit f2 h0 h1] at k
        exact k
      · refine ⟨_, rfl, _, _, rfl, rfl, ?_⟩
        exact ⟨_, rfl, by omega, ⟨by omega, by omega⟩, p_turn hd h1, rfl⟩
    · rw [← p_out (by omega) f2 h0 hd] at k
      exact k
theorem ok_law_prime (T : Txt K mg t) : FnOk Pr w K mg base CX0 1 t.law_prime t.d_law_prime ["_law_number_here"] sp_prime := by
  refine T.F_law_prime.ok sc_law_prime (fun vs H Q E h => ?_) (fun cdv A outer s H vs Q E hr h => ?_)
  · obtain ⟨n, rfl, _⟩ := h
    rfl
  · obtain ⟨n, rfl, n6, k⟩ := h
    refine ⟨_, (pss_cons (ps_if (pt_cmpR op_lt (pv 0) pe_int (nomark _)) (pss_one (ps_ret pe_bl)) pss_nil) (pss_cons (ps_set (i := 1) sc_law_prime.nd rfl (Or.inl rfl) pe_int) (pss_cons (ps_while PassesOwn.never (pt_cmpR op_le (pe_op op_mul (pv 1) (pv 1)) (pv 0) (nomark _)) (pss_cons (ps_if (pt_cmpR op_eq (pe_op op_modN (pv 0) (pv 1)) pe_int (nomark _)) (pss_one (ps_ret pe_bl)) pss_nil) (pss_one (ps_set (i := 1) sc_law_prime.nd rfl (Or.inl rfl) (pe_op op_add (pv 1) pe_int))))) (pss_one (ps_ret pe_bl))))), ?_⟩
    refine ⟨_, rfl, _, _, rfl, rfl, _, rfl, ?_⟩
    refine iteP (fun h0 => by rw [isP_small h0] at k; exact k) (fun n2 => ?_)
    refine ⟨fun m σ H' => ∃ f : Int, σ = [some (.int n), some (.int f)] ∧ m = (n + 2 - f).toNat ∧ (2 ≤ f ∧ f ≤ n + 1) ∧ (∀ d : Int, 2 ≤ d → d < f → ¬ n.fmod d = 0) ∧ H' = H, ⟨_, _, rfl, rfl, ⟨by omega, by omega⟩, (fun d h1 h2 => absurd h1 (by omega)), rfl⟩, ?_⟩
    rintro m σ H' ⟨f, rfl, rfl, ⟨f2, fn⟩, hd, rfl⟩
    have cm : CMul f f := .inl ⟨by omega, by omega⟩
    refine ⟨_, rfl, _, rfl, _, _, rfl, rfl, cm, _, rfl, _, _, rfl, rfl, _, rfl, ?_⟩
    refine iteP (fun h0 => ?_) (fun h0 => ?_)
    · refine ⟨fun σ' H'' => ∃ f' : Int, σ' = [some (.int n), some (.int f')] ∧ (n + 2 - f').toNat < (n + 2 - f).toNat ∧ (2 ≤ f' ∧ f' ≤ n + 1) ∧ (∀ d : Int, 2 ≤ d → d < f' → ¬ n.fmod d = 0) ∧ H'' = H', fun σ' H'' ⟨f', e1, e2, e3, e5, e4⟩ => ⟨_, e2, f', e1, rfl, e3, e5, e4⟩, ?_⟩
      refine ⟨_, rfl, _, rfl, _, _, rfl, rfl, (show f ≠ 0 by omega), rfl, _, rfl, ?_⟩
      have hs := sq_le f2 h0
      refine iteI (fun h1 => ?_) (fun h1 => ?_)
      · rw [← p_hit f2 h0 h1] at k
        exact k
      · refine ⟨_, rfl, _, _, rfl, rfl, ?_⟩
        exact ⟨_, rfl, by omega, ⟨by omega, by omega⟩, p_turn hd h1, rfl⟩
    · rw [← p_out (by omega) f2 h0 hd] at k
      exact k
def sp_initX (K : PySem.W.Frag) (t : Adr) : Sp := fun vs H Q E => ∃ x dx v, vs = [.ref x, v] ∧ H x = some (.ins t.Residues dx []) ∧ ((∃ n, v = .int n ∧ GoodP n ∧ Q .non (upd H x (.ins t.Residues dx (pfs n)))) ∨ Bad K H v ∧ E (.ref t.NoKind) none H)
theorem okx_Residues___init__ (T : Txt K mg t) : FnOk Pr w K mg base (CX1 Pr w) 2 t.Residues___init__ t.d_Residues___init__ ["self", "prime"] (sp_initX K t) := by
  refine T.F_Residues___init__.okx sc_Residues___init__ (fun vs H Q E h => ?_) (fun cdv A outer s H vs Q E hr h => ?_)
  · obtain ⟨x, dx, v, rfl, _⟩ := h
    rfl
  · obtain ⟨x, dx, v, rfl, hx, h⟩ := h
    refine ⟨_, (pss_cons (ps_if (PW.pt (pw_or (pt_not (pt_val (pe_call (ok_is_whole T) (hr.mono (by decide)) rfl T.m_is_whole T.F_is_whole.kp T.b_is_whole .nil pass0 (pa_cons (pv 1) pa_nil)))) (pw_or (pt_cmpR op_gt (pv 1) (pe_glob (v := .int 1000000) rfl T.c_GREATEST_PRIME.choose_spec ⟨_, rfl⟩) (nomark _)) (pw_or1 (pt_not (pt_val (pe_call (ok_is_prime T) (hr.mono (by decide)) rfl T.m_is_prime T.F_is_prime.kp T.b_is_prime .nil pass0 (pa_cons (pv 1) pa_nil)))))))) (pss_one (ps_raise thru_cx rfl T.x_NoKind.ex rfl T.m_NoKind (pa_cons pe_str pa_nil))) pss_nil) (pss_one (ps_fld (pv 0) (pv 1) rfl))), ?_⟩
    rcases h with ⟨n, rfl, hn, k⟩ | ⟨⟨n, rfl, hn⟩ | ho, kE⟩
    · refine ⟨_, rfl, _, rfl, .inl ⟨⟨_, rfl⟩, _, rfl, ?_⟩⟩
      (try refine iteF ?_)
      refine ⟨_, rfl, _, _, rfl, rfl, _, rfl, ?_⟩
      refine iteP (fun h0 => absurd h0 (by have := hn.2.1; omega)) (fun _ => ?_)
      refine ⟨_, rfl, _, rfl, by have := hn.2.1; omega, _, rfl, ?_⟩
      rw [hn.2.2]
      (try refine iteF ?_)
      refine ⟨_, rfl, _, rfl, x, _, dx, _, rfl, hx, T.C_Residues, T.nP, (by show 0 < 1000; decide), ?_⟩
      exact k
    · refine ⟨_, rfl, _, rfl, .inl ⟨⟨_, rfl⟩, _, rfl, ?_⟩⟩
      (try refine iteF ?_)
      refine ⟨_, rfl, _, _, rfl, rfl, _, rfl, ?_⟩
      refine iteP (fun h0 => ?_) (fun h0 => ?_)
      · exact ⟨(by show 1 ≤ sizeLine; decide), kE⟩
      · refine ⟨_, rfl, _, rfl, by omega, _, rfl, ?_⟩
        rw [hn.resolve_left (by omega)]
        exact ⟨(by show 1 ≤ sizeLine; decide), kE⟩
    · refine ⟨_, rfl, _, rfl, .inr ⟨ho, _, rfl, ?_⟩⟩
      exact ⟨(by show 1 ≤ sizeLine; decide), kE⟩
def nameP (p : Int) : Str := "residues " ++ Str.ofString (toString p)
def sp_told (C : Addr) : Sp := fun vs H Q _ => ∃ k p, vs = [k] ∧ GoodP p ∧ KAt C (pfs p) H k ∧ Q (.str (nameP p)) H
theorem log20 {p : Int} (h : GoodP p) : p.natAbs.log2 < 1920 := by
  have h1 : p.natAbs ≠ 0 := by have := h.1; omega
  rw [Nat.log2_lt h1]
  have h2 : p.natAbs < 2 ^ 20 := by have := h.1; have := h.2.1; have e : (2 : Nat) ^ 20 = 1048576 := by decide
                                    omega
  exact Nat.lt_of_lt_of_le h2 (Nat.pow_le_pow_right (by decide) (by decide))
theorem str_empty (x : Str) : Str.empty ++ x = x := by
  cases x
  show Str.mk (#[] ++ _) = _
  rw [Array.empty_append]
theorem name_len {p : Int} (h : GoodP p) : (nameP p).length ≤ sizeLine := by
  have hl := int_text_len_1921 (log20 h)
  have h9 : ("residues " : Str).length = 9 := by decide +kernel
  have hs : 1930 ≤ sizeLine := by decide
  unfold nameP
  rw [strLen_append]
  omega
theorem ok_Residues_told (T : Txt K mg t) : FnOk Pr w K mg base CX0 1 t.Residues_told t.d_Residues_told ["self"] (sp_told t.Residues) := by
  refine T.F_Residues_told.ok sc_Residues_told (fun vs H Q E h => ?_) (fun cdv A outer s H vs Q E hr h => ?_)
  · obtain ⟨k, p, rfl, _⟩ := h
    rfl
  · obtain ⟨k0, p, rfl, hp, ⟨q, dx, rfl, hq⟩, k⟩ := h
    have hz : (nameP p).length ≤ sizeLine := name_len hp
    refine ⟨_, (pss_cons (ps_set (i := 1) sc_Residues_told.nd rfl (Or.inl rfl) (pe_fld (pv 0) rfl)) (pss_one (ps_ret (pe_join (pj_cons pe_str (pj_cons (pe_fmtI (pv 1)) pj_nil)))))), ?_⟩
    refine ⟨_, rfl, q, _, dx, _, _, rfl, hq, T.C_Residues, T.nP, pfs_prime p, ?_⟩
    refine ⟨_, rfl, ?_, _, rfl, _, rfl, log20 hp, _, rfl, ?_, ?_, ?_⟩
    · rw [str_empty]; decide
    · rw [str_empty]; exact hz
    · rw [str_empty]; exact hz
    · rw [str_empty]; exact k
theorem ok_divisor (T : Txt K mg t) : FnOk Pr w K mg base CX0 1 t.divisor t.d_divisor ["one", "other"] sp_divisor := by
  refine T.F_divisor.ok sc_divisor (fun vs H Q E h => ?_) (fun cdv A outer s H vs Q E hr h => ?_)
  · obtain ⟨a, b, rfl, _⟩ := h
    rfl
  · obtain ⟨a, b, rfl, k⟩ := h
    refine ⟨_, (pss_cons (ps_set (i := 2) sc_divisor.nd rfl (Or.inl rfl) (pe_callB call_abs (by rfl) T.z_abs boot_abs (pa_cons (pv 0) pa_nil))) (pss_cons (ps_set (i := 3) sc_divisor.nd rfl (Or.inl rfl) (pe_callB call_abs (by rfl) T.z_abs boot_abs (pa_cons (pv 1) pa_nil))) (pss_cons (ps_while PassesOwn.never (pt_cmpR op_gt (pv 3) pe_int (nomark _)) (pss_cons (ps_set (i := 4) sc_divisor.nd rfl (Or.inl rfl) (pe_op op_modN (pv 2) (pv 3))) (pss_cons (ps_set (i := 2) sc_divisor.nd rfl (Or.inl rfl) (pv 3)) (pss_one (ps_set (i := 3) sc_divisor.nd rfl (Or.inl rfl) (pv 4)))))) (pss_one (ps_ret (pv 2)))))), ?_⟩
    refine ⟨_, rfl, _, rfl, _, rfl, _, rfl, ?_⟩
    refine ⟨fun m σ H' => ∃ g r l, σ = [some (.int a), some (.int b), some (.int g), some (.int r), l] ∧ m = r.toNat ∧ (0 ≤ g ∧ 0 ≤ r ∧ dv g r = dv a b) ∧ H' = H, ⟨_, _, _, _, rfl, rfl, start1 a b, rfl⟩, ?_⟩
    rintro m σ H' ⟨g, r, l, rfl, rfl, ⟨g0, r0, e⟩, rfl⟩
    (repeat (first | apply Exists.intro | refine And.intro rfl ?_ | refine And.intro (by with_reducible assumption) ?_ | refine And.intro (SqT.of (by assumption)) ?_ | refine And.intro (SqL.of (by assumption)) ?_ | refine And.intro (TyOf.int _) ?_ | refine And.intro (TyOf.tup (by assumption)) ?_ | refine And.intro T.k_ii ?_ | refine And.intro T.k_ib ?_ | refine And.intro T.k_it ?_ | refine And.intro T.k_is ?_ | refine And.intro T.k_bi ?_ | refine And.intro T.k_bb ?_ | refine And.intro T.k_bt ?_ | refine And.intro T.k_bs ?_ | refine And.intro T.k_ni ?_ | refine And.intro T.k_nb ?_ | refine And.intro T.k_nt ?_ | refine And.intro T.k_ns ?_ | refine And.intro T.k_si ?_ | refine And.intro T.k_sb ?_ | refine And.intro T.k_st ?_ | refine And.intro T.k_ss ?_ | refine And.intro T.k_ti ?_ | refine And.intro T.k_tb ?_ | refine And.intro T.k_tt ?_ | refine And.intro T.k_ts ?_ | refine And.intro T.k_li ?_ | refine And.intro T.k_lb ?_ | refine And.intro T.k_lt ?_ | refine And.intro T.k_ls ?_ | refine And.intro T.k_di ?_ | refine And.intro T.k_db ?_ | refine And.intro T.k_dt ?_ | refine And.intro T.k_ds ?_ | refine And.intro T.nP ?_ | refine And.intro T.e_K ?_ | refine And.intro T.k_KT ?_ | refine And.intro T.k_KW ?_ | refine And.intro T.k_KG ?_ | refine And.intro T.k_KK ?_ | refine And.intro T.k_KV ?_ | refine And.intro T.i_F_Fr ?_ | refine And.intro T.i_F_Re ?_ | refine And.intro T.i_F_Co ?_ | refine And.intro T.i_F_Tr ?_ | refine And.intro T.i_F_Ki ?_ | refine And.intro T.i_F_Fi ?_ | refine And.intro T.i_F_Pi ?_ | refine And.intro T.hc_F ?_ | refine And.intro T.hm_F ?_ | refine And.intro T.i_R_Fr ?_ | refine And.intro T.i_R_Re ?_ | refine And.intro T.i_R_Co ?_ | refine And.intro T.i_R_Tr ?_ | refine And.intro T.i_R_Ki ?_ | refine And.intro T.i_R_Fi ?_ | refine And.intro T.i_R_Pi ?_ | refine And.intro T.hc_R ?_ | refine And.intro T.hm_R ?_ | refine And.intro T.i_C_Fr ?_ | refine And.intro T.i_C_Re ?_ | refine And.intro T.i_C_Co ?_ | refine And.intro T.i_C_Tr ?_ | refine And.intro T.i_C_Ki ?_ | refine And.intro T.i_C_Fi ?_ | refine And.intro T.i_C_Pi ?_ | refine And.intro T.hc_C ?_ | refine And.intro T.hm_C ?_ | refine And.intro T.i_T_Fr ?_ | refine And.intro T.i_T_Re ?_ | refine And.intro T.i_T_Co ?_ | refine And.intro T.i_T_Tr ?_ | refine And.intro T.i_T_Ki ?_ | refine And.intro T.i_T_Fi ?_ | refine And.intro T.i_T_Pi ?_ | refine And.intro T.hc_T ?_ | refine And.intro T.hm_T ?_ | refine And.intro T.hn ?_ | refine And.intro T.htk ?_))
    refine iteP (fun hr0 => ?_) (fun hr0 => ?_)
    · refine ⟨fun σ' H'' => ∃ g' r' l', σ' = [some (.int a), some (.int b), some (.int g'), some (.int r'), l'] ∧ r'.toNat < r.toNat ∧ (0 ≤ g' ∧ 0 ≤ r' ∧ dv g' r' = dv a b) ∧ H'' = H', fun σ' H'' ⟨g', r', l', e1, e2, e3, e4⟩ => ⟨_, e2, g', r', l', e1, rfl, e3, e4⟩, ?_⟩
      refine ⟨_, rfl, _, rfl, _, _, rfl, rfl, (show r ≠ 0 by omega), _, rfl, _, rfl, ?_⟩
      exact ⟨_, _, _, rfl, d_less hr0, d_turn e hr0, rfl⟩
    · refine ⟨_, rfl, ?_⟩
      (try dsimp only)
      rw [d_out e g0 r0 hr0]
      exact k
theorem ok_law_divisor (T : Txt K mg t) : FnOk Pr w K mg base CX0 1 t.law_divisor t.d_law_divisor ["_law_one", "_law_other"] sp_divisor := by
  refine T.F_law_divisor.ok sc_law_divisor (fun vs H Q E h => ?_) (fun cdv A outer s H vs Q E hr h => ?_)
  · obtain ⟨a, b, rfl, _⟩ := h
    rfl
  · obtain ⟨a, b, rfl, k⟩ := h
    refine ⟨_, (pss_cons (ps_while PassesOwn.never (pt_cmpR op_ne (pv 1) pe_int (nomark _)) (pss_one (ps_par (i := 0) (j := 1) rfl sc_law_divisor.nd rfl rfl (by decide) rfl rfl (pa_cons (pv 1) (pa_cons (pe_op op_modN (pv 0) (pv 1)) pa_nil)) rfl))) (pss_one (ps_ret (pe_callB call_abs (by rfl) T.z_abs boot_abs (pa_cons (pv 0) pa_nil))))), ?_⟩
    refine ⟨fun m σ H' => ∃ x y, σ = [some (.int x), some (.int y)] ∧ m = y.natAbs ∧ dv x y = dv a b ∧ H' = H, ⟨_, _, _, rfl, rfl, rfl, rfl⟩, ?_⟩
    rintro m σ H' ⟨x, y, rfl, rfl, e, rfl⟩
    (repeat (first | apply Exists.intro | refine And.intro rfl ?_ | refine And.intro (by with_reducible assumption) ?_ | refine And.intro (SqT.of (by assumption)) ?_ | refine And.intro (SqL.of (by assumption)) ?_ | refine And.intro (TyOf.int _) ?_ | refine And.intro (TyOf.tup (by assumption)) ?_ | refine And.intro T.k_ii ?_ | refine And.intro T.k_ib ?_ | refine And.intro T.k_it ?_ | refine And.intro T.k_is ?_ | refine And.intro T.k_bi ?_ | refine And.intro T.k_bb ?_ | refine And.intro T.k_bt ?_ | refine And.intro T.k_bs ?_ | refine And.intro T.k_ni ?_ | refine And.intro T.k_nb ?_ | refine And.intro T.k_nt ?_ | refine And.intro T.k_ns ?_ | refine And.intro T.k_si ?_ | refine And.intro T.k_sb ?_ | refine And.intro T.k_st ?_ | refine And.intro T.k_ss ?_ | refine And.intro T.k_ti ?_ | refine And.intro T.k_tb ?_ | refine And.intro T.k_tt ?_ | refine And.intro T.k_ts ?_ | refine And.intro T.k_li ?_ | refine And.intro T.k_lb ?_ | refine And.intro T.k_lt ?_ | refine And.intro T.k_ls ?_ | refine And.intro T.k_di ?_ | refine And.intro T.k_db ?_ | refine And.intro T.k_dt ?_ | refine And.intro T.k_ds ?_ | refine And.intro T.nP ?_ | refine And.intro T.e_K ?_ | refine And.intro T.k_KT ?_ | refine And.intro T.k_KW ?_ | refine And.intro T.k_KG ?_ | refine And.intro T.k_KK ?_ | refine And.intro T.k_KV ?_ | refine And.intro T.i_F_Fr ?_ | refine And.intro T.i_F_Re ?_ | refine And.intro T.i_F_Co ?_ | refine And.intro T.i_F_Tr ?_ | refine And.intro T.i_F_Ki ?_ | refine And.intro T.i_F_Fi ?_ | refine And.intro T.i_F_Pi ?_ | refine And.intro T.hc_F ?_ | refine And.intro T.hm_F ?_ | refine And.intro T.i_R_Fr ?_ | refine And.intro T.i_R_Re ?_ | refine And.intro T.i_R_Co ?_ | refine And.intro T.i_R_Tr ?_ | refine And.intro T.i_R_Ki ?_ | refine And.intro T.i_R_Fi ?_ | refine And.intro T.i_R_Pi ?_ | refine And.intro T.hc_R ?_ | refine And.intro T.hm_R ?_ | refine And.intro T.i_C_Fr ?_ | refine And.intro T.i_C_Re ?_ | refine And.intro T.i_C_Co ?_ | refine And.intro T.i_C_Tr ?_ | refine And.intro T.i_C_Ki ?_ | refine And.intro T.i_C_Fi ?_ | refine And.intro T.i_C_Pi ?_ | refine And.intro T.hc_C ?_ | refine And.intro T.hm_C ?_ | refine And.intro T.i_T_Fr ?_ | refine And.intro T.i_T_Re ?_ | refine And.intro T.i_T_Co ?_ | refine And.intro T.i_T_Tr ?_ | refine And.intro T.i_T_Ki ?_ | refine And.intro T.i_T_Fi ?_ | refine And.intro T.i_T_Pi ?_ | refine And.intro T.hc_T ?_ | refine And.intro T.hm_T ?_ | refine And.intro T.hn ?_ | refine And.intro T.htk ?_))
    refine iteNI (fun h0 => ?_) (fun h0 => ?_)
    · refine ⟨fun σ' H'' => ∃ x' y', σ' = [some (.int x'), some (.int y')] ∧ y'.natAbs < y.natAbs ∧ dv x' y' = dv a b ∧ H'' = H', fun σ' H'' ⟨x', y', e1, e2, e3, e4⟩ => ⟨_, e2, x', y', e1, rfl, e3, e4⟩, ?_⟩
      refine ⟨_, rfl, _, rfl, _, rfl, _, _, rfl, rfl, h0, _, _, rfl, ?_⟩
      exact ⟨_, _, rfl, fmod_abs_lt _ _ h0, l_turn e, rfl⟩
    · refine ⟨_, rfl, _, rfl, ?_⟩
      (try dsimp only)
      rw [out2 e h0]
      exact k
def sp_number : Sp := fun vs H Q _ => ∃ c, vs = [.int c] ∧ Q (.int (num c)) H
theorem ok_law_number (T : Txt K mg t) : FnOk Pr w K mg base CX0 1 t.law_number t.d_law_number ["_law_cell"] sp_number := by
  refine T.F_law_number.ok sc_law_number (fun vs H Q E h => ?_) (fun cdv A outer s H vs Q E hr h => ?_)
  · obtain ⟨a, rfl, _⟩ := h
    rfl
  · obtain ⟨c, rfl, k⟩ := h
    have d3 : CDivB c 3 := ⟨by decide, by decide⟩
    refine ⟨_, (pss_cons (ps_if (pt_cmpR op_eq (pe_op op_modN (pv 0) pe_int) pe_int (nomark _)) (pss_one (ps_ret (pe_op op_sub (pe_op op_modN (pe_op op_fdivB (pv 0) pe_int) pe_int) pe_int))) pss_nil) (pss_cons (ps_if (pt_cmpR op_eq (pe_op op_modN (pv 0) pe_int) pe_int (nomark _)) (pss_one (ps_ret (pe_op op_sub (pe_op op_modN (pe_op op_fdivB (pv 0) pe_int) pe_int) pe_int))) pss_nil) (pss_one (ps_ret (pe_op op_sub (pe_op op_modN (pe_op op_fdivB (pv 0) pe_int) (pe_op op_sub (pe_op op_mul pe_int (pe_op op_pow pe_int pe_int)) pe_int)) (pe_op op_sub (pe_op op_pow pe_int pe_int) pe_int)))))), ?_⟩
    refine ⟨_, rfl, _, _, rfl, rfl, (show (3 : Int) ≠ 0 by decide), rfl, _, rfl, ?_⟩
    refine iteI (fun h0 => ?_) (fun h0 => ?_)
    · refine ⟨_, rfl, _, _, rfl, rfl, d3, _, _, rfl, rfl, (show (19 : Int) ≠ 0 by decide), _, _, rfl, rfl, ?_⟩
      (try dsimp only)
      rw [num_a h0]
      exact k
    · refine ⟨_, rfl, _, _, rfl, rfl, (show (3 : Int) ≠ 0 by decide), rfl, _, rfl, ?_⟩
      refine iteI (fun h1 => ?_) (fun h1 => ?_)
      · refine ⟨_, rfl, _, _, rfl, rfl, d3, _, _, rfl, rfl, (show (2000003 : Int) ≠ 0 by decide), _, _, rfl, rfl, ?_⟩
        (try dsimp only)
        rw [num_b h0 h1]
        exact k
      · refine ⟨_, rfl, _, _, rfl, rfl, d3, _, _, rfl, rfl, ⟨by decide, by decide, by decide⟩, _, _, rfl, rfl, .inl ⟨by decide, by decide⟩, _, _, rfl, rfl, _, _, rfl, rfl, ?_, _, _, rfl, rfl, ⟨by decide, by decide, by decide⟩, _, _, rfl, rfl, _, _, rfl, rfl, ?_⟩
        · exact (show (2 * 10 ^ Int.toNat 30 - 1 : Int) ≠ 0 by decide)
        · (try dsimp only)
          rw [num_c h0 h1 (by decide) (by decide)]
          exact k
theorem fm_in (a m : Int) (hm : 0 < m) : 0 ≤ a.fmod m ∧ a.fmod m < m := ⟨Int.fmod_nonneg_of_pos a hm, Int.fmod_lt_of_pos a hm⟩
/-! whole numbers written -/
theorem ite_b {b : Bool} {A B : Prop} (h1 : b = true → A) (h2 : b = false → B) : if b = true then A else B := by
  cases b
  · rw [if_neg Bool.false_ne_true]; exact h2 rfl
  · rw [if_pos rfl]; exact h1 rfl
theorem hd_at {f : List Nat} {c : Nat} (h : f.head? = some c) : atI (tx f).cps.toList 0 = some c := by
  cases f with
  | nil => cases h
  | cons a r => have : a = c := by simpa using h
                subst this
                exact atI_nat (j := 0) (by simp [tx])
/-- what is no text -/
def NoStr (K : PySem.W.Frag) (v : V) (H : Hp) : Prop := ∃ ty, TyOf K H v ty ∧ PySem.W.kitOne K ty (.type "str") = some false
def sp_written (K : PySem.W.Frag) : Sp := fun vs H Q _ => ∃ v, vs = [v] ∧ ((∃ l, v = vT l ∧ Gd 400 l ∧ ∀ H', Same H H' → Q (.bl (wr l)) H') ∨ (NoStr K v H ∧ Q (.bl false) H))
theorem ok_is_written (T : Txt K mg t) : FnOk Pr w K mg base CX0 1 t.is_written t.d_is_written ["text"] (sp_written K) := by
  refine T.F_is_written.ok sc_is_written (fun vs H Q E h => ?_) (fun cdv A outer s H vs Q E hr h => ?_)
  · obtain ⟨v, rfl, _⟩ := h
    rfl
  · obtain ⟨v, rfl, h⟩ := h
    have z40 : 1000 < sizeLine := by decide
    refine ⟨_, (pss_cons (ps_if (pt_not (pt_val (pe_callB call_isi (by rfl) T.z_isinstance boot_isinstance (pa_cons (pv 0) (pa_cons (pe_bltn (v := .ty "str") rfl T.z_str boot_str rfl) pa_nil))))) (pss_one (ps_ret pe_bl)) pss_nil) (pss_cons (ps_set (i := 1) sc_is_written.nd rfl (Or.inl rfl) (pe_ifExp (pt_val (pe_bm PySem.F.plainAttrs_str PySem.F.slot_str_startswith PySem.F.type_str_startswith mt_starts (pv 0) (pa_cons pe_str pa_nil))) (pe_slice sl_str (pv 0) (po_some pe_int) po_none) (pv 0))) (pss_cons (ps_if (PW.pt (pw_or (pt_cmpR op_eq (pe_callB call_len (by rfl) T.z_len PySem.boot_len (pa_cons (pv 1) pa_nil)) pe_int (nomark _)) (pw_or1 (pt_cmpR op_gt (pe_callB call_len (by rfl) T.z_len PySem.boot_len (pa_cons (pv 1) pa_nil)) (pe_glob (v := .int 30) rfl T.c_MOST_FIGURES.choose_spec ⟨_, rfl⟩) (nomark _))))) (pss_one (ps_ret pe_bl)) pss_nil) (pss_cons (ps_if (pt_cmpR op_eq (pe_ix ix_str (pv 1) pe_int (fun _ _ => rfl)) pe_str (nomark _)) (pss_one (ps_ret (pe_cmpR op_eq (pv 0) pe_str (nomark _)))) pss_nil) (pss_one (ps_ret (pe_callB (call_all rfl) (by rfl) T.z_all boot_all (pa_cons (pe_comp (xs := ["sign"]) rfl (show CompOk ["text", "figures"] (defScope s_is_written) _ from ⟨rfl, by decide +kernel, by decide +kernel, by decide +kernel, by decide +kernel, by decide +kernel⟩) (pi_str (pv 1)) (fun _ _ _ _ _ => (pg_name (i := 2) (by show List.Nodup (["text", "figures", "sign"] : List Str); decide +kernel) rfl (Or.inl rfl))) (fun _ _ _ _ _ => (pe_cmpR op_in_str (pv 2) (pe_glob (v := .str "0123456789") rfl T.c_FIGURES.choose_spec ⟨_, rfl⟩) (by with_unfolding_all rfl)))) pa_nil)))))))), ?_⟩
    rcases h with ⟨l, rfl, g, k⟩ | ⟨⟨ty, y1, y2⟩, k⟩
    case inr =>
      refine ⟨_, rfl, _, _, _, _, rfl, y1, y2, _, rfl, ?_⟩
      (try refine iteT ?_)
      exact k
    have gl := g.1
    refine ⟨_, rfl, _, _, _, _, rfl, TyOf.str _, T.k_ss, _, rfl, ?_⟩
    (try refine iteF ?_)
    refine ⟨_, rfl, rfl, _, _, rfl, rfl, _, rfl, ?_⟩
    dsimp only
    refine (fun (key : ∀ f, f = figs l → (?F : L2.St → Hp → Prop) [some (vT l), some (vT f)] H) => ?main) ?rest
    case main =>
      rw [starts_is]
      refine iteP (fun h => ?_) (fun h => ?_)
      · refine ⟨_, rfl, _, rfl, _, rfl, by rw [tx_len]; omega, ?_⟩
        rw [sl_from (by decide)]
        exact key (l.drop 1) (by rw [figs, if_pos h])
      · refine ⟨_, rfl, ?_⟩
        exact key l (by rw [figs, if_neg h])
    case rest =>
      intro f ef
      have gf : Gd 400 f := by
        rw [ef, figs]
        split
        · exact g.drop 1
        · exact g
      have fl := gf.1
      have lf : LenV K (vT f) H (tx f).length := ⟨by rw [tx_len]; omega, rfl⟩
      rw [tx_len] at lf
      refine ⟨_, rfl, _, _, rfl, lf, rfl, _, rfl, ?_⟩
      dsimp only
      refine iteI (fun h0 => ?_) (fun h0 => ?_)
      · refine (by show Q (.bl false) H; have e : wr l = false := by rw [wr, ← ef, decide_eq_false (by omega)]; rfl
                   have := k H (Same.refl _); rw [e] at this; exact this)
      refine ⟨_, rfl, _, _, rfl, lf, _, _, rfl, rfl, _, rfl, ?_⟩
      dsimp only
      refine iteP (fun h1 => ?_) (fun h1 => ?_)
      · refine (by show Q (.bl false) H; have e : wr l = false := by rw [wr, ← ef, decide_eq_false (show ¬ f.length ≤ 30 by omega), Bool.and_false]; rfl
                   have := k H (Same.refl _); rw [e] at this; exact this)
      obtain ⟨c, r, rfl⟩ : ∃ c r, f = c :: r := by
        cases f with
        | nil => exact absurd rfl h0
        | cons c r => exact ⟨c, r, rfl⟩
      have ewr : wr l = (if c = 48 then decide (l = [48]) else (c :: r).all dg) := by
        rw [wr, ← ef, decide_eq_true (by simp), decide_eq_true (by omega)]
        simp only [List.head?_cons, Option.some.injEq, Bool.and_self, Bool.true_and]
      refine ⟨_, rfl, _, _, _, rfl, rfl, by rw [tx_len]; omega, hd_at rfl, rfl, _, rfl, ?_⟩
      dsimp only
      rw [o_is]
      refine iteS (fun h2 => ?_) (fun h2 => ?_)
      · have hc : c = 48 := by
          have := tx_inj (a := [c]) (b := [48]) h2
          simpa using this
        refine ⟨_, rfl, rfl, ?_⟩
        have e : decide (V.str (tx l) = V.str (Str.ofString "0")) = wr l := by
          rw [ewr, if_pos hc, o_is, Bool.eq_iff_iff, decide_eq_true_eq, decide_eq_true_eq]
          exact ⟨fun z => tx_inj (V.str.inj z), fun z => by rw [z]⟩
        show Q (.bl (decide (V.str (tx l) = V.str (Str.ofString "0")))) H
        rw [e]
        exact k H (Same.refl _)
      · have hc : ¬ c = 48 := fun z => h2 (by subst z; rfl)
        rw [if_neg hc] at ewr
        refine ⟨_, rfl, _, rfl, gf.asc, comp_go (n := (c :: r).length) (fun j zs H3 => (H3 = H ∧ zs = (((c :: r).take j).map dg).map V.bl) ∧ zs.length = j) (by omega) ⟨⟨rfl, rfl⟩, rfl⟩ (fun j zs H3 q => q.2) ?_ ?_ ?_⟩
        · rintro j zs H3 hj ⟨⟨rfl, rfl⟩, lz⟩
          refine ⟨(by show j < (c :: r).toArray.size; simpa using hj), fun y G3 hy => ?_⟩
          obtain ⟨rfl, c', hc', rfl⟩ := hy
          have hc' : (c :: r)[j]? = some c' := by simpa [tx] using hc'
          refine ⟨⟨[some _], rfl, rfl⟩, _, rfl, _, _, rfl, rfl, ⟨rfl, ?_⟩, by rw [List.length_append, lz]; rfl⟩
          rw [List.take_succ, hc', List.map_append, List.map_append]
          have := in_fig c'
          simp only [Option.toList_some, List.map_cons, List.map_nil]
          rw [← this]
        · rintro zs H3 ⟨⟨rfl, rfl⟩, _⟩
          show (c :: r).toArray.size ≤ _
          simp
        · rintro zs H3 lp ⟨⟨rfl, rfl⟩, _⟩ nl
          refine ⟨lp, _, rfl, SqL.of upd_same, ?_⟩
          have ea : (((c :: r).take (c :: r).length).map dg).all id = wr l := by
            rw [List.take_length, ewr, List.all_map]; rfl
          dsimp only
          rw [ea]
          exact k _ (same_upd nl)
--KIND
/-! the kinds by name -/
def spTold (z : Str) : Sp := fun vs H Q _ => ∃ k, vs = [k] ∧ Q (.str z) H
theorem ok_Fractions_told (T : Txt K mg t) : FnOk Pr w K mg base CX0 1 t.Fractions_told t.d_Fractions_told ["self"] (spTold (Str.ofString "fractions")) := by
  refine T.F_Fractions_told.ok sc_Fractions_told (fun vs H Q E h => ?_) (fun cdv A outer s H vs Q E hr h => ?_)
  · obtain ⟨k, rfl, _⟩ := h
    rfl
  · obtain ⟨k0, rfl, k⟩ := h
    exact ⟨_, (pss_one (ps_ret pe_str)), k⟩
theorem ok_Costs_told (T : Txt K mg t) : FnOk Pr w K mg base CX0 1 t.Costs_told t.d_Costs_told ["self"] (spTold (Str.ofString "costs")) := by
  refine T.F_Costs_told.ok sc_Costs_told (fun vs H Q E h => ?_) (fun cdv A outer s H vs Q E hr h => ?_)
  · obtain ⟨k, rfl, _⟩ := h
    rfl
  · obtain ⟨k0, rfl, k⟩ := h
    exact ⟨_, (pss_one (ps_ret pe_str)), k⟩
theorem ok_Truths_told (T : Txt K mg t) : FnOk Pr w K mg base CX0 1 t.Truths_told t.d_Truths_told ["self"] (spTold (Str.ofString "truths")) := by
  refine T.F_Truths_told.ok sc_Truths_told (fun vs H Q E h => ?_) (fun cdv A outer s H vs Q E hr h => ?_)
  · obtain ⟨k, rfl, _⟩ := h
    rfl
  · obtain ⟨k0, rfl, k⟩ := h
    exact ⟨_, (pss_one (ps_ret pe_str)), k⟩
def cutB (l : List Nat) : Option Nat := (Builtin.Str.occurrences (tx l) (Str.ofString " ") 0 (tx l).length 1).head?
def pcs (l : List Nat) : List Nat × List Nat := match cutB l with
  | none => (l, [])
  | some i => (l.take i, l.drop (i + 1))
theorem partB (l : List Nat) : (Txt.partition (tx l) (Str.ofString " ")).1 = tx (pcs l).1 ∧ (Txt.partition (tx l) (Str.ofString " ")).2.2 = tx (pcs l).2 := by
  unfold pcs cutB Txt.partition
  cases h : Builtin.Str.occurrences (tx l) (Str.ofString " ") 0 (tx l).length 1 with
  | nil => exact ⟨rfl, rfl⟩
  | cons i r =>
    have e1 : Builtin.Str.strSub (tx l) 0 i = tx (l.take i) := by
      show (⟨_⟩ : Str) = ⟨_⟩
      simp [tx]
    have e2 : Builtin.Str.strSub (tx l) (i + (Str.ofString " ").length) (tx l).length = tx (l.drop (i + 1)) := by
      show (⟨_⟩ : Str) = ⟨_⟩
      rw [tx_len, show (Str.ofString " ").length = 1 from rfl]
      simp [tx]
      exact List.take_of_length_le (by rw [List.length_drop]; omega)
    exact ⟨e1, e2⟩
theorem pcs_gd {n : Nat} {l : List Nat} (g : Gd n l) : Gd n (pcs l).2 := by
  unfold pcs
  split
  · exact ⟨Nat.zero_le _, fun c hc => by cases hc⟩
  · exact g.drop _
def rcP (l : List Nat) : Prop := tx (pcs l).1 = Str.ofString "residues" ∧ wr (pcs l).2 = true
theorem bad_of {H : Hp} {n : Int} (h : ¬ GoodP n) : Bad K H (.int n) := by
  refine .inl ⟨n, rfl, ?_⟩
  by_cases h1 : 1000000 < n
  · exact .inl h1
  · right
    by_cases h2 : n < 2
    · exact isP_small h2
    · cases e : isP n with
      | false => rfl
      | true => exact absurd ⟨by omega, by omega, e⟩ h
def spx_called (t : Adr) : Sp := fun vs H Q E => ∃ l, vs = [vT l] ∧ Gd 100 l ∧ ((rcP l ∧ GoodP (nm (pcs l).2) ∧ ∀ kv H', Same H H' → KAt t.Residues (pfs (nm (pcs l).2)) H' kv → Q kv H') ∨ (¬ (rcP l ∧ GoodP (nm (pcs l).2)) ∧ ∀ H', Same H H' → E (.ref t.NoKind) none H'))
theorem okx_residues_called (T : Txt K mg t) : FnOk Pr w K mg base (CX1 Pr w) 5 t.residues_called t.d_residues_called ["text"] (spx_called t) := by
  refine T.F_residues_called.okx sc_residues_called (fun vs H Q E h => ?_) (fun cdv A outer s H vs Q E hr h => ?_)
  · obtain ⟨l, rfl, _⟩ := h
    rfl
  · obtain ⟨l, rfl, g, h⟩ := h
    have z40 : 1000 < sizeLine := by decide
    have gl := g.1
    have gp := (pcs_gd g).mono (show 100 ≤ 400 by decide)
    obtain ⟨p1, p2⟩ := partB l
    refine ⟨_, (pss_cons (ps_set (i := 1) sc_residues_called.nd rfl (Or.inl rfl) (pe_bm PySem.F.plainAttrs_str PySem.F.slot_str_partition PySem.F.type_str_partition mt_partition (pv 0) (pa_cons pe_str pa_nil))) (pss_cons (ps_if (PW.pt (pw_or (pt_cmpR op_ne (pe_ix ix_tup (pv 1) pe_int (fun _ _ => rfl)) pe_str (nomark _)) (pw_or1 (pt_not (pt_val (pe_call (ok_is_written T) (hr.mono (by decide)) rfl T.m_is_written T.F_is_written.kp T.b_is_written .nil pass0 (pa_cons (pe_ix ix_tup (pv 1) pe_int (fun _ _ => rfl)) pa_nil))))))) (pss_one (ps_raise thru_cx rfl T.x_NoKind.ex rfl T.m_NoKind (pa_cons pe_str pa_nil))) pss_nil) (pss_one (ps_ret (PEX.thru thru_cx (px_make T.M_Residues (okx_Residues___init__ T) (hr.mono (by decide)) rfl T.m_Residues T.b_Residues___init__ .nil (pa_cons (pe_callTy call_int_text (by rfl) T.z_int boot_int (pa_cons (pe_ix ix_tup (pv 1) pe_int (fun _ _ => rfl)) pa_nil)) pa_nil))))))), ?_⟩
    refine ⟨_, rfl, rfl, _, _, rfl, rfl, rfl, by rw [tx_len]; omega, fun pp np => ?_⟩
    rw [p1, p2]
    have t1 := same_upd (o := .tup [.str (tx (pcs l).1), .str (Txt.partition (tx l) (Str.ofString " ")).2.1, .str (tx (pcs l).2)]) np
    have h1 := upd_same (H := H) (a := pp) (o := .tup [.str (tx (pcs l).1), .str (Txt.partition (tx l) (Str.ofString " ")).2.1, .str (tx (pcs l).2)])
    revert t1 h1
    generalize upd H pp (.tup [.str (tx (pcs l).1), .str (Txt.partition (tx l) (Str.ofString " ")).2.1, .str (tx (pcs l).2)]) = H1
    intro t1 h1
    have no : ¬ rcP l → ∀ H', Same H H' → E (.ref t.NoKind) none H' := fun z => by
      rcases h with ⟨h, _⟩ | ⟨_, k⟩
      · exact absurd h z
      · exact k
    refine ⟨_, rfl, _, _, _, _, rfl, rfl, SqT.of h1, rfl, rfl, _, rfl, ?_⟩
    dsimp only
    refine iteNS (fun h2 => ?_) (fun h2 => ?_)
    · exact ⟨(by show 1 ≤ sizeLine; decide), no (fun z => h2 z.1) _ t1⟩
    refine ⟨_, rfl, _, _, _, _, rfl, rfl, SqT.of h1, rfl, _, rfl, .inl ⟨(pcs l).2, rfl, gp, fun H2 s2 => ⟨_, rfl, ?_⟩⟩⟩
    cases hw : wr (pcs l).2 with
    | false =>
      (try refine iteT ?_)
      exact ⟨(by show 1 ≤ sizeLine; decide), no (fun z => by rw [z.2] at hw; cases hw) _ (t1.trans s2)⟩
    | true =>
      (try refine iteF ?_)
      obtain ⟨e1, e2⟩ := wr_int hw
      refine ⟨_, rfl, _, _, _, _, rfl, rfl, SqT.of (s2 _ _ h1), rfl, _, _, rfl, e1, e2, fun x dx nx ndx ne => ?_⟩
      have sm := same_made (C := t.Residues) (fs := []) nx ndx
      refine ⟨x, dx, _, rfl, upd_same, ?_⟩
      rcases h with ⟨_, gd, k⟩ | ⟨h, k⟩
      · refine .inl ⟨_, rfl, gd, rfl, ?_⟩
        rw [upd_upd]
        exact k _ _ ((t1.trans s2).trans (same_made (C := t.Residues) (fs := pfs (nm (pcs l).2)) nx ndx)) ⟨x, dx, rfl, upd_same⟩
      · exact .inr ⟨bad_of (fun z => h ⟨⟨h2, hw⟩, z⟩), k _ ((t1.trans s2).trans sm)⟩
/-- a kind of that way -/
def KdAt (t : Adr) (w p : Int) (H : Hp) (kv : V) : Prop := (w = 0 ∧ KAt t.Fractions [] H kv) ∨ (w = 1 ∧ KAt t.Residues (pfs p) H kv ∧ GoodP p) ∨ (w = 2 ∧ KAt t.Costs [] H kv) ∨ (w = 3 ∧ KAt t.Truths [] H kv)
theorem KdAt.same {w p : Int} {H H' : Hp} {kv : V} (s : Same H H') (h : KdAt t w p H kv) : KdAt t w p H' kv := by
  rcases h with ⟨e, h⟩ | ⟨e, h, g⟩ | ⟨e, h⟩ | ⟨e, h⟩
  · exact .inl ⟨e, h.same s⟩
  · exact .inr (.inl ⟨e, h.same s, g⟩)
  · exact .inr (.inr (.inl ⟨e, h.same s⟩))
  · exact .inr (.inr (.inr ⟨e, h.same s⟩))
def Not3 (l : List Nat) : Prop := tx l ≠ Str.ofString "fractions" ∧ tx l ≠ Str.ofString "costs" ∧ tx l ≠ Str.ofString "truths"
def KOk (l : List Nat) (w p : Int) : Prop := (tx l = Str.ofString "fractions" ∧ w = 0) ∨ (tx l = Str.ofString "costs" ∧ w = 2) ∨ (tx l = Str.ofString "truths" ∧ w = 3) ∨ (Not3 l ∧ w = 1 ∧ rcP l ∧ p = nm (pcs l).2 ∧ GoodP p)
def KNo (l : List Nat) : Prop := Not3 l ∧ ¬ (rcP l ∧ GoodP (nm (pcs l).2))
def spx_kindof (K : PySem.W.Frag) (t : Adr) : Sp := fun vs H Q E => ∃ v, vs = [v] ∧ ((∃ l w p, v = vT l ∧ Gd 100 l ∧ KOk l w p ∧ ∀ kv H', Same H H' → KdAt t w p H' kv → Q kv H') ∨ (∃ l, v = vT l ∧ Gd 100 l ∧ KNo l ∧ ∀ H', Same H H' → E (.ref t.NoKind) none H') ∨ (NoStr K v H ∧ E (.ref t.NoKind) none H))
theorem okx_kind_of (T : Txt K mg t) : FnOk Pr w K mg base (CX1 Pr w) 6 t.kind_of t.d_kind_of ["text"] (spx_kindof K t) := by
  refine T.F_kind_of.okx sc_kind_of (fun vs H Q E h => ?_) (fun cdv A outer s H vs Q E hr h => ?_)
  · obtain ⟨v, rfl, _⟩ := h
    rfl
  · obtain ⟨v, rfl, h⟩ := h
    refine ⟨_, (pss_cons (ps_if (pt_not (pt_val (pe_callB call_isi (by rfl) T.z_isinstance boot_isinstance (pa_cons (pv 0) (pa_cons (pe_bltn (v := .ty "str") rfl T.z_str boot_str rfl) pa_nil))))) (pss_one (ps_raise thru_cx rfl T.x_NoKind.ex rfl T.m_NoKind (pa_cons pe_str pa_nil))) pss_nil) (pss_cons (ps_if (pt_cmpR op_eq (pv 0) pe_str (nomark _)) (pss_one (ps_ret (pe_makeO T.M_Fractions rfl T.m_Fractions))) pss_nil) (pss_cons (ps_if (pt_cmpR op_eq (pv 0) pe_str (nomark _)) (pss_one (ps_ret (pe_makeO T.M_Costs rfl T.m_Costs))) pss_nil) (pss_cons (ps_if (pt_cmpR op_eq (pv 0) pe_str (nomark _)) (pss_one (ps_ret (pe_makeO T.M_Truths rfl T.m_Truths))) pss_nil) (pss_one (ps_ret (PEX.thru thru_cx (px_call (okx_residues_called T) (hr.mono (by decide)) rfl T.m_residues_called T.F_residues_called.kp T.b_residues_called .nil (pa_cons (pv 0) pa_nil))))))))), ?_⟩
    rcases h with h | h | ⟨⟨ty, y1, y2⟩, k⟩
    case inr.inr =>
      refine ⟨_, rfl, _, _, _, _, rfl, y1, y2, _, rfl, ?_⟩
      (try refine iteT ?_)
      exact ⟨(by show 1 ≤ sizeLine; decide), k⟩
    · obtain ⟨l, w', p, rfl, g, h, k⟩ := h
      refine ⟨_, rfl, _, _, _, _, rfl, TyOf.str _, T.k_ss, _, rfl, ?_⟩
      (try refine iteF ?_)
      refine ⟨_, rfl, rfl, _, rfl, ?_⟩
      dsimp only
      refine iteS (fun e => ?_) (fun e1 => ?_)
      · intro x dx nx ndx ne
        refine k _ _ (same_made nx ndx) ?_
        rcases h with ⟨_, h⟩ | ⟨h, _⟩ | ⟨h, _⟩ | ⟨h, _⟩
        · exact .inl ⟨h, x, dx, rfl, upd_same⟩
        · rw [e] at h; exact absurd h (by decide +kernel)
        · rw [e] at h; exact absurd h (by decide +kernel)
        · exact absurd e h.1
      refine ⟨_, rfl, rfl, _, rfl, ?_⟩
      dsimp only
      refine iteS (fun e => ?_) (fun e2 => ?_)
      · intro x dx nx ndx ne
        refine k _ _ (same_made nx ndx) ?_
        rcases h with ⟨h, _⟩ | ⟨_, h⟩ | ⟨h, _⟩ | ⟨h, _⟩
        · exact absurd h e1
        · exact .inr (.inr (.inl ⟨h, x, dx, rfl, upd_same⟩))
        · rw [e] at h; exact absurd h (by decide +kernel)
        · exact absurd e h.2.1
      refine ⟨_, rfl, rfl, _, rfl, ?_⟩
      dsimp only
      refine iteS (fun e => ?_) (fun e3 => ?_)
      · intro x dx nx ndx ne
        refine k _ _ (same_made nx ndx) ?_
        rcases h with ⟨h, _⟩ | ⟨h, _⟩ | ⟨_, h⟩ | ⟨h, _⟩
        · exact absurd h e1
        · exact absurd h e2
        · exact .inr (.inr (.inr ⟨h, x, dx, rfl, upd_same⟩))
        · exact absurd e h.2.2
      rcases h with ⟨h, _⟩ | ⟨h, _⟩ | ⟨h, _⟩ | ⟨_, hw, h1, h2, h3⟩
      · exact absurd h e1
      · exact absurd h e2
      · exact absurd h e3
      · subst h2
        exact ⟨_, rfl, l, rfl, g, .inl ⟨h1, h3, fun kv H' s' hk => k kv H' s' (.inr (.inl ⟨hw, hk, h3⟩))⟩⟩
    · obtain ⟨l, rfl, g, ⟨h3, h⟩, k⟩ := h
      refine ⟨_, rfl, _, _, _, _, rfl, TyOf.str _, T.k_ss, _, rfl, ?_⟩
      (try refine iteF ?_)
      refine ⟨_, rfl, rfl, _, rfl, ?_⟩
      dsimp only
      refine iteS (fun e => absurd e h3.1) (fun _ => ?_)
      refine ⟨_, rfl, rfl, _, rfl, ?_⟩
      dsimp only
      refine iteS (fun e => absurd e h3.2.1) (fun _ => ?_)
      refine ⟨_, rfl, rfl, _, rfl, ?_⟩
      dsimp only
      refine iteS (fun e => absurd e h3.2.2) (fun _ => ?_)
      exact ⟨_, rfl, l, rfl, g, .inr ⟨h, k⟩⟩
def sp_kindof (t : Adr) : Sp := fun vs H Q _ => ∃ l w p, vs = [vT l] ∧ (Gd 100 l ∧ KOk l w p) ∧ ∀ kv H', Same H H' → KdAt t w p H' kv → Q kv H'
theorem ok_kind_of (T : Txt K mg t) : FnOk Pr w K mg base CX0 6 t.kind_of t.d_kind_of ["text"] (sp_kindof t) :=
  (okx_kind_of T).quiet.imp fun vs H Q E h => by
    obtain ⟨l, w, p, rfl, ⟨g, h⟩, k⟩ := h
    exact ⟨_, rfl, .inl ⟨l, w, p, rfl, g, h, k⟩⟩
--NAME
/-! names -/
theorem indices_to {n : Nat} {i : Int} (h : (n : Int) ≤ i) : Builtin.Str.strSliceIndices none (some i) 1 n = Builtin.Str.strSliceIndices none (some (n : Int)) 1 n := by
  have h0 : ¬ i < 0 := by omega
  have h1 : ¬ ((n : Int) < 0) := by omega
  have h2 : (1 : Int) > 0 := by decide
  simp only [Builtin.Str.strSliceIndices, h0, h1, h2, if_false, if_true, Int.min_eq_right h, Int.min_self]
theorem sl_toG {p : List Nat} {q : Int} (h0 : 0 ≤ q) : Txt.slice (tx p) none (some q) = tx (p.take q.toNat) := by
  by_cases h1 : q ≤ p.length
  · exact sl_to h0 h1
  · have e2 : Txt.slice (tx p) none (some q) = Txt.slice (tx p) none (some ((p.length : Nat) : Int)) := by
      unfold Txt.slice
      rw [tx_len, indices_to (by omega)]
    rw [e2, sl_to (by omega) (Int.le_refl _), List.take_of_length_le (by omega), List.take_of_length_le (by omega)]
def res9 : List Nat := [114, 101, 115, 105, 100, 117, 101, 115, 32]
theorem res9_is : (Str.ofString "residues ") = tx res9 := by decide +kernel
theorem res8_is : (Str.ofString "residues") = tx [114, 101, 115, 105, 100, 117, 101, 115] := by decide +kernel
def dN (n : Nat) : List Nat := (Nat.toDigits 10 n).map Char.toNat
theorem dN_small {n : Nat} (h : n < 10) : dN n = [48 + n] := by
  have : ∀ m, m < 10 → dN m = [48 + m] := by decide
  exact this n h
theorem dN_big {n : Nat} (h : 10 ≤ n) : dN n = dN (n / 10) ++ [48 + n % 10] := by
  have hm : n % 10 < 10 := Nat.mod_lt n (by decide)
  have t : Nat.toDigits 10 (n / 10) ++ Nat.toDigits 10 (n % 10) = Nat.toDigits 10 (10 * (n / 10) + n % 10) := Nat.toDigits_append_toDigits (by decide) (by omega) hm
  rw [Nat.div_add_mod] at t
  have := dN_small hm
  unfold dN at this ⊢
  rw [← t, List.map_append, this]
theorem dN_dg (n : Nat) : (dN n).all dg = true ∧ 0 < (dN n).length ∧ (0 < n → (dN n).head? ≠ some 48) := by
  induction n using Nat.strongRecOn with
  | _ n ih =>
    by_cases h : n < 10
    · rw [dN_small h]
      refine ⟨?_, by simp, fun h0 e => ?_⟩
      · simp [dg]; omega
      · simp at e; omega
    · obtain ⟨h1, h2, h3⟩ := ih (n / 10) (by omega)
      rw [dN_big (by omega)]
      have hm : n % 10 < 10 := Nat.mod_lt n (by decide)
      refine ⟨?_, by simp, fun _ e => ?_⟩
      · rw [List.all_append, h1]; simp [dg]; omega
      · have := h3 (by omega)
        cases hd : dN (n / 10) with
        | nil => rw [hd] at h2; simp at h2
        | cons a r => rw [hd] at this e; simp at this e; exact this e
theorem dN_len {n k : Nat} (hk : 0 < k) (h : n < 10 ^ k) : (dN n).length ≤ k := by
  induction k generalizing n with
  | zero => omega
  | succ k ih =>
    by_cases h9 : n < 10
    · rw [dN_small h9]; simp
    · rw [dN_big (by omega), List.length_append, List.length_singleton]
      have : 0 < k := by
        cases k with
        | zero => simp at h; omega
        | succ k => omega
      have := ih this (show n / 10 < 10 ^ k by rw [Nat.pow_succ] at h; omega)
      omega
theorem ts_dN (n : Nat) : (ts (n : Int)).cps.toList = dN n := PySem.W.KIN.signs_num n
theorem dN_wr {n : Nat} (h : n < 10 ^ 30) : wr (dN n) = true ∧ nm (dN n) = (n : Int) ∧ PySem.intText? (tx (dN n)) = some (n : Int) := by
  obtain ⟨h1, h2, h3⟩ := dN_dg n
  have hl := dN_len (k := 30) (by decide) h
  have hne : dN n ≠ [] := fun e => by rw [e] at h2; simp at h2
  have e : PySem.intText? (tx (dN n)) = some (n : Int) := by
    have := PySem.intText_digits (x := tx (dN n)) (by simpa [tx] using all_dg h1) (by simpa [tx] using hne) (by rw [tx_len]; omega)
    rw [this]
    have e2 : (tx (dN n)).cps.toList = dN n := by simp [tx]
    rw [e2, dN, PySem.W.KIN.val_back]
  refine ⟨?_, by rw [nm, e]; rfl, e⟩
  have hf : figs (dN n) = dN n := by
    rw [figs, if_neg]
    intro z
    cases hd : dN n with
    | nil => exact hne hd
    | cons a r =>
      rw [hd] at z h1
      have ha : a = 45 := by simpa using z
      subst ha
      simp [dg] at h1
  rw [wr, hf, decide_eq_true h2, decide_eq_true hl]
  simp only [Bool.and_self, Bool.true_and]
  split
  · rename_i hz
    have : n = 0 := by
      by_cases h0 : 0 < n
      · exact absurd hz (h3 h0)
      · omega
    subst this
    decide
  · exact h1
/-- the way that the law tells of a text -/
def LWb (l : List Nat) : Bool := decide (tx (l.take 9) ≠ Str.ofString "residues ") || decide ((l.drop 9).length < 1) || decide (7 < (l.drop 9).length) || decide ((l.drop 9).head? = some 48) || !(l.drop 9).all dg
noncomputable def LW (l : List Nat) : Int := if tx l = Str.ofString "fractions" then 0 else if tx l = Str.ofString "costs" then 2 else if tx l = Str.ofString "truths" then 3 else if LWb l = true then -1 else if 1000000 < nm (l.drop 9) ∨ isP (nm (l.drop 9)) = false then -1 else 1
noncomputable def toldT (w p : Int) : Str := if w = 0 then Str.ofString "fractions" else if w = 2 then Str.ofString "costs" else if w = 3 then Str.ofString "truths" else nameP p
def NOk (l : List Nat) : Prop := (∃ w p, KOk l w p ∧ LW l = w ∧ tx l = toldT w p ∧ (w = 1 → PySem.intText? (tx (l.drop 9)) = some p)) ∨ (KNo l ∧ LW l = -1)
theorem nok3 : NOk (Str.ofString "fractions").cps.toList ∧ NOk (Str.ofString "costs").cps.toList ∧ NOk (Str.ofString "truths").cps.toList := by
  refine ⟨.inl ⟨0, 2, .inl ⟨tx_of _, rfl⟩, ?_, ?_, fun z => absurd z (by decide)⟩, .inl ⟨2, 2, .inr (.inl ⟨tx_of _, rfl⟩), ?_, ?_, fun z => absurd z (by decide)⟩, .inl ⟨3, 2, .inr (.inr (.inl ⟨tx_of _, rfl⟩)), ?_, ?_, fun z => absurd z (by decide)⟩⟩
  · rw [LW, if_pos (tx_of _)]
  · rw [toldT, if_pos rfl]; exact tx_of _
  · rw [LW, if_neg (by rw [tx_of]; decide +kernel), if_pos (tx_of _)]
  · rw [toldT, if_neg (by decide), if_pos rfl]; exact tx_of _
  · rw [LW, if_neg (by rw [tx_of]; decide +kernel), if_neg (by rw [tx_of]; decide +kernel), if_pos (tx_of _)]
  · rw [toldT, if_neg (by decide), if_neg (by decide), if_pos rfl]; exact tx_of _
theorem not3_res (f : List Nat) : Not3 (res9 ++ f) := by
  refine ⟨fun e => ?_, fun e => ?_, fun e => ?_⟩
  · rw [← tx_of (Str.ofString "fractions")] at e
    have : some 114 = (Str.ofString "fractions").cps.toList.head? := congrArg List.head? (tx_inj e)
    exact absurd this (by decide +kernel)
  · rw [← tx_of (Str.ofString "costs")] at e
    have : some 114 = (Str.ofString "costs").cps.toList.head? := congrArg List.head? (tx_inj e)
    exact absurd this (by decide +kernel)
  · rw [← tx_of (Str.ofString "truths")] at e
    have : some 114 = (Str.ofString "truths").cps.toList.head? := congrArg List.head? (tx_inj e)
    exact absurd this (by decide +kernel)
theorem pcs_res (f : List Nat) : pcs (res9 ++ f) = ([114, 101, 115, 105, 100, 117, 101, 115], f) := by
  have hm : (32 : Nat) ∈ (tx (res9 ++ f)).cps.toList := by simp [tx, res9]
  have he : (Builtin.Str.occurrences (tx (res9 ++ f)) (Str.ofString " ") 0 (tx (res9 ++ f)).length 1).isEmpty = false := by
    have := PySem.StrLaws.found_one (tx (res9 ++ f)) 32
    rw [decide_eq_true hm] at this
    rw [show Str.ofString " " = ⟨#[32]⟩ by decide +kernel]
    simpa using this
  have ff := PyProof.Rows.from_first_some (x := tx (res9 ++ f)) (y := Str.ofString " ") (z := tx [32]) (c := 32) (by decide +kernel) rfl he
  rw [beq_iff_eq, (partB (res9 ++ f)).2, tx_app] at ff
  have e1 : [32] ++ (pcs (res9 ++ f)).2 = ((res9 ++ f).dropWhile (· != 32)) := by
    have := tx_inj (a := [32] ++ (pcs (res9 ++ f)).2) (b := ((tx (res9 ++ f)).cps.toList.dropWhile (· != 32))) ff
    simpa [tx] using this
  have e2 : (res9 ++ f).dropWhile (· != 32) = 32 :: f := by simp [res9, List.dropWhile]
  rw [e2] at e1
  have e3 : (pcs (res9 ++ f)).2 = f := by simpa using e1
  have e4 : (pcs (res9 ++ f)).1 = [114, 101, 115, 105, 100, 117, 101, 115] := by
    unfold pcs at e3 ⊢
    unfold cutB at e3 ⊢
    cases h : Builtin.Str.occurrences (tx (res9 ++ f)) (Str.ofString " ") 0 (tx (res9 ++ f)).length 1 with
    | nil => rw [h] at he; cases he
    | cons i r =>
      rw [h] at e3
      simp only [List.head?_cons] at e3 ⊢
      have hs := (PySem.StrLaws.occ_spec (tx (res9 ++ f)) (Str.ofString " ") 0 (tx (res9 ++ f)).length 1 i (by rw [h]; simp)).1
      rw [tx_len, List.length_append, show res9.length = 9 from rfl, show (Str.ofString " ").length = 1 from rfl] at hs
      have hl := congrArg List.length e3
      rw [List.length_drop, List.length_append, show res9.length = 9 from rfl] at hl
      have : i = 8 := by omega
      subst this
      simp [res9]
  exact Prod.ext e4 e3
theorem nok_res {n : Nat} (h : n < 10 ^ 30) : NOk (res9 ++ dN n) := by
  obtain ⟨d1, d2, d3⟩ := dN_dg n
  obtain ⟨w1, w2, w3⟩ := dN_wr h
  have n3 := not3_res (dN n)
  have pc := pcs_res (dN n)
  have rc : rcP (res9 ++ dN n) := ⟨by rw [pc, res8_is], by rw [pc]; exact w1⟩
  have nmq : nm (pcs (res9 ++ dN n)).2 = (n : Int) := by rw [pc]; exact w2
  have dr : (res9 ++ dN n).drop 9 = dN n := by simp [res9]
  have tk : (res9 ++ dN n).take 9 = res9 := by simp [res9]
  have lw0 : LW (res9 ++ dN n) = if LWb (res9 ++ dN n) = true then -1 else if 1000000 < (n : Int) ∨ isP (n : Int) = false then -1 else 1 := by
    rw [LW, if_neg n3.1, if_neg n3.2.1, if_neg n3.2.2, dr, w2]
  by_cases gp : GoodP (n : Int)
  · have hn7 : (dN n).length ≤ 7 := dN_len (by decide) (by have := gp.2.1; omega)
    have hb : LWb (res9 ++ dN n) = false := by
      rw [LWb, tk, dr, res9_is, decide_eq_false (by simp), decide_eq_false (show ¬ (dN n).length < 1 by omega), decide_eq_false (show ¬ 7 < (dN n).length by omega), decide_eq_false (d3 (by have := gp.1; omega)), d1]
      rfl
    refine .inl ⟨1, (n : Int), .inr (.inr (.inr ⟨n3, rfl, rc, nmq.symm, gp⟩)), ?_, ?_, fun _ => by rw [dr]; exact w3⟩
    · rw [lw0, hb, if_neg (by decide), if_neg]
      intro z
      rcases z with z | z
      · have := gp.2.1; omega
      · rw [gp.2.2] at z; cases z
    · rw [toldT, if_neg (by decide), if_neg (by decide), if_neg (by decide), nameP, ← tx_app, ← res9_is]
      have : Str.ofString (toString ((n : Nat) : Int)) = tx (dN n) := by rw [← ts_dN, tx_of]; rfl
      rw [this]
  · refine .inr ⟨⟨n3, fun z => gp (by have := z.2; rw [nmq] at this; exact this)⟩, ?_⟩
    rw [lw0]
    split
    · rfl
    · rename_i hb
      rw [if_pos]
      by_cases h6 : 1000000 < (n : Int)
      · exact .inl h6
      · right
        by_cases h2 : (n : Int) < 2
        · exact isP_small h2
        · cases e : isP (n : Int) with
          | false => rfl
          | true => exact absurd ⟨by omega, by omega, e⟩ gp
def oddN : List Str := [Str.ofString "", Str.ofString "residues", Str.ofString "residues ", Str.ofString "residues 07", Str.ofString "residues -7", Str.ofString "residues 7 ", Str.ofString " residues 7", Str.ofString "Residues 7",
  Str.ofString "fraction", Str.ofString "fractions ", Str.ofString "Costs", Str.ofString "truth", Str.ofString "residues 7/1", Str.ofString "residues  7", Str.ofString "residues " ++ repS (Str.ofString "1") 31, Str.ofString "fractions 7", Str.ofString "residues seven", Str.ofString "costs 0"]
instance (l : List Nat) : Decidable (rcP l) := by unfold rcP; exact inferInstance
instance (l : List Nat) : Decidable (Not3 l) := by unfold Not3; exact inferInstance
theorem oddN_ok : ∀ z ∈ oddN, Gd 100 z.cps.toList ∧ Not3 z.cps.toList ∧ LWb z.cps.toList = true ∧ (¬ rcP z.cps.toList ∨ nm (pcs z.cps.toList).2 < 2) := by decide +kernel
theorem nok_odd {z : Str} (h : z ∈ oddN) : Gd 100 z.cps.toList ∧ NOk z.cps.toList := by
  obtain ⟨g, h3, hb, hr⟩ := oddN_ok z h
  refine ⟨g, .inr ⟨⟨h3, fun y => ?_⟩, by rw [LW, if_neg h3.1, if_neg h3.2.1, if_neg h3.2.2, if_pos hb]⟩⟩
  rcases hr with hr | hr
  · exact hr y.1
  · have := y.2.1; omega
--WAY
/-- what is no text, and stays so -/
def OddV (H : Hp) (v : V) : Prop := v = .non ∨ (∃ i, v = .int i) ∨ (∃ b, v = .bl b) ∨ (∃ p xs, v = .ref p ∧ H p = some (.tup xs)) ∨ ∃ p xs, v = .ref p ∧ H p = some (.lst xs)
theorem OddV.same {H H' : Hp} {v : V} (s : Same H H') (h : OddV H v) : OddV H' v := by
  rcases h with h | h | h | ⟨p, xs, e, h⟩ | ⟨p, xs, e, h⟩
  · exact .inl h
  · exact .inr (.inl h)
  · exact .inr (.inr (.inl h))
  · exact .inr (.inr (.inr (.inl ⟨p, xs, e, s _ _ h⟩)))
  · exact .inr (.inr (.inr (.inr ⟨p, xs, e, s _ _ h⟩)))
theorem OddV.no (T : Txt K mg t) {H : Hp} {v : V} (h : OddV H v) : NoStr K v H := by
  rcases h with rfl | ⟨i, rfl⟩ | ⟨b, rfl⟩ | ⟨p, xs, rfl, h⟩ | ⟨p, xs, rfl, h⟩
  · exact ⟨_, .non, T.k_ns⟩
  · exact ⟨_, .int _, T.k_is⟩
  · exact ⟨_, .bl _, T.k_bs⟩
  · exact ⟨_, .tup h, T.k_ts⟩
  · exact ⟨_, .lst h, T.k_ls⟩
theorem at_in {α : Type} {xs : List α} {i : Int} (h0 : 0 ≤ i) (h1 : i < xs.length) : ∃ x, atI xs i = some x ∧ x ∈ xs := by
  obtain ⟨n, rfl⟩ := Int.eq_ofNat_of_zero_le h0
  have hn : n < xs.length := by omega
  exact ⟨xs[n], atI_nat (List.getElem?_eq_getElem hn), List.getElem_mem hn⟩
theorem ok_law_whole (T : Txt K mg t) : FnOk Pr w K mg base CX0 1 t.law_whole t.d_law_whole ["_law_found"] (sp_whole K) := by
  refine T.F_law_whole.ok sc_law_whole (fun vs H Q E h => ?_) (fun cdv A outer s H vs Q E hr h => ?_)
  · obtain ⟨v, rfl, _⟩ := h
    rfl
  · obtain ⟨v, rfl, h⟩ := h
    refine ⟨_, (pss_one (ps_ret (pe_and (pe_callB call_isi (by rfl) T.z_isinstance boot_isinstance (pa_cons (pv 0) (pa_cons (pe_bltn (v := .ty "int") rfl T.z_int boot_int rfl) pa_nil))) (pe_one (pe_not (pe_callB call_isi (by rfl) T.z_isinstance boot_isinstance (pa_cons (pv 0) (pa_cons (pe_bltn (v := .ty "bool") rfl T.z_bool boot_bool rfl) pa_nil)))))))), ?_⟩
    rcases h with ⟨⟨i, rfl⟩, k⟩ | ⟨⟨b, rfl⟩ | ⟨ty, hty, hk⟩, k⟩
    · refine ⟨_, rfl, _, _, _, _, rfl, TyOf.int _, T.k_ii, _, rfl, iteT ?_⟩
      refine ⟨_, rfl, _, _, _, _, rfl, TyOf.int _, T.k_ib, _, rfl, ?_⟩
      exact k
    · refine ⟨_, rfl, _, _, _, _, rfl, TyOf.bl _, T.k_bi, _, rfl, iteT ?_⟩
      refine ⟨_, rfl, _, _, _, _, rfl, TyOf.bl _, T.k_bb, _, rfl, ?_⟩
      exact k
    · refine ⟨_, rfl, _, _, _, _, rfl, hty, hk, _, rfl, iteF ?_⟩
      exact k
theorem p100 : (2 : Nat) ^ 100 = 1267650600228229401496703205376 := by decide
theorem log_n {n : Nat} (h : n < 10 ^ 30) : ((n : Int)).natAbs.log2 < 1920 := Nat.lt_of_lt_of_le (log_100 (by rw [p100]; omega)) (by decide)
theorem res_val {n : Nat} : V.str (Str.ofString "residues " ++ Str.ofString (toString ((n : Nat) : Int))) = vT (res9 ++ dN n) := by
  have : Str.ofString (toString ((n : Nat) : Int)) = tx (dN n) := by rw [← ts_dN, tx_of]; rfl
  rw [this, res9_is, tx_app]
  rfl
theorem res_gd {n : Nat} (h : n < 10 ^ 30) : Gd 100 (res9 ++ dN n) := by
  obtain ⟨d1, d2, d3⟩ := dN_dg n
  have hl := dN_len (k := 30) (by decide) h
  refine ⟨by rw [List.length_append]; show 9 + _ ≤ _; omega, fun c hc => ?_⟩
  rcases List.mem_append.mp hc with hc | hc
  · have : ∀ y ∈ res9, y < 128 := by decide
    exact this c hc
  · have := all_dg d1 c hc; omega
def sp_name : Sp := fun vs H Q _ => ∃ c, vs = [.int c] ∧ ∀ v H', Same H H' → ((∃ l, v = vT l ∧ Gd 100 l ∧ NOk l) ∨ OddV H' v) → Q v H'
theorem ok_law_name (T : Txt K mg t) : FnOk Pr w K mg base CX0 1 t.law_name t.d_law_name ["_law_cell"] sp_name := by
  refine T.F_law_name.ok sc_law_name (fun vs H Q E h => ?_) (fun cdv A outer s H vs Q E hr h => ?_)
  · obtain ⟨c, rfl, _⟩ := h
    rfl
  · obtain ⟨c, rfl, k⟩ := h
    have z40 : 1000 < sizeLine := by decide
    have d6 : CDivB c 6 := ⟨by decide, by decide⟩
    refine ⟨_, (pss_cons (ps_set (i := 1) sc_law_name.nd rfl (Or.inl rfl) (pe_op op_modN (pv 0) pe_int)) (pss_cons (ps_set (i := 2) sc_law_name.nd rfl (Or.inl rfl) (pe_op op_modN (pe_op op_fdivB (pv 0) pe_int) pe_int)) (pss_cons (ps_if (pt_cmpR op_lt (pv 1) pe_int (nomark _)) (pss_one (ps_ret (pe_ix ix_list (pe_lst (pa_cons pe_str (pa_cons pe_str (pa_cons pe_str pa_nil)))) (pv 1) (fun _ _ => rfl)))) pss_nil) (pss_cons (ps_if (pt_cmpR op_eq (pv 1) pe_int (nomark _)) (pss_one (ps_ret (pe_op op_add_str pe_str (pe_callTy call_str_int (by rfl) T.z_str boot_str (pa_cons (pv 2) pa_nil))))) pss_nil) (pss_cons (ps_if (pt_cmpR op_eq (pv 1) pe_int (nomark _)) (pss_cons (ps_set (i := 3) sc_law_name.nd rfl (Or.inl rfl) (pe_lst (pa_cons pe_int (pa_cons pe_int (pa_cons pe_int (pa_cons pe_int (pa_cons pe_int (pa_cons pe_int (pa_cons pe_int (pa_cons pe_int (pa_cons (pe_op op_add (pe_op op_pow pe_int pe_int) pe_int) (pa_cons pe_int (pa_cons pe_int (pa_cons pe_int (pa_cons pe_int (pa_cons pe_int pa_nil)))))))))))))))) (pss_one (ps_ret (pe_op op_add_str pe_str (pe_callTy call_str_int (by rfl) T.z_str boot_str (pa_cons (pe_ix ix_list (pv 3) (pe_op op_modN (pe_op op_fdivB (pv 0) pe_int) pe_int) (fun _ _ => rfl)) pa_nil)))))) pss_nil) (pss_cons (ps_set (i := 3) sc_law_name.nd rfl (Or.inl rfl) (pe_lst (pa_cons pe_str (pa_cons pe_str (pa_cons pe_str (pa_cons pe_str (pa_cons pe_str (pa_cons pe_str (pa_cons pe_str (pa_cons pe_str pa_nil)))))))))) (pss_cons (ps_set (i := 3) sc_law_name.nd rfl (Or.inl rfl) (pe_op op_cat (pv 3) (pe_lst (pa_cons pe_str (pa_cons pe_str (pa_cons pe_str (pa_cons pe_str (pa_cons pe_str (pa_cons pe_str (pa_cons (pe_op op_add_str pe_str (pe_op op_mulS pe_str pe_int)) pa_nil)))))))))) (pss_cons (ps_set (i := 3) sc_law_name.nd rfl (Or.inl rfl) (pe_op op_cat (pv 3) (pe_lst (pa_cons pe_str (pa_cons pe_str (pa_cons pe_str (pa_cons pe_non (pa_cons pe_int (pa_cons (pe_tup (pa_cons pe_str pa_nil)) (pa_cons pe_bl pa_nil)))))))))) (pss_one (ps_ret (pe_ix ix_list (pv 3) (pe_op op_modN (pe_op op_fdivB (pv 0) pe_int) pe_int) (fun _ _ => rfl)))))))))))), ?_⟩
    refine ⟨_, rfl, _, _, rfl, rfl, (show (6 : Int) ≠ 0 by decide), ?_⟩
    refine ⟨_, rfl, _, _, rfl, rfl, d6, _, _, rfl, rfl, (show (1000301 : Int) ≠ 0 by decide), ?_⟩
    have f6 := fm_in c 6 (by decide)
    have fn := fm_in (c.fdiv 6) 1000301 (by decide)
    have f14 := fm_in (c.fdiv 6) 14 (by decide)
    have f22 := fm_in (c.fdiv 6) 22 (by decide)
    have res : ∀ n : Nat, n < 10 ^ 30 → ∀ H', Same H H' → Q (.str (Str.ofString "residues " ++ Str.ofString (toString ((n : Nat) : Int)))) H' := fun n hn H' s' => by
      rw [res_val]; exact k _ _ s' (.inl ⟨_, rfl, res_gd hn, nok_res hn⟩)
    have lens : ∀ n : Nat, n < 10 ^ 30 → (Str.ofString "residues ").length + (Str.ofString (toString ((n : Nat) : Int))).length ≤ sizeLine := fun n hn => by
      have : Str.ofString (toString ((n : Nat) : Int)) = tx (dN n) := by rw [← ts_dN, tx_of]; rfl
      rw [this, res9_is, tx_len, tx_len]
      have hl := dN_len (k := 30) (by decide) hn
      show 9 + _ ≤ _
      omega
    refine ⟨_, rfl, _, _, rfl, rfl, _, rfl, ?_⟩
    refine iteP (fun h3 => ?_) (fun h3 => ?_)
    · refine ⟨(by show 3 ≤ sizeLine; decide), fun p0 n0 => ?_⟩
      obtain ⟨v, av, mv⟩ := at_in (xs := [V.str (Str.ofString "fractions"), V.str (Str.ofString "costs"), V.str (Str.ofString "truths")]) f6.1 (by show _ < ((3 : Nat) : Int); exact h3)
      refine ⟨_, rfl, _, _, _, _, rfl, rfl, SqL.of upd_same, av, ?_⟩
      refine k _ _ (same_upd n0) (.inl ?_)
      simp only [List.mem_cons, List.not_mem_nil, or_false] at mv
      rcases mv with rfl | rfl | rfl
      · exact ⟨_, by rw [vT, tx_of], by decide +kernel, nok3.1⟩
      · exact ⟨_, by rw [vT, tx_of], by decide +kernel, nok3.2.1⟩
      · exact ⟨_, by rw [vT, tx_of], by decide +kernel, nok3.2.2⟩
    refine ⟨_, rfl, rfl, _, rfl, ?_⟩
    refine iteI (fun h4 => ?_) (fun h4 => ?_)
    · obtain ⟨n, en⟩ := Int.eq_ofNat_of_zero_le fn.1
      have hn : n < 10 ^ 30 := by omega
      dsimp only
      rw [en]
      exact ⟨_, rfl, _, rfl, log_n hn, _, _, rfl, rfl, lens n hn, res n hn _ (Same.refl _)⟩
    refine ⟨_, rfl, rfl, _, rfl, ?_⟩
    refine iteI (fun h5 => ?_) (fun h5 => ?_)
    · refine ⟨_, _, rfl, rfl, ⟨by decide, by decide, by decide⟩, _, _, rfl, rfl, (by show 14 ≤ sizeLine; decide), fun p0 n0 => ?_⟩
      obtain ⟨v, av, mv⟩ := at_in (xs := [V.int 2, .int 3, .int 5, .int 999983, .int 1000003, .int 4, .int 1, .int 0, .int (10 ^ Int.toNat 29 + 7), .int 961, .int 341, .int 561, .int 1105, .int 294409]) f14.1 (by show _ < ((14 : Nat) : Int); omega)
      obtain ⟨n, rfl, hn⟩ : ∃ n : Nat, v = .int (n : Int) ∧ n < 10 ^ 30 := by
        simp only [List.mem_cons, List.not_mem_nil, or_false] at mv
        rcases mv with rfl | rfl | rfl | rfl | rfl | rfl | rfl | rfl | rfl | rfl | rfl | rfl | rfl | rfl
        · exact ⟨2, rfl, by decide⟩
        · exact ⟨3, rfl, by decide⟩
        · exact ⟨5, rfl, by decide⟩
        · exact ⟨999983, rfl, by decide⟩
        · exact ⟨1000003, rfl, by decide⟩
        · exact ⟨4, rfl, by decide⟩
        · exact ⟨1, rfl, by decide⟩
        · exact ⟨0, rfl, by decide⟩
        · exact ⟨10 ^ 29 + 7, congrArg V.int (by decide), by decide⟩
        · exact ⟨961, rfl, by decide⟩
        · exact ⟨341, rfl, by decide⟩
        · exact ⟨561, rfl, by decide⟩
        · exact ⟨1105, rfl, by decide⟩
        · exact ⟨294409, rfl, by decide⟩
      refine ⟨_, rfl, _, rfl, _, _, rfl, rfl, d6, _, _, rfl, rfl, (show (14 : Int) ≠ 0 by decide), _, _, _, _, rfl, rfl, SqL.of upd_same, av, _, rfl, log_n hn, _, _, rfl, rfl, lens n hn, res n hn _ (same_upd n0)⟩
    · refine ⟨(by show 8 ≤ sizeLine; decide), fun p0 n0 => ?_⟩
      refine ⟨_, rfl, _, _, rfl, rfl, ⟨by decide, by decide, by decide, by decide, by decide +kernel⟩, _, _, rfl, rfl, by decide +kernel, (by show 7 ≤ sizeLine; decide), fun p1 n1 => ?_⟩
      refine ⟨_, _, _, _, rfl, rfl, (same_upd n1) _ _ upd_same, upd_same, (by show 15 ≤ sizeLine; decide), fun p2 n2 => ?_⟩
      refine ⟨_, rfl, (by show 1 ≤ sizeLine; decide), fun p3 n3 => ⟨(by show 7 ≤ sizeLine; decide), fun p4 n4 => ?_⟩⟩
      refine ⟨_, _, _, _, rfl, rfl, ((same_upd n3).trans (same_upd n4)) _ _ upd_same, upd_same, (by show 22 ≤ sizeLine; decide), fun p5 n5 => ?_⟩
      obtain ⟨v, av, mv⟩ := at_in (xs := oddN.map V.str ++ [V.non, .int 7, .ref p3, .bl true]) f22.1 (by show _ < ((22 : Nat) : Int); omega)
      refine ⟨_, rfl, _, rfl, _, _, rfl, rfl, d6, _, _, rfl, rfl, (show (22 : Int) ≠ 0 by decide), _, _, _, _, rfl, rfl, SqL.of upd_same, av, ?_⟩
      refine k _ _ ((((((same_upd n0).trans (same_upd n1)).trans (same_upd n2)).trans (same_upd n3)).trans (same_upd n4)).trans (same_upd n5)) ?_
      rcases List.mem_append.mp mv with mv | mv
      · obtain ⟨z, hz, rfl⟩ := List.mem_map.mp mv
        obtain ⟨g, o⟩ := nok_odd hz
        exact .inl ⟨_, by rw [vT, tx_of], g, o⟩
      · simp only [List.mem_cons, List.not_mem_nil, or_false] at mv
        rcases mv with rfl | rfl | rfl | rfl
        · exact .inr (.inl rfl)
        · exact .inr (.inr (.inl ⟨_, rfl⟩))
        · exact .inr (.inr (.inr (.inr (.inl ⟨_, _, rfl, ((same_upd n4).trans (same_upd n5)) _ _ upd_same⟩))))
        · exact .inr (.inr (.inr (.inl ⟨_, rfl⟩)))
theorem dg_int {f : List Nat} (h : f.all dg = true) (h1 : 0 < f.length) (h2 : f.length ≤ 7) : PySem.intText? (tx f) = some (nm f) := by
  have hne : f ≠ [] := fun e => by rw [e] at h1; simp at h1
  have := PySem.intText_digits (x := tx f) (by simpa [tx] using all_dg h) (by simpa [tx] using hne) (by rw [tx_len]; omega)
  rw [nm, this]
  rfl
theorem sh_str {n : Nat} {l : List Nat} (g : Gd n l) : shaped (.str (tx l)) = true := by
  have : (tx l).cps.all (· < 0x110000) = true := by
    show l.toArray.all (· < 0x110000) = true
    simp only [List.all_toArray, List.all_eq_true, decide_eq_true_eq]
    exact fun c hc => Nat.lt_trans (g.2 c hc) (by decide)
  simp [shaped, PyData.canLay0, PyData.strOk, PyData.depth]
  simpa using this
def sp_way (K : PySem.W.Frag) : Sp := fun vs H Q _ => ∃ v, vs = [v] ∧ ((∃ l, v = vT l ∧ Gd 100 l ∧ ∀ H', Same H H' → Q (.int (LW l)) H') ∨ (NoStr K v H ∧ Q (.int (-1)) H))
theorem ok_law_way (T : Txt K mg t) : FnOk Pr w K mg base CX0 2 t.law_way t.d_law_way ["_law_name_here"] (sp_way K) := by
  refine T.F_law_way.ok sc_law_way (fun vs H Q E h => ?_) (fun cdv A outer s H vs Q E hr h => ?_)
  · obtain ⟨v, rfl, _⟩ := h
    rfl
  · obtain ⟨v, rfl, h⟩ := h
    have z40 : 1000 < sizeLine := by decide
    refine ⟨_, (pss_cons (ps_if (pt_not (pt_val (pe_callB call_isi (by rfl) T.z_isinstance boot_isinstance (pa_cons (pv 0) (pa_cons (pe_bltn (v := .ty "str") rfl T.z_str boot_str rfl) pa_nil))))) (pss_one (ps_ret (pe_un un_neg pe_int))) pss_nil) (pss_cons (ps_if (pt_cmpR (op_inT hr.units1) (pv 0) (pe_tup (pa_cons pe_str (pa_cons pe_str (pa_cons pe_str pa_nil)))) (by with_unfolding_all rfl)) (pss_one (ps_ret (pe_bmT PySem.F.plainAttrs_tuple PySem.F.slot_tuple_index PySem.F.type_tuple_index (mt_indexT hr.units1) (pe_tup (pa_cons pe_str (pa_cons pe_str (pa_cons pe_str (pa_cons pe_str pa_nil))))) (pa_cons (pv 0) pa_nil)))) pss_nil) (pss_cons (ps_set (i := 1) sc_law_way.nd rfl (Or.inl rfl) (pe_slice sl_str (pv 0) (po_some pe_int) po_none)) (pss_cons (ps_if (PW.pt (pw_or (pt_cmpR op_ne (pe_slice sl_str (pv 0) po_none (po_some pe_int)) pe_str (nomark _)) (pw_or (pt_cmpR op_lt (pe_callB call_len (by rfl) T.z_len PySem.boot_len (pa_cons (pv 1) pa_nil)) pe_int (nomark _)) (pw_or (pt_cmpR op_gt (pe_callB call_len (by rfl) T.z_len PySem.boot_len (pa_cons (pv 1) pa_nil)) pe_int (nomark _)) (pw_or1 (pt_cmpR op_eq (pe_ix ix_str (pv 1) pe_int (fun _ _ => rfl)) pe_str (nomark _))))))) (pss_one (ps_ret (pe_un un_neg pe_int))) pss_nil) (pss_cons (ps_for PassesOwn.never rfl (pi_str (pv 1)) (pg_name (i := 2) sc_law_way.nd rfl (Or.inl rfl)) (pss_one (ps_if (pt_cmpR op_notin_str (pv 2) pe_str (by with_unfolding_all rfl)) (pss_one (ps_ret (pe_un un_neg pe_int))) pss_nil))) (pss_cons (ps_if (PW.pt (pw_or (pt_cmpR op_gt (pe_callTy call_int_text (by rfl) T.z_int boot_int (pa_cons (pv 1) pa_nil)) pe_int (nomark _)) (pw_or1 (pt_not (pt_val (pe_call (ok_law_prime T) (hr.mono (by decide)) rfl T.m_law_prime T.F_law_prime.kp T.b_law_prime .nil pass0 (pa_cons (pe_callTy call_int_text (by rfl) T.z_int boot_int (pa_cons (pv 1) pa_nil)) pa_nil))))))) (pss_one (ps_ret (pe_un un_neg pe_int))) pss_nil) (pss_one (ps_ret pe_int)))))))), ?_⟩
    rcases h with ⟨l, rfl, g, k⟩ | ⟨⟨ty, y1, y2⟩, k⟩
    case inr =>
      refine ⟨_, rfl, _, _, _, _, rfl, y1, y2, _, rfl, ?_⟩
      (try refine iteT ?_)
      exact ⟨_, rfl, k⟩
    have gl := g.1
    refine ⟨_, rfl, _, _, _, _, rfl, TyOf.str _, T.k_ss, _, rfl, ?_⟩
    (try refine iteF ?_)
    refine ⟨_, rfl, (by show 3 ≤ sizeLine; decide), fun p0 n0 => ?_⟩
    refine ⟨.str (tx l), [.str (Str.ofString "fractions"), .str (Str.ofString "costs"), .str (Str.ofString "truths")], .str _, .tup (SqT.of upd_same) (.cons (.str _) (.cons (.str _) (.cons (.str _) .nil))), sh_str g, by decide +kernel, fun e he => ?_, _, rfl, ?_⟩
    · simp only [List.mem_cons, List.not_mem_nil, or_false] at he
      rcases he with rfl | rfl | rfl <;> rfl
    have t0 := same_upd (o := .tup [.str (Str.ofString "fractions"), .str (Str.ofString "costs"), .str (Str.ofString "truths")]) n0
    have sm : ∀ a b : Str, PySem.Spec.same (.str a) (.str b) = decide (a = b) := fun a b => by
      by_cases e : a = b
      · rw [e, same_refl]; simp
      · rw [decide_eq_false e]
        cases q : PySem.Spec.same (.str a) (.str b) with
        | false => rfl
        | true => have := eq_of_same _ _ q; injection this with this; exact absurd this e
    dsimp only
    simp only [List.any_cons, List.any_nil, sm, Bool.or_false]
    have idx : ∀ (z : Str) (j : Nat) (wv : Int), tx l = z → LW l = wv → ((j : Nat) : Int) = wv → FirstAt (.str z) [.str (Str.ofString "fractions"), .str (Str.ofString "residues"), .str (Str.ofString "costs"), .str (Str.ofString "truths")] j →
        ∀ H1, Same H H1 → ∀ p1, H1 p1 = none → rIdxT K (.ref p1) [vT l] (upd H1 p1 (.tup [.str (Str.ofString "fractions"), .str (Str.ofString "residues"), .str (Str.ofString "costs"), .str (Str.ofString "truths")])) Q := fun z j wv ez ew ej fj H1 s1 p1 n1 => by
      refine ⟨_, .str z, _, j, rfl, by rw [← ez]; exact .str _, .tup (SqT.of upd_same) (.cons (.str _) (.cons (.str _) (.cons (.str _) (.cons (.str _) .nil)))), by rw [← ez]; exact sh_str g, by decide +kernel, fun e he => ?_, fj, ?_⟩
      · simp only [List.mem_cons, List.not_mem_nil, or_false] at he
        rcases he with rfl | rfl | rfl | rfl <;> rfl
      · rw [ej, ← ew]
        exact k _ (s1.trans (same_upd n1))
    by_cases h1 : tx l = Str.ofString "fractions"
    · rw [h1, decide_eq_true rfl, Bool.true_or]
      (try refine iteT ?_)
      refine ⟨(by show 4 ≤ sizeLine; decide), fun p1 n1 => ⟨⟨p1, _, rfl, upd_same, fun i y z => by injection z with z _; cases z⟩, _, rfl, ?_⟩⟩
      exact idx _ 0 0 h1 (by rw [LW, if_pos h1]) rfl ⟨rfl, fun m hm => absurd hm (Nat.not_lt_zero m)⟩ _ t0 p1 n1
    by_cases h2 : tx l = Str.ofString "costs"
    · rw [h2, show decide (Str.ofString "costs" = Str.ofString "costs") = true from decide_eq_true rfl, Bool.true_or, Bool.or_true]
      (try refine iteT ?_)
      refine ⟨(by show 4 ≤ sizeLine; decide), fun p1 n1 => ⟨⟨p1, _, rfl, upd_same, fun i y z => by injection z with z _; cases z⟩, _, rfl, ?_⟩⟩
      exact idx _ 2 2 h2 (by rw [LW, if_neg h1, if_pos h2]) rfl ⟨rfl, fun m hm e => by
        rcases (by omega : m = 0 ∨ m = 1) with rfl | rfl
        · exact absurd (PyData.str.inj (Option.some.inj (show some (PyData.str (Str.ofString "fractions")) = some (PyData.str (Str.ofString "costs")) from e))) (by decide +kernel)
        · exact absurd (PyData.str.inj (Option.some.inj (show some (PyData.str (Str.ofString "residues")) = some (PyData.str (Str.ofString "costs")) from e))) (by decide +kernel)⟩ _ t0 p1 n1
    by_cases h3 : tx l = Str.ofString "truths"
    · rw [h3, show decide (Str.ofString "truths" = Str.ofString "truths") = true from decide_eq_true rfl, Bool.or_true, Bool.or_true]
      (try refine iteT ?_)
      refine ⟨(by show 4 ≤ sizeLine; decide), fun p1 n1 => ⟨⟨p1, _, rfl, upd_same, fun i y z => by injection z with z _; cases z⟩, _, rfl, ?_⟩⟩
      exact idx _ 3 3 h3 (by rw [LW, if_neg h1, if_neg h2, if_pos h3]) rfl ⟨rfl, fun m hm e => by
        rcases (by omega : m = 0 ∨ m = 1 ∨ m = 2) with rfl | rfl | rfl
        · exact absurd (PyData.str.inj (Option.some.inj (show some (PyData.str (Str.ofString "fractions")) = some (PyData.str (Str.ofString "truths")) from e))) (by decide +kernel)
        · exact absurd (PyData.str.inj (Option.some.inj (show some (PyData.str (Str.ofString "residues")) = some (PyData.str (Str.ofString "truths")) from e))) (by decide +kernel)
        · exact absurd (PyData.str.inj (Option.some.inj (show some (PyData.str (Str.ofString "costs")) = some (PyData.str (Str.ofString "truths")) from e))) (by decide +kernel)⟩ _ t0 p1 n1
    rw [decide_eq_false (Ne.symm h1), decide_eq_false (Ne.symm h2), decide_eq_false (Ne.symm h3)]
    (try refine iteF ?_)
    have k := k _ t0
    revert k t0
    generalize upd H p0 (.tup [.str (Str.ofString "fractions"), .str (Str.ofString "costs"), .str (Str.ofString "truths")]) = H1
    intro t0 k
    rw [LW, if_neg h1, if_neg h2, if_neg h3] at k
    have no : LWb l = true → Q (.int (-1)) H1 := fun e => by rw [if_pos e] at k; exact k
    have gf := g.drop 9
    have fl := gf.1
    refine ⟨_, rfl, _, rfl, _, rfl, by rw [tx_len]; omega, ?_⟩
    rw [sl_from (by decide)]
    show tSeq _ _ _ [some (vT l), some (vT (l.drop 9)), none] H1
    have lf : LenV K (vT (l.drop 9)) H1 (tx (l.drop 9)).length := ⟨by rw [tx_len]; omega, rfl⟩
    rw [tx_len] at lf
    refine ⟨_, rfl, _, rfl, _, rfl, by rw [tx_len]; omega, rfl, _, rfl, ?_⟩
    rw [sl_toG (by decide)]
    dsimp only
    refine iteNS (fun e => ?_) (fun e1 => ?_)
    · exact ⟨_, rfl, no (by rw [LWb, decide_eq_true (show tx (l.take 9) ≠ Str.ofString "residues " from e)]; rfl)⟩
    refine ⟨_, rfl, _, _, rfl, lf, _, _, rfl, rfl, _, rfl, ?_⟩
    dsimp only
    refine iteP (fun e => ?_) (fun e2 => ?_)
    · exact ⟨_, rfl, no (by rw [LWb, decide_eq_true (show (l.drop 9).length < 1 by omega), Bool.or_true]; rfl)⟩
    refine ⟨_, rfl, _, _, rfl, lf, _, _, rfl, rfl, _, rfl, ?_⟩
    dsimp only
    refine iteP (fun e => ?_) (fun e3 => ?_)
    · exact ⟨_, rfl, no (by rw [LWb, decide_eq_true (show 7 < (l.drop 9).length by omega), Bool.or_true]; rfl)⟩
    obtain ⟨c, r, ef⟩ : ∃ c r, l.drop 9 = c :: r := by
      cases e : l.drop 9 with
      | nil => rw [e] at e2; exact absurd (show ((0 : Nat) : Int) < 1 by decide) e2
      | cons c r => exact ⟨c, r, rfl⟩
    refine ⟨_, rfl, _, _, _, rfl, rfl, by rw [tx_len]; omega, hd_at (c := c) (by rw [ef]; rfl), rfl, _, rfl, ?_⟩
    dsimp only
    rw [o_is]
    refine iteS (fun e => ?_) (fun e4 => ?_)
    · have hc : c = 48 := by
        have := tx_inj (a := [c]) (b := [48]) e
        simpa using this
      exact ⟨_, rfl, no (by rw [LWb, decide_eq_true (show (l.drop 9).head? = some 48 by rw [ef, hc]; rfl), Bool.or_true]; rfl)⟩
    have hc : ¬ (l.drop 9).head? = some 48 := fun z => e4 (by rw [ef] at z; have : c = 48 := by simpa using z
                                                              rw [this]; rfl)
    refine ⟨_, rfl, _, rfl, gf.asc, for_it (n := (l.drop 9).length) (fun i σ H3 => ∃ v, σ = [some (vT l), some (vT (l.drop 9)), v] ∧ H3 = H1 ∧ ((l.drop 9).take i).all dg = true) ⟨_, rfl, rfl, rfl⟩ ?_ ?_⟩
    · rintro i σ H3 hi ⟨v, rfl, rfl, hall⟩
      refine ⟨(by show i < (l.drop 9).toArray.size; simpa using hi), fun y G3 hy => ?_⟩
      obtain ⟨rfl, c', hc', rfl⟩ := hy
      have hc' : (l.drop 9)[i]? = some c' := by simpa [tx] using hc'
      have inf := in_fig c'
      refine ⟨_, rfl, _, _, rfl, rfl, _, rfl, ?_⟩
      dsimp only
      rw [inf]
      cases hd : dg c' with
      | true =>
        (try refine iteF ?_)
        refine ⟨_, rfl, rfl, ?_⟩
        rw [List.take_succ, hc', List.all_append, hall]
        simp [hd]
      | false =>
        (try refine iteT ?_)
        have : (l.drop 9).all dg = false := by
          rw [List.all_eq_false]
          exact ⟨c', List.mem_of_getElem? hc', by rw [hd]; decide⟩
        exact ⟨_, rfl, no (by rw [LWb, this]; simp)⟩
    · rintro σ H3 ⟨v, rfl, rfl, hall⟩
      rw [List.take_length] at hall
      have hb : LWb l = false := by
        rw [LWb, decide_eq_false (show ¬ tx (l.take 9) ≠ Str.ofString "residues " from fun z => z e1), decide_eq_false (show ¬ (l.drop 9).length < 1 by omega), decide_eq_false (show ¬ 7 < (l.drop 9).length by omega), decide_eq_false hc, hall]
        rfl
      rw [hb, if_neg (by decide)] at k
      have ei := dg_int hall (by omega) (by omega)
      refine ⟨(by show (l.drop 9).toArray.size ≤ _; simp), ?_⟩
      refine ⟨_, rfl, _, _, rfl, ei, by rw [tx_len]; omega, _, _, rfl, rfl, _, rfl, ?_⟩
      dsimp only
      refine iteP (fun e => ?_) (fun e5 => ?_)
      · rw [if_pos (.inl e)] at k
        exact ⟨_, rfl, k⟩
      refine ⟨_, rfl, _, _, rfl, ei, by rw [tx_len]; omega, _, rfl, by omega, _, rfl, ?_⟩
      cases hp : isP (nm (l.drop 9)) with
      | false =>
        rw [if_pos (.inr hp)] at k
        (try refine iteT ?_)
        exact ⟨_, rfl, k⟩
      | true =>
        rw [if_neg (fun z => z.elim (fun z => e5 z) (fun z => by rw [hp] at z; cases z))] at k
        (try refine iteF ?_)
        exact k
--REF
def sp_refused8 : Sp := fun vs H Q _ => ∃ v, vs = [v] ∧ ((∃ l, v = vT l ∧ Gd 100 l ∧ KNo l) ∨ OddV H v) ∧ ∀ H', Same H H' → Q (.bl true) H'
theorem ok_law_refused (T : Txt K mg t) : FnOk Pr w K mg base CX0 7 t.law_refused t.d_law_refused ["_law_name_here"] sp_refused8 := by
  refine T.F_law_refused.ok sc_law_refused (fun vs H Q E h => ?_) (fun cdv A outer s H vs Q E hr h => ?_)
  · obtain ⟨v, rfl, _⟩ := h
    rfl
  · obtain ⟨v, rfl, h, k⟩ := h
    refine ⟨_, (pss_cons (ps_try (i := 1) (psx_one (psx_expr (px_call (okx_kind_of T) (hr.mono (by decide)) rfl T.m_kind_of T.F_kind_of.kp T.b_kind_of .nil (pa_cons (pv 0) pa_nil)))) rfl rfl sc_law_refused.nd rfl rfl rfl T.m_WeighError (fun _ => (pss_cons (ps_if (PW.pt (pw_or (pt_val (pe_callB (call_isxK K rfl) (by rfl) T.z_isinstance boot_isinstance (pa_cons (pv 1) (pa_cons (pe_glob (v := .ref t.NoText) rfl T.m_NoText rfl) pa_nil)))) (pw_or (pt_val (pe_callB (call_isxK K rfl) (by rfl) T.z_isinstance boot_isinstance (pa_cons (pv 1) (pa_cons (pe_glob (v := .ref t.NoWeight) rfl T.m_NoWeight rfl) pa_nil)))) (pw_or1 (pt_val (pe_callB (call_isxK K rfl) (by rfl) T.z_isinstance boot_isinstance (pa_cons (pv 1) (pa_cons (pe_glob (v := .ref t.WrongKind) rfl T.m_WrongKind rfl) pa_nil)))))))) (pss_one (ps_ret pe_bl)) pss_nil) (pss_one (ps_ret (pe_and (pe_callB (call_isxK K rfl) (by rfl) T.z_isinstance boot_isinstance (pa_cons (pv 1) (pa_cons (pe_glob (v := .ref t.NoKind) rfl T.m_NoKind rfl) pa_nil))) (pe_one (pe_callB (call_isxK K rfl) (by rfl) T.z_isinstance boot_isinstance (pa_cons (pv 1) (pa_cons (pe_bltn (v := .ty "ValueError") rfl T.z_ValueError boot_VE rfl) pa_nil)))))))))) (pss_one (ps_ret pe_bl))), ?_⟩
    refine ⟨_, rfl, v, rfl, ?_⟩
    rcases h with ⟨l, rfl, g, hn⟩ | o
    · refine .inr (.inl ⟨l, rfl, g, hn, fun H1 s1 => ⟨_, rfl, T.e_K, fun xa nx => ?_⟩⟩)
      have f1 := s1.trans (same_upd (o := ExcO xa t.NoKind) nx)
      have hx : upd H1 xa (ExcO xa t.NoKind) xa = some (ExcO xa t.NoKind) := upd_same
      revert f1 hx
      generalize upd H1 xa (ExcO xa t.NoKind) = H2
      intro f1 hx
      refine ⟨_, rfl, _, _, _, _, _, rfl, hx, T.x_NoKind, rfl, T.k_KT, _, rfl, ?_⟩
      (try refine iteF ?_)
      refine ⟨_, rfl, _, _, _, _, _, rfl, hx, T.x_NoKind, rfl, T.k_KW, _, rfl, ?_⟩
      (try refine iteF ?_)
      refine ⟨_, rfl, _, _, _, _, _, rfl, hx, T.x_NoKind, rfl, T.k_KG, _, rfl, ?_⟩
      (try refine iteF ?_)
      refine ⟨_, rfl, _, _, _, _, _, rfl, hx, T.x_NoKind, rfl, T.k_KK, _, rfl, ?_⟩
      (try refine iteT ?_)
      exact ⟨_, rfl, _, _, _, _, _, rfl, hx, T.x_NoKind, rfl, T.k_KV, k _ f1⟩
    · refine .inr (.inr ⟨o.no T, _, rfl, T.e_K, fun xa nx => ?_⟩)
      have s1 := Same.refl H
      have f1 := s1.trans (same_upd (o := ExcO xa t.NoKind) nx)
      have hx : upd H xa (ExcO xa t.NoKind) xa = some (ExcO xa t.NoKind) := upd_same
      revert f1 hx
      generalize upd H xa (ExcO xa t.NoKind) = H2
      intro f1 hx
      refine ⟨_, rfl, _, _, _, _, _, rfl, hx, T.x_NoKind, rfl, T.k_KT, _, rfl, ?_⟩
      (try refine iteF ?_)
      refine ⟨_, rfl, _, _, _, _, _, rfl, hx, T.x_NoKind, rfl, T.k_KW, _, rfl, ?_⟩
      (try refine iteF ?_)
      refine ⟨_, rfl, _, _, _, _, _, rfl, hx, T.x_NoKind, rfl, T.k_KG, _, rfl, ?_⟩
      (try refine iteF ?_)
      refine ⟨_, rfl, _, _, _, _, _, rfl, hx, T.x_NoKind, rfl, T.k_KK, _, rfl, ?_⟩
      (try refine iteT ?_)
      exact ⟨_, rfl, _, _, _, _, _, rfl, hx, T.x_NoKind, rfl, T.k_KV, k _ f1⟩
/-- the class of a kind -/
theorem KdAt.ty (T : Txt K mg t) {w' p : Int} {H : Hp} {kv : V} (h : KdAt t w' p H kv) : ∃ ty, TyOf K H kv ty ∧ PySem.W.kitOne K ty (.ref t.Fractions) = some (decide ((0 : Int) = w')) ∧ PySem.W.kitOne K ty (.ref t.Residues) = some (decide ((1 : Int) = w')) ∧ PySem.W.kitOne K ty (.ref t.Costs) = some (decide ((2 : Int) = w')) ∧ PySem.W.kitOne K ty (.ref t.Truths) = some (decide ((3 : Int) = w')) ∧
    PySem.W.kitOne K ty (.ref t.Kind) = some true ∧ PySem.W.kitOne K ty (.ref t.Field) = some (decide (w' < 2)) ∧ PySem.W.kitOne K ty (.ref t.Picking) = some (decide (1 < w')) := by
  rcases h with ⟨rfl, x, dx, rfl, h⟩ | ⟨rfl, ⟨x, dx, rfl, h⟩, _⟩ | ⟨rfl, x, dx, rfl, h⟩ | ⟨rfl, x, dx, rfl, h⟩
  · exact ⟨_, .ins h T.C_Fractions T.hc_F T.hn T.htk T.hm_F, T.i_F_Fr, T.i_F_Re, T.i_F_Co, T.i_F_Tr, T.i_F_Ki, T.i_F_Fi, T.i_F_Pi⟩
  · exact ⟨_, .ins h T.C_Residues T.hc_R T.hn T.htk T.hm_R, T.i_R_Fr, T.i_R_Re, T.i_R_Co, T.i_R_Tr, T.i_R_Ki, T.i_R_Fi, T.i_R_Pi⟩
  · exact ⟨_, .ins h T.C_Costs T.hc_C T.hn T.htk T.hm_C, T.i_C_Fr, T.i_C_Re, T.i_C_Co, T.i_C_Tr, T.i_C_Ki, T.i_C_Fi, T.i_C_Pi⟩
  · exact ⟨_, .ins h T.C_Truths T.hc_T T.hn T.htk T.hm_T, T.i_T_Fr, T.i_T_Re, T.i_T_Co, T.i_T_Tr, T.i_T_Ki, T.i_T_Fi, T.i_T_Pi⟩
theorem KdAt.w03 {w' p : Int} {H : Hp} {kv : V} (h : KdAt t w' p H kv) : 0 ≤ w' ∧ w' ≤ 3 := by
  rcases h with ⟨rfl, _⟩ | ⟨rfl, _⟩ | ⟨rfl, _⟩ | ⟨rfl, _⟩ <;> decide
def sp_classes (t : Adr) : Sp := fun vs H Q _ => ∃ kv w' p, vs = [kv, .int w'] ∧ KdAt t w' p H kv ∧ ∀ H', Same H H' → Q (.bl true) H'
theorem ok_law_classes (T : Txt K mg t) : FnOk Pr w K mg base CX0 1 t.law_classes t.d_law_classes ["_law_kind", "_law_way_here"] (sp_classes t) := by
  refine T.F_law_classes.ok sc_law_classes (fun vs H Q E h => ?_) (fun cdv A outer s H vs Q E hr h => ?_)
  · obtain ⟨kv, w', p, rfl, _⟩ := h
    rfl
  · obtain ⟨kv, w', p, rfl, hk, k⟩ := h
    refine ⟨_, (pss_cons (ps_set (i := 2) sc_law_classes.nd rfl (Or.inl rfl) (pe_lst (pa_cons (pe_callB call_isiC (by rfl) T.z_isinstance boot_isinstance (pa_cons (pv 0) (pa_cons (pe_glob (v := .ref t.Fractions) rfl T.m_Fractions rfl) pa_nil))) (pa_cons (pe_callB call_isiC (by rfl) T.z_isinstance boot_isinstance (pa_cons (pv 0) (pa_cons (pe_glob (v := .ref t.Residues) rfl T.m_Residues rfl) pa_nil))) (pa_cons (pe_callB call_isiC (by rfl) T.z_isinstance boot_isinstance (pa_cons (pv 0) (pa_cons (pe_glob (v := .ref t.Costs) rfl T.m_Costs rfl) pa_nil))) (pa_cons (pe_callB call_isiC (by rfl) T.z_isinstance boot_isinstance (pa_cons (pv 0) (pa_cons (pe_glob (v := .ref t.Truths) rfl T.m_Truths rfl) pa_nil))) pa_nil)))))) (pss_cons (ps_if (PW.pt (pw_or (pt_cmpR (op_neD hr.units) (pv 2) (pe_comp (xs := ["_law_k"]) rfl (show CompOk ["_law_kind", "_law_way_here", "_law_found"] (defScope s_law_classes) _ from ⟨rfl, by decide +kernel, by decide +kernel, by decide +kernel, by decide +kernel, by decide +kernel⟩) (pi_range1 rfl T.z_range (pa_cons pe_int pa_nil)) (fun _ _ _ _ _ => (pg_name (i := 3) (by show List.Nodup (["_law_kind", "_law_way_here", "_law_found", "_law_k"] : List Str); decide +kernel) rfl (Or.inl rfl))) (fun _ _ _ _ _ => (pe_cmpR op_eq (pv 3) (pv 1) (nomark _)))) (nomark _)) (pw_or1 (pt_not (pt_val (pe_callB call_isiC (by rfl) T.z_isinstance boot_isinstance (pa_cons (pv 0) (pa_cons (pe_glob (v := .ref t.Kind) rfl T.m_Kind rfl) pa_nil)))))))) (pss_one (ps_ret pe_bl)) pss_nil) (pss_one (ps_ret (pe_and (pe_cmpR op_eq (pe_callB call_isiC (by rfl) T.z_isinstance boot_isinstance (pa_cons (pv 0) (pa_cons (pe_glob (v := .ref t.Field) rfl T.m_Field rfl) pa_nil))) (pe_cmpR op_lt (pv 1) pe_int (nomark _)) (nomark _)) (pe_one (pe_cmpR op_eq (pe_callB call_isiC (by rfl) T.z_isinstance boot_isinstance (pa_cons (pv 0) (pa_cons (pe_glob (v := .ref t.Picking) rfl T.m_Picking rfl) pa_nil))) (pe_cmpR op_gt (pv 1) pe_int (nomark _)) (nomark _)))))))), ?_⟩
    have tyS : ∀ {H'}, Same H H' → _ := fun {H'} (s' : Same H H') => KdAt.ty T (hk.same s')
    obtain ⟨ty, y, f0, f1, f2, f3, f4, f5, f6⟩ := tyS (Same.refl H)
    refine ⟨_, rfl, _, _, _, _, rfl, y, f0, _, rfl, _, _, _, _, rfl, y, f1, _, rfl, _, _, _, _, rfl, y, f2, _, rfl, _, _, _, _, rfl, y, f3, (by show 4 ≤ sizeLine; decide), fun p0 n0 => ?_⟩
    have t0 := same_upd (o := .lst [.bl (decide ((0 : Int) = w')), .bl (decide ((1 : Int) = w')), .bl (decide ((2 : Int) = w')), .bl (decide ((3 : Int) = w'))]) n0
    have k0 := upd_same (H := H) (a := p0) (o := .lst [.bl (decide ((0 : Int) = w')), .bl (decide ((1 : Int) = w')), .bl (decide ((2 : Int) = w')), .bl (decide ((3 : Int) = w'))])
    revert t0 k0
    generalize upd H p0 (.lst [.bl (decide ((0 : Int) = w')), .bl (decide ((1 : Int) = w')), .bl (decide ((2 : Int) = w')), .bl (decide ((3 : Int) = w'))]) = H0
    intro t0 k0
    refine ⟨_, rfl, _, rfl, (by decide), (by decide), comp_go (n := 4) (fun j zs F => (F = H0 ∧ zs = ((List.range j).map fun i => decide (((i : Nat) : Int) = w')).map V.bl) ∧ zs.length = j) (by decide) ⟨⟨rfl, rfl⟩, rfl⟩ (fun j zs F q => q.2) ?_ ?_ ?_⟩
    · rintro j zs F hj ⟨⟨rfl, rfl⟩, lz⟩
      refine ⟨(show j < (4 : Int).toNat from hj), fun y' F' hy => ?_⟩
      obtain ⟨rfl, rfl⟩ := hy
      refine ⟨⟨[some _], rfl, rfl⟩, _, rfl, _, rfl, rfl, ⟨rfl, ?_⟩, by rw [List.length_append, lz]; rfl⟩
      rw [List.range_succ, List.map_append, List.map_append]
      have : decide (V.int (0 + (j : Int)) = V.int w') = decide (((j : Nat) : Int) = w') := by
        rw [show (0 : Int) + (j : Int) = (j : Int) by omega, Bool.eq_iff_iff, decide_eq_true_eq, decide_eq_true_eq]
        exact ⟨fun z => V.int.inj z, fun z => by rw [z]⟩
      simp only [List.map_cons, List.map_nil]
      rw [this]
    · rintro zs F ⟨⟨rfl, rfl⟩, lz⟩
      exact (show (4 : Int).toNat ≤ 4 from Nat.le_refl _)
    · rintro zs F lp ⟨⟨rfl, rfl⟩, lz⟩ nl
      have t1 := same_upd (o := .lst (((List.range 4).map fun i => decide (((i : Nat) : Int) = w')).map V.bl)) nl
      have i1 : Is K (upd F lp (.lst (((List.range 4).map fun i => decide (((i : Nat) : Int) = w')).map V.bl))) (.ref p0) (.list [.bool (decide ((0 : Int) = w')), .bool (decide ((1 : Int) = w')), .bool (decide ((2 : Int) = w')), .bool (decide ((3 : Int) = w'))]) :=
        .lst (SqL.of (t1 _ _ k0)) (.cons (.bl _) (.cons (.bl _) (.cons (.bl _) (.cons (.bl _) .nil))))
      have i2 : Is K (upd F lp (.lst (((List.range 4).map fun i => decide (((i : Nat) : Int) = w')).map V.bl))) (.ref lp) (.list [.bool (decide ((0 : Int) = w')), .bool (decide ((1 : Int) = w')), .bool (decide ((2 : Int) = w')), .bool (decide ((3 : Int) = w'))]) :=
        .lst (SqL.of upd_same) (.cons (.bl _) (.cons (.bl _) (.cons (.bl _) (.cons (.bl _) .nil))))
      refine ⟨_, _, i1, i2, rfl, rfl, rfl, _, rfl, ?_⟩
      dsimp only
      rw [same_refl]
      (try refine iteF ?_)
      have t01 := t0.trans t1
      clear i1 i2 nl
      revert t01
      generalize upd F lp (.lst (((List.range 4).map fun i => decide (((i : Nat) : Int) = w')).map V.bl)) = F1
      intro t01
      obtain ⟨ty, y, f0, f1, f2, f3, f4, f5, f6⟩ := tyS t01
      refine ⟨_, rfl, _, _, _, _, rfl, y, f4, _, rfl, ?_⟩
      (try refine iteF ?_)
      refine ⟨_, rfl, _, _, _, _, rfl, y, f5, _, rfl, _, _, rfl, rfl, rfl, _, rfl, ?_⟩
      rw [show decide (V.bl (decide (w' < 2)) = V.bl (decide (w' < 2))) = true from decide_eq_true rfl]
      (try refine iteT ?_)
      refine ⟨_, rfl, _, _, _, _, rfl, y, f6, _, rfl, _, _, rfl, rfl, rfl, ?_⟩
      rw [show decide (V.bl (decide (1 < w')) = V.bl (decide (1 < w'))) = true from decide_eq_true rfl]
      exact k _ t01
/-! things of any sort -/
def Scl (x : V) : Prop := (∃ i, x = .int i) ∨ (∃ b, x = .bl b) ∨ x = .non
def Oth (H : Hp) (v : V) : Prop := (∃ z, v = .str z) ∨ (∃ p xs, v = .ref p ∧ H p = some (.lst xs)) ∨ ∃ p kvs, v = .ref p ∧ H p = some (.dK kvs)
/-- a thing: x tells the tuple's members -/
def Thg (H : Hp) (v : V) (x : Option (List V)) : Prop := (x = none ∧ ((∃ i, v = .int i) ∨ (∃ b, v = .bl b) ∨ v = .non ∨ Oth H v)) ∨ ∃ p xs, x = some xs ∧ v = .ref p ∧ H p = some (.tup xs) ∧ xs.length ≤ 3 ∧ ∀ y ∈ xs, Scl y
theorem Thg.same {H H' : Hp} {v : V} {x : Option (List V)} (s : Same H H') (h : Thg H v x) : Thg H' v x := by
  rcases h with ⟨e, h | h | h | h | ⟨p, xs, h1, h2⟩ | ⟨p, xs, h1, h2⟩⟩ | ⟨p, xs, e, h1, h2, h3⟩
  · exact .inl ⟨e, .inl h⟩
  · exact .inl ⟨e, .inr (.inl h)⟩
  · exact .inl ⟨e, .inr (.inr (.inl h))⟩
  · exact .inl ⟨e, .inr (.inr (.inr (.inl h)))⟩
  · exact .inl ⟨e, .inr (.inr (.inr (.inr (.inl ⟨p, xs, h1, s _ _ h2⟩))))⟩
  · exact .inl ⟨e, .inr (.inr (.inr (.inr (.inr ⟨p, xs, h1, s _ _ h2⟩))))⟩
  · exact .inr ⟨p, xs, e, h1, s _ _ h2, h3⟩
theorem Oth.ty (T : Txt K mg t) {H : Hp} {v : V} (h : Oth H v) : v ≠ .non ∧ ∃ ty, TyOf K H v ty ∧ PySem.W.kitOne K ty (.type "int") = some false ∧ PySem.W.kitOne K ty (.type "bool") = some false ∧ PySem.W.kitOne K ty (.type "tuple") = some false := by
  rcases h with ⟨z, rfl⟩ | ⟨p, xs, rfl, h⟩ | ⟨p, xs, rfl, h⟩
  · exact ⟨(by intro z; cases z), _, .str _, T.k_si, T.k_sb, T.k_st⟩
  · exact ⟨(by intro z; cases z), _, .lst h, T.k_li, T.k_lb, T.k_lt⟩
  · exact ⟨(by intro z; cases z), _, .dK h, T.k_di, T.k_db, T.k_dt⟩
def fw : Option (List V) → Bool
  | some [.int a, .int b] => decide (1 ≤ b) && decide (dv a b = 1)
  | _ => false
def rw1 (p : Int) : V → Bool
  | .int i => decide (0 ≤ i) && decide (i < p)
  | _ => false
def rw2 : V → Bool
  | .int _ => true
  | .non => true
  | _ => false
def rw3 : V → Bool
  | .bl _ => true
  | _ => false
def resB (w p : Int) (v : V) (x : Option (List V)) : Bool := if w = 0 then fw x else if w = 1 then rw1 p v else if w = 2 then rw2 v else rw3 v
theorem Scl.wh (T : Txt K mg t) {H : Hp} {x : V} (h : Scl x) : (∃ i, x = .int i) ∨ Odd K H x := by
  rcases h with h | ⟨b, rfl⟩ | rfl
  · exact .inl h
  · exact .inr (.inl ⟨b, rfl⟩)
  · exact .inr (.inr ⟨_, .non, T.k_ni⟩)
theorem fw_not2 {xs : List V} (h : xs.length ≠ 2) : fw (some xs) = false := by
  match xs, h with
  | [], _ => rfl
  | [a], _ => cases a <;> rfl
  | [_, _], h => exact absurd rfl h
  | a :: b :: c :: r, _ => cases a <;> (try rfl) <;> cases b <;> rfl
theorem fw_odd0 {H : Hp} {a b : V} (h : Odd K H a) (s : Scl a) (T : Txt K mg t) : fw (some [a, b]) = false := by
  rcases s with ⟨i, rfl⟩ | ⟨c, rfl⟩ | rfl
  · rcases h with ⟨b, h⟩ | ⟨ty, h1, h2⟩
    · cases h
    · cases h1; rw [T.k_ii] at h2; cases h2
  · rfl
  · rfl
theorem fw_odd1 {H : Hp} {i : Int} {b : V} (h : Odd K H b) (s : Scl b) (T : Txt K mg t) : fw (some [.int i, b]) = false := by
  rcases s with ⟨i, rfl⟩ | ⟨c, rfl⟩ | rfl
  · rcases h with ⟨b, h⟩ | ⟨ty, h1, h2⟩
    · cases h
    · cases h1; rw [T.k_ii] at h2; cases h2
  · rfl
  · rfl
def spIsW (w p : Int) : Sp := fun vs H Q _ => ∃ kv v x, vs = [kv, v] ∧ Thg H v x ∧ Q (.bl (resB w p v x)) H
theorem ok_Fractions_is_weight (T : Txt K mg t) (p : Int) : FnOk Pr w K mg base CX0 2 t.Fractions_is_weight t.d_Fractions_is_weight ["self", "thing"] (spIsW 0 p) := by
  refine T.F_Fractions_is_weight.ok sc_Fractions_is_weight (fun vs H Q E h => ?_) (fun cdv A outer s H vs Q E hr h => ?_)
  · obtain ⟨kv, v, x, rfl, _⟩ := h
    rfl
  · obtain ⟨kv, v, x, rfl, ht, k⟩ := h
    rw [resB, if_pos rfl] at k
    refine ⟨_, (pss_cons (ps_if (PW.pt (pw_or (pt_not (pt_val (pe_callB call_isi (by rfl) T.z_isinstance boot_isinstance (pa_cons (pv 1) (pa_cons (pe_bltn (v := .ty "tuple") rfl T.z_tuple boot_tuple rfl) pa_nil))))) (pw_or1 (pt_cmpR op_ne (pe_callB call_len (by rfl) T.z_len PySem.boot_len (pa_cons (pv 1) pa_nil)) pe_int (nomark _))))) (pss_one (ps_ret pe_bl)) pss_nil) (pss_cons (ps_if (PW.pt (pw_or (pt_not (pt_val (pe_call (ok_is_whole T) (hr.mono (by decide)) rfl T.m_is_whole T.F_is_whole.kp T.b_is_whole .nil pass0 (pa_cons (pe_ix ix_tup (pv 1) pe_int (fun _ _ => rfl)) pa_nil)))) (pw_or1 (pt_not (pt_val (pe_call (ok_is_whole T) (hr.mono (by decide)) rfl T.m_is_whole T.F_is_whole.kp T.b_is_whole .nil pass0 (pa_cons (pe_ix ix_tup (pv 1) pe_int (fun _ _ => rfl)) pa_nil))))))) (pss_one (ps_ret pe_bl)) pss_nil) (pss_one (ps_ret (pe_and (pe_cmpR op_ge (pe_ix ix_tup (pv 1) pe_int (fun _ _ => rfl)) pe_int (nomark _)) (pe_one (pe_cmpR op_eq (pe_call (ok_divisor T) (hr.mono (by decide)) rfl T.m_divisor T.F_divisor.kp T.b_divisor .nil pass0 (pa_cons (pe_ix ix_tup (pv 1) pe_int (fun _ _ => rfl)) (pa_cons (pe_ix ix_tup (pv 1) pe_int (fun _ _ => rfl)) pa_nil))) pe_int (nomark _)))))))), ?_⟩
    rcases ht with ⟨rfl, ht⟩ | ⟨q, xs, rfl, rfl, hp, h3, hs⟩
    · have ty : ∃ ty, TyOf K H v ty ∧ PySem.W.kitOne K ty (.type "tuple") = some false := by
        rcases ht with ⟨i, rfl⟩ | ⟨b, rfl⟩ | rfl | o
        · exact ⟨_, .int _, T.k_it⟩
        · exact ⟨_, .bl _, T.k_bt⟩
        · exact ⟨_, .non, T.k_nt⟩
        · obtain ⟨_, ty, y, _, _, yt⟩ := o.ty T
          exact ⟨ty, y, yt⟩
      obtain ⟨ty, y, yt⟩ := ty
      refine ⟨_, rfl, _, _, _, _, rfl, y, yt, _, rfl, ?_⟩
      (try refine iteT ?_)
      exact k
    · have lp : LenV K (.ref q) H xs.length := .inr ⟨_, SqT.of hp, rfl⟩
      refine ⟨_, rfl, _, _, _, _, rfl, TyOf.tup hp, T.k_tt, _, rfl, ?_⟩
      (try refine iteF ?_)
      refine ⟨_, rfl, _, _, rfl, lp, rfl, _, rfl, ?_⟩
      dsimp only
      refine iteNI (fun e => ?_) (fun e => ?_)
      · rw [fw_not2 (fun z => e (by rw [z]; rfl))] at k
        exact k
      obtain ⟨a, b, rfl⟩ : ∃ a b, xs = [a, b] := by
        match xs, e with
        | [], e => cases e
        | [_], e => cases e
        | [a, b], _ => exact ⟨a, b, rfl⟩
        | _ :: _ :: _ :: r, e => simp at e; omega
      have sa := hs a (by simp)
      have sb := hs b (by simp)
      refine ⟨_, rfl, _, _, _, _, rfl, rfl, SqT.of hp, rfl, _, rfl, ?_⟩
      rcases sa.wh (H := H) T with ⟨i, rfl⟩ | oa
      case inr =>
        rw [fw_odd0 oa sa T] at k
        refine .inr ⟨oa, _, rfl, ?_⟩
        (try refine iteT ?_)
        exact k
      refine .inl ⟨⟨i, rfl⟩, _, rfl, ?_⟩
      (try refine iteF ?_)
      refine ⟨_, rfl, _, _, _, _, rfl, rfl, SqT.of hp, rfl, _, rfl, ?_⟩
      rcases sb.wh (H := H) T with ⟨j, rfl⟩ | ob
      case inr =>
        rw [fw_odd1 ob sb T] at k
        refine .inr ⟨ob, _, rfl, ?_⟩
        (try refine iteT ?_)
        exact k
      refine .inl ⟨⟨j, rfl⟩, _, rfl, ?_⟩
      (try refine iteF ?_)
      refine ⟨_, rfl, _, _, _, _, rfl, rfl, SqT.of hp, rfl, _, _, rfl, rfl, _, rfl, ?_⟩
      dsimp only [fw] at k
      refine iteP (fun e1 => ?_) (fun e1 => ?_)
      · rw [decide_eq_true (show 1 ≤ j by omega), Bool.true_and] at k
        refine ⟨_, rfl, _, _, _, _, rfl, rfl, SqT.of hp, rfl, _, rfl, _, _, _, _, rfl, rfl, SqT.of hp, rfl, _, _, rfl, rfl, ?_⟩
        have : decide (V.int (dv i j) = V.int 1) = decide (dv i j = 1) := by
          rw [Bool.eq_iff_iff, decide_eq_true_eq, decide_eq_true_eq]
          exact ⟨fun z => V.int.inj z, fun z => by rw [z]⟩
        rw [this]
        exact k
      · rw [decide_eq_false (show ¬ 1 ≤ j by omega), Bool.false_and] at k
        exact k
theorem wh_of (T : Txt K mg t) {H : Hp} {v : V} {x : Option (List V)} (h : Thg H v x) : (∃ i, v = .int i) ∨ ((∀ i, v ≠ .int i) ∧ Odd K H v) := by
  rcases h with ⟨rfl, ⟨i, rfl⟩ | ⟨b, rfl⟩ | rfl | o⟩ | ⟨q, xs, rfl, rfl, hp, _⟩
  · exact .inl ⟨i, rfl⟩
  · exact .inr ⟨fun i z => (by cases z), .inl ⟨b, rfl⟩⟩
  · exact .inr ⟨fun i z => (by cases z), .inr ⟨_, .non, T.k_ni⟩⟩
  · obtain ⟨_, ty, y, yi, _, _⟩ := o.ty T
    refine .inr ⟨fun i z => ?_, .inr ⟨ty, y, yi⟩⟩
    subst z
    cases y
    rw [T.k_ii] at yi; cases yi
  · exact .inr ⟨fun i z => (by cases z), .inr ⟨_, .tup hp, T.k_ti⟩⟩
theorem res_r1 {p i : Int} {x : Option (List V)} : resB 1 p (.int i) x = (decide (0 ≤ i) && decide (i < p)) := by rw [resB, if_neg (by decide), if_pos rfl]; rfl
theorem res_r0 {p : Int} {v : V} {x : Option (List V)} (h : ∀ i, v ≠ .int i) : resB 1 p v x = false := by
  rw [resB, if_neg (by decide), if_pos rfl]
  cases v with
  | int i => exact absurd rfl (h i)
  | _ => rfl
theorem res_c1 {p i : Int} {x : Option (List V)} : resB 2 p (.int i) x = true := by rw [resB, if_neg (by decide), if_neg (by decide), if_pos rfl]; rfl
theorem res_cn {p : Int} {x : Option (List V)} : resB 2 p .non x = true := by rw [resB, if_neg (by decide), if_neg (by decide), if_pos rfl]; rfl
theorem res_c0 {p : Int} {v : V} {x : Option (List V)} (h : ∀ i, v ≠ .int i) (h2 : v ≠ .non) : resB 2 p v x = false := by
  rw [resB, if_neg (by decide), if_neg (by decide), if_pos rfl]
  cases v with
  | int i => exact absurd rfl (h i)
  | non => exact absurd rfl h2
  | _ => rfl
theorem res_t1 {p : Int} {b : Bool} {x : Option (List V)} : resB 3 p (.bl b) x = true := by rw [resB, if_neg (by decide), if_neg (by decide), if_neg (by decide)]; rfl
theorem res_t0 {p : Int} {v : V} {x : Option (List V)} (h : ∀ b, v ≠ .bl b) : resB 3 p v x = false := by
  rw [resB, if_neg (by decide), if_neg (by decide), if_neg (by decide)]
  cases v with
  | bl b => exact absurd rfl (h b)
  | _ => rfl
theorem bl_of (T : Txt K mg t) {H : Hp} {v : V} {x : Option (List V)} (h : Thg H v x) : (∃ b, v = .bl b) ∨ ((∀ b, v ≠ .bl b) ∧ ∃ ty, TyOf K H v ty ∧ PySem.W.kitOne K ty (.type "bool") = some false) := by
  rcases h with ⟨rfl, ⟨i, rfl⟩ | ⟨b, rfl⟩ | rfl | o⟩ | ⟨q, xs, rfl, rfl, hp, _⟩
  · exact .inr ⟨fun i z => (by cases z), _, .int _, T.k_ib⟩
  · exact .inl ⟨b, rfl⟩
  · exact .inr ⟨fun i z => (by cases z), _, .non, T.k_nb⟩
  · obtain ⟨_, ty, y, _, yb, _⟩ := o.ty T
    refine .inr ⟨fun i z => ?_, ty, y, yb⟩
    subst z
    cases y
    rw [T.k_bb] at yb; cases yb
  · exact .inr ⟨fun i z => (by cases z), _, .tup hp, T.k_tb⟩
theorem non_dec {v : V} : (v = .non ∧ decide (v = V.non) = true) ∨ (v ≠ .non ∧ decide (v = V.non) = false) := by
  by_cases h : v = .non
  · exact .inl ⟨h, decide_eq_true h⟩
  · exact .inr ⟨h, decide_eq_false h⟩
theorem ok_Residues_is_weight (T : Txt K mg t) (p : Int) : FnOk Pr w K mg base CX0 2 t.Residues_is_weight t.d_Residues_is_weight ["self", "thing"] (fun vs H Q _ => ∃ kv v x, vs = [kv, v] ∧ (KAt t.Residues (pfs p) H kv ∧ Thg H v x) ∧ Q (.bl (resB 1 p v x)) H) := by
  refine T.F_Residues_is_weight.ok sc_Residues_is_weight (fun vs H Q E h => ?_) (fun cdv A outer s H vs Q E hr h => ?_)
  · obtain ⟨kv, v, x, rfl, _⟩ := h
    rfl
  · obtain ⟨kv, v, x, rfl, ⟨⟨q, dx, rfl, hq⟩, ht⟩, k⟩ := h
    refine ⟨_, (pss_one (ps_ret (pe_and (pe_call (ok_is_whole T) (hr.mono (by decide)) rfl T.m_is_whole T.F_is_whole.kp T.b_is_whole .nil pass0 (pa_cons (pv 1) pa_nil)) (pe_one (pe_chain op_le op_lt pe_int (pv 1) (pe_fld (pv 0) rfl)))))), ?_⟩
    refine ⟨_, rfl, _, rfl, ?_⟩
    rcases wh_of T ht with ⟨i, rfl⟩ | ⟨hn, o⟩
    · rw [res_r1] at k
      refine .inl ⟨⟨i, rfl⟩, _, rfl, ?_⟩
      (try refine iteT ?_)
      refine ⟨_, rfl, _, _, rfl, rfl, _, rfl, ?_⟩
      refine iteP (fun h0 => ?_) (fun h0 => ?_)
      · refine ⟨_, rfl, q, _, dx, _, _, rfl, hq, T.C_Residues, T.nP, pfs_prime p, _, _, rfl, rfl, ?_⟩
        rw [decide_eq_true h0, Bool.true_and] at k
        exact k
      · rw [decide_eq_false h0, Bool.false_and] at k
        exact k
    · rw [res_r0 hn] at k
      refine .inr ⟨o, _, rfl, ?_⟩
      (try refine iteF ?_)
      exact k
theorem ok_Costs_is_weight (T : Txt K mg t) (p : Int) : FnOk Pr w K mg base CX0 2 t.Costs_is_weight t.d_Costs_is_weight ["self", "thing"] (spIsW 2 p) := by
  refine T.F_Costs_is_weight.ok sc_Costs_is_weight (fun vs H Q E h => ?_) (fun cdv A outer s H vs Q E hr h => ?_)
  · obtain ⟨kv, v, x, rfl, _⟩ := h
    rfl
  · obtain ⟨kv, v, x, rfl, ht, k⟩ := h
    refine ⟨_, (pss_one (ps_ret (pe_or (pe_cmpR op_isN (pv 1) pe_non (nomark _)) (pe_one (pe_call (ok_is_whole T) (hr.mono (by decide)) rfl T.m_is_whole T.F_is_whole.kp T.b_is_whole .nil pass0 (pa_cons (pv 1) pa_nil)))))), ?_⟩
    refine ⟨_, rfl, rfl, _, rfl, ?_⟩
    rcases non_dec (v := v) with ⟨rfl, e⟩ | ⟨hne, e⟩
    · rw [res_cn] at k
      exact k
    · rw [e]
      (try refine iteF ?_)
      refine ⟨_, rfl, _, rfl, ?_⟩
      rcases wh_of T ht with ⟨i, rfl⟩ | ⟨hn, o⟩
      · rw [res_c1] at k
        exact .inl ⟨⟨i, rfl⟩, k⟩
      · rw [res_c0 hn hne] at k
        exact .inr ⟨o, k⟩
theorem ok_Truths_is_weight (T : Txt K mg t) (p : Int) : FnOk Pr w K mg base CX0 2 t.Truths_is_weight t.d_Truths_is_weight ["self", "thing"] (spIsW 3 p) := by
  refine T.F_Truths_is_weight.ok sc_Truths_is_weight (fun vs H Q E h => ?_) (fun cdv A outer s H vs Q E hr h => ?_)
  · obtain ⟨kv, v, x, rfl, _⟩ := h
    rfl
  · obtain ⟨kv, v, x, rfl, ht, k⟩ := h
    refine ⟨_, (pss_one (ps_ret (pe_callB call_isi (by rfl) T.z_isinstance boot_isinstance (pa_cons (pv 1) (pa_cons (pe_bltn (v := .ty "bool") rfl T.z_bool boot_bool rfl) pa_nil))))), ?_⟩
    rcases bl_of T ht with ⟨b, rfl⟩ | ⟨hn, ty, y, yb⟩
    · rw [res_t1] at k
      exact ⟨_, rfl, _, _, _, _, rfl, TyOf.bl _, T.k_bb, k⟩
    · rw [res_t0 hn] at k
      exact ⟨_, rfl, _, _, _, _, rfl, y, yb, k⟩
def sp_lisw : Sp := fun vs H Q _ => ∃ w' p v x, vs = [.int w', .int p, v] ∧ (Thg H v x ∧ (w' = 0 ∨ w' = 1 ∨ w' = 2 ∨ w' = 3)) ∧ Q (.bl (resB w' p v x)) H
theorem ok_law_is_weight (T : Txt K mg t) : FnOk Pr w K mg base CX0 2 t.law_is_weight t.d_law_is_weight ["_law_way_here", "_law_prime_here", "_law_thing_here"] sp_lisw := by
  refine T.F_law_is_weight.ok sc_law_is_weight (fun vs H Q E h => ?_) (fun cdv A outer s H vs Q E hr h => ?_)
  · obtain ⟨w', p, v, x, rfl, _⟩ := h
    rfl
  · obtain ⟨w', p, v, x, rfl, ⟨ht, hw⟩, k⟩ := h
    refine ⟨_, (pss_cons (ps_if (pt_cmpR op_eq (pv 0) pe_int (nomark _)) (pss_cons (ps_if (PW.pt (pw_or (pt_not (pt_val (pe_callB call_isi (by rfl) T.z_isinstance boot_isinstance (pa_cons (pv 2) (pa_cons (pe_bltn (v := .ty "tuple") rfl T.z_tuple boot_tuple rfl) pa_nil))))) (pw_or (pt_cmpR op_ne (pe_callB call_len (by rfl) T.z_len PySem.boot_len (pa_cons (pv 2) pa_nil)) pe_int (nomark _)) (pw_or (pt_not (pt_val (pe_call (ok_law_whole T) (hr.mono (by decide)) rfl T.m_law_whole T.F_law_whole.kp T.b_law_whole .nil pass0 (pa_cons (pe_ix ix_tup (pv 2) pe_int (fun _ _ => rfl)) pa_nil)))) (pw_or1 (pt_not (pt_val (pe_call (ok_law_whole T) (hr.mono (by decide)) rfl T.m_law_whole T.F_law_whole.kp T.b_law_whole .nil pass0 (pa_cons (pe_ix ix_tup (pv 2) pe_int (fun _ _ => rfl)) pa_nil))))))))) (pss_one (ps_ret pe_bl)) pss_nil) (pss_one (ps_ret (pe_and (pe_cmpR op_gt (pe_ix ix_tup (pv 2) pe_int (fun _ _ => rfl)) pe_int (nomark _)) (pe_one (pe_cmpR op_eq (pe_call (ok_law_divisor T) (hr.mono (by decide)) rfl T.m_law_divisor T.F_law_divisor.kp T.b_law_divisor .nil pass0 (pa_cons (pe_ix ix_tup (pv 2) pe_int (fun _ _ => rfl)) (pa_cons (pe_ix ix_tup (pv 2) pe_int (fun _ _ => rfl)) pa_nil))) pe_int (nomark _))))))) pss_nil) (pss_cons (ps_if (pt_cmpR op_eq (pv 0) pe_int (nomark _)) (pss_one (ps_ret (pe_and (pe_call (ok_law_whole T) (hr.mono (by decide)) rfl T.m_law_whole T.F_law_whole.kp T.b_law_whole .nil pass0 (pa_cons (pv 2) pa_nil)) (pe_one (pe_chain op_le op_lt pe_int (pv 2) (pv 1)))))) pss_nil) (pss_cons (ps_if (pt_cmpR op_eq (pv 0) pe_int (nomark _)) (pss_one (ps_ret (pe_or (pe_cmpR op_isN (pv 2) pe_non (nomark _)) (pe_one (pe_call (ok_law_whole T) (hr.mono (by decide)) rfl T.m_law_whole T.F_law_whole.kp T.b_law_whole .nil pass0 (pa_cons (pv 2) pa_nil)))))) pss_nil) (pss_one (ps_ret (pe_callB call_isi (by rfl) T.z_isinstance boot_isinstance (pa_cons (pv 2) (pa_cons (pe_bltn (v := .ty "bool") rfl T.z_bool boot_bool rfl) pa_nil)))))))), ?_⟩
    refine ⟨_, rfl, rfl, _, rfl, ?_⟩
    rcases hw with rfl | rfl | rfl | rfl
    · refine iteT ?_
      rw [resB, if_pos rfl] at k
      rcases ht with ⟨rfl, ht⟩ | ⟨q, xs, rfl, rfl, hp, h3, hs⟩
      · have ty : ∃ ty, TyOf K H v ty ∧ PySem.W.kitOne K ty (.type "tuple") = some false := by
          rcases ht with ⟨i, rfl⟩ | ⟨b, rfl⟩ | rfl | o
          · exact ⟨_, .int _, T.k_it⟩
          · exact ⟨_, .bl _, T.k_bt⟩
          · exact ⟨_, .non, T.k_nt⟩
          · obtain ⟨_, ty, y, _, _, yt⟩ := o.ty T
            exact ⟨ty, y, yt⟩
        obtain ⟨ty, y, yt⟩ := ty
        refine ⟨_, rfl, _, _, _, _, rfl, y, yt, _, rfl, ?_⟩
        (try refine iteT ?_)
        exact k
      · have lp : LenV K (.ref q) H xs.length := .inr ⟨_, SqT.of hp, rfl⟩
        refine ⟨_, rfl, _, _, _, _, rfl, TyOf.tup hp, T.k_tt, _, rfl, ?_⟩
        (try refine iteF ?_)
        refine ⟨_, rfl, _, _, rfl, lp, rfl, _, rfl, ?_⟩
        dsimp only
        refine iteNI (fun e => ?_) (fun e => ?_)
        · rw [fw_not2 (fun z => e (by rw [z]; rfl))] at k
          exact k
        obtain ⟨a, b, rfl⟩ : ∃ a b, xs = [a, b] := by
          match xs, e with
          | [], e => cases e
          | [_], e => cases e
          | [a, b], _ => exact ⟨a, b, rfl⟩
          | _ :: _ :: _ :: r, e => simp at e; omega
        have sa := hs a (by simp)
        have sb := hs b (by simp)
        refine ⟨_, rfl, _, _, _, _, rfl, rfl, SqT.of hp, rfl, _, rfl, ?_⟩
        rcases sa.wh (H := H) T with ⟨i, rfl⟩ | oa
        case inr =>
          rw [fw_odd0 oa sa T] at k
          refine .inr ⟨oa, _, rfl, ?_⟩
          (try refine iteT ?_)
          exact k
        refine .inl ⟨⟨i, rfl⟩, _, rfl, ?_⟩
        (try refine iteF ?_)
        refine ⟨_, rfl, _, _, _, _, rfl, rfl, SqT.of hp, rfl, _, rfl, ?_⟩
        rcases sb.wh (H := H) T with ⟨j, rfl⟩ | ob
        case inr =>
          rw [fw_odd1 ob sb T] at k
          refine .inr ⟨ob, _, rfl, ?_⟩
          (try refine iteT ?_)
          exact k
        refine .inl ⟨⟨j, rfl⟩, _, rfl, ?_⟩
        (try refine iteF ?_)
        refine ⟨_, rfl, _, _, _, _, rfl, rfl, SqT.of hp, rfl, _, _, rfl, rfl, _, rfl, ?_⟩
        dsimp only [fw] at k
        refine iteP (fun e1 => ?_) (fun e1 => ?_)
        · rw [decide_eq_true (show 1 ≤ j by omega), Bool.true_and] at k
          refine ⟨_, rfl, _, _, _, _, rfl, rfl, SqT.of hp, rfl, _, rfl, _, _, _, _, rfl, rfl, SqT.of hp, rfl, _, _, rfl, rfl, ?_⟩
          have : decide (V.int (dv i j) = V.int 1) = decide (dv i j = 1) := by
            rw [Bool.eq_iff_iff, decide_eq_true_eq, decide_eq_true_eq]
            exact ⟨fun z => V.int.inj z, fun z => by rw [z]⟩
          rw [this]
          exact k
        · rw [decide_eq_false (show ¬ 1 ≤ j by omega), Bool.false_and] at k
          exact k
    · refine iteF ?_
      refine ⟨_, rfl, rfl, _, rfl, ?_⟩
      refine iteT ?_
      refine ⟨_, rfl, _, rfl, ?_⟩
      rcases wh_of T ht with ⟨i, rfl⟩ | ⟨hn, o⟩
      · rw [res_r1] at k
        refine .inl ⟨⟨i, rfl⟩, _, rfl, ?_⟩
        (try refine iteT ?_)
        refine ⟨_, rfl, _, _, rfl, rfl, _, rfl, ?_⟩
        refine iteP (fun h0 => ?_) (fun h0 => ?_)
        · refine ⟨_, rfl, _, _, rfl, rfl, ?_⟩
          rw [decide_eq_true h0, Bool.true_and] at k
          exact k
        · rw [decide_eq_false h0, Bool.false_and] at k
          exact k
      · rw [res_r0 hn] at k
        refine .inr ⟨o, _, rfl, ?_⟩
        (try refine iteF ?_)
        exact k
    · refine iteF ?_
      refine ⟨_, rfl, rfl, _, rfl, ?_⟩
      refine iteF ?_
      refine ⟨_, rfl, rfl, _, rfl, ?_⟩
      refine iteT ?_
      refine ⟨_, rfl, rfl, _, rfl, ?_⟩
      rcases non_dec (v := v) with ⟨rfl, e⟩ | ⟨hne, e⟩
      · rw [res_cn] at k
        exact k
      · rw [e]
        (try refine iteF ?_)
        refine ⟨_, rfl, _, rfl, ?_⟩
        rcases wh_of T ht with ⟨i, rfl⟩ | ⟨hn, o⟩
        · rw [res_c1] at k
          exact .inl ⟨⟨i, rfl⟩, k⟩
        · rw [res_c0 hn hne] at k
          exact .inr ⟨o, k⟩
    · refine iteF ?_
      refine ⟨_, rfl, rfl, _, rfl, ?_⟩
      refine iteF ?_
      refine ⟨_, rfl, rfl, _, rfl, ?_⟩
      refine iteF ?_
      rcases bl_of T ht with ⟨b, rfl⟩ | ⟨hn, ty, y, yb⟩
      · rw [res_t1] at k
        exact ⟨_, rfl, _, _, _, _, rfl, TyOf.bl _, T.k_bb, k⟩
      · rw [res_t0 hn] at k
        exact ⟨_, rfl, _, _, _, _, rfl, y, yb, k⟩
--THG
def sp_thing : Sp := fun vs H Q _ => ∃ c, vs = [.int c] ∧ ∀ v x H', Same H H' → Thg H' v x → Q v H'
theorem ok_law_thing (T : Txt K mg t) : FnOk Pr w K mg base CX0 2 t.law_thing t.d_law_thing ["_law_cell"] sp_thing := by
  refine T.F_law_thing.ok sc_law_thing (fun vs H Q E h => ?_) (fun cdv A outer s H vs Q E hr h => ?_)
  · obtain ⟨c, rfl, _⟩ := h
    rfl
  · obtain ⟨c, rfl, k⟩ := h
    have d18 : CDivB c 18 := ⟨by decide, by decide⟩
    have d54 : CDivB c 54 := ⟨by decide, by decide⟩
    refine ⟨_, (pss_cons (ps_set (i := 1) sc_law_thing.nd rfl (Or.inl rfl) (pe_call (ok_law_number T) (hr.mono (by decide)) rfl T.m_law_number T.F_law_number.kp T.b_law_number .nil pass0 (pa_cons (pe_op op_fdivB (pv 0) pe_int) pa_nil))) (pss_cons (ps_set (i := 2) sc_law_thing.nd rfl (Or.inl rfl) (pe_call (ok_law_number T) (hr.mono (by decide)) rfl T.m_law_number T.F_law_number.kp T.b_law_number .nil pass0 (pa_cons (pe_op op_fdivB (pv 0) pe_int) pa_nil))) (pss_cons (ps_set (i := 3) sc_law_thing.nd rfl (Or.inl rfl) (pe_lst (pa_cons (pv 1) (pa_cons (pe_op op_modN (pv 2) pe_int) (pa_cons pe_non (pa_cons pe_bl (pa_cons pe_bl (pa_cons pe_str (pa_cons (pe_tup (pa_cons (pv 1) (pa_cons (pv 2) pa_nil))) (pa_cons (pe_tup (pa_cons (pv 1) (pa_cons (pe_op op_add (pe_op op_modN (pe_callB call_abs (by rfl) T.z_abs boot_abs (pa_cons (pv 2) pa_nil)) (pe_op op_pow pe_int pe_int)) pe_int) pa_nil))) pa_nil)))))))))) (pss_cons (ps_set (i := 3) sc_law_thing.nd rfl (Or.inl rfl) (pe_op op_cat (pv 3) (pe_lst (pa_cons (pe_tup (pa_cons (pv 1) pa_nil)) (pa_cons (pe_tup (pa_cons (pv 1) (pa_cons pe_int (pa_cons pe_int pa_nil)))) (pa_cons (pe_lst (pa_cons (pv 1) (pa_cons pe_int pa_nil))) (pa_cons (pe_tup (pa_cons (pv 1) (pa_cons pe_bl pa_nil))) (pa_cons (pe_tup (pa_cons pe_bl (pa_cons pe_int pa_nil))) (pa_cons (pe_tup (pa_cons pe_int (pa_cons pe_int pa_nil))) (pa_cons (pe_tup (pa_cons pe_int (pa_cons pe_int pa_nil))) (pa_cons (pe_tup (pa_cons (pv 1) (pa_cons pe_non pa_nil))) (pa_cons (pe_lst pa_nil) (pa_cons pe_dnewK pa_nil))))))))))))) (pss_one (ps_ret (pe_ix ix_list (pv 3) (pe_op op_modN (pv 0) pe_int) (fun _ _ => rfl)))))))), ?_⟩
    refine ⟨_, rfl, _, _, rfl, rfl, d18, _, rfl, ?_⟩
    refine ⟨_, rfl, _, _, rfl, rfl, d54, _, rfl, ?_⟩
    refine ⟨_, rfl, _, rfl, _, _, rfl, rfl, (show (1000 : Int) ≠ 0 by decide), _, rfl, _, rfl, (by show 2 ≤ sizeLine; decide), fun p1 n1 => ?_⟩
    refine ⟨_, rfl, _, rfl, _, rfl, _, _, rfl, rfl, ⟨by decide, by decide, by decide⟩, _, _, rfl, rfl, (show (10 : Int) ^ Int.toNat 29 ≠ 0 by decide), _, _, rfl, rfl, (by show 2 ≤ sizeLine; decide), fun p2 n2 => ⟨(by show 8 ≤ sizeLine; decide), fun q1 m1 => ?_⟩⟩
    refine ⟨_, rfl, _, rfl, (by show 1 ≤ sizeLine; decide), fun p3 n3 => ⟨_, rfl, (by show 3 ≤ sizeLine; decide), fun p4 n4 => ⟨_, rfl, (by show 2 ≤ sizeLine; decide), fun p5 n5 => ⟨_, rfl, (by show 2 ≤ sizeLine; decide), fun p6 n6 => ⟨(by show 2 ≤ sizeLine; decide), fun p7 n7 => ⟨(by show 2 ≤ sizeLine; decide), fun p8 n8 => ⟨(by show 2 ≤ sizeLine; decide), fun p9 n9 => ⟨_, rfl, (by show 2 ≤ sizeLine; decide), fun p10 n10 => ⟨Nat.zero_le _, fun p11 n11 p12 n12 => ⟨(by show 10 ≤ sizeLine; decide), fun q2 m2 => ?_⟩⟩⟩⟩⟩⟩⟩⟩⟩⟩
    have s0 := same_upd (o := .tup [.int (num (c.fdiv 18)), .int (num (c.fdiv 54))]) n1
    have s1 := same_upd (o := .tup [.int (num (c.fdiv 18)), .int ((if num (c.fdiv 54) < 0 then -num (c.fdiv 54) else num (c.fdiv 54)).fmod (10 ^ Int.toNat 29) + 1)]) n2
    have s2 := same_upd (o := .lst [V.int (num (c.fdiv 18)), V.int ((num (c.fdiv 54)).fmod 1000), V.non, V.bl true, V.bl false, V.str (Str.ofString "1"), V.ref p1, V.ref p2]) m1
    have s3 := same_upd (o := .tup [.int (num (c.fdiv 18))]) n3
    have s4 := same_upd (o := .tup [.int (num (c.fdiv 18)), .int 1, .int 1]) n4
    have s5 := same_upd (o := .lst [.int (num (c.fdiv 18)), .int 1]) n5
    have s6 := same_upd (o := .tup [.int (num (c.fdiv 18)), .bl true]) n6
    have s7 := same_upd (o := .tup [.bl true, .int 1]) n7
    have s8 := same_upd (o := .tup [.int 0, .int 1]) n8
    have s9 := same_upd (o := .tup [.int 0, .int 2]) n9
    have s10 := same_upd (o := .tup [.int (num (c.fdiv 18)), .non]) n10
    have s11 := same_upd (o := .lst []) n11
    have s12 := same_upd (o := .dK []) n12
    have s13 := same_upd (o := .lst [V.ref p3, V.ref p4, V.ref p5, V.ref p6, V.ref p7, V.ref p8, V.ref p9, V.ref p10, V.ref p11, V.ref p12]) m2
    refine ⟨_, _, _, _, rfl, rfl, ((((((((((s3.trans s4).trans s5).trans s6).trans s7).trans s8).trans s9).trans s10).trans s11).trans s12).trans s13) _ _ upd_same, upd_same, (by show 18 ≤ sizeLine; decide), fun q3 m3 => ?_⟩
    have s14 := same_upd (o := .lst ([V.int (num (c.fdiv 18)), V.int ((num (c.fdiv 54)).fmod 1000), V.non, V.bl true, V.bl false, V.str (Str.ofString "1"), V.ref p1, V.ref p2] ++ [V.ref p3, V.ref p4, V.ref p5, V.ref p6, V.ref p7, V.ref p8, V.ref p9, V.ref p10, V.ref p11, V.ref p12])) m3
    have f18 := fm_in c 18 (by decide)
    obtain ⟨v, av, mv⟩ := at_in (xs := [V.int (num (c.fdiv 18)), V.int ((num (c.fdiv 54)).fmod 1000), V.non, V.bl true, V.bl false, V.str (Str.ofString "1"), V.ref p1, V.ref p2] ++ [V.ref p3, V.ref p4, V.ref p5, V.ref p6, V.ref p7, V.ref p8, V.ref p9, V.ref p10, V.ref p11, V.ref p12]) f18.1 (by show _ < ((18 : Nat) : Int); omega)
    refine ⟨_, rfl, _, rfl, _, _, rfl, rfl, (show (18 : Int) ≠ 0 by decide), _, _, _, _, rfl, rfl, SqL.of upd_same, av, ?_⟩
    have sA := ((((((((((((((s0.trans s1).trans s2).trans s3).trans s4).trans s5).trans s6).trans s7).trans s8).trans s9).trans s10).trans s11).trans s12).trans s13).trans s14)
    have e_p1 := (((((((((((((s1.trans s2).trans s3).trans s4).trans s5).trans s6).trans s7).trans s8).trans s9).trans s10).trans s11).trans s12).trans s13).trans s14) _ _ (upd_same (a := p1) (o := .tup [.int (num (c.fdiv 18)), .int (num (c.fdiv 54))]))
    have e_p2 := ((((((((((((s2.trans s3).trans s4).trans s5).trans s6).trans s7).trans s8).trans s9).trans s10).trans s11).trans s12).trans s13).trans s14) _ _ (upd_same (a := p2) (o := .tup [.int (num (c.fdiv 18)), .int ((if num (c.fdiv 54) < 0 then -num (c.fdiv 54) else num (c.fdiv 54)).fmod (10 ^ Int.toNat 29) + 1)]))
    have e_p3 := ((((((((((s4.trans s5).trans s6).trans s7).trans s8).trans s9).trans s10).trans s11).trans s12).trans s13).trans s14) _ _ (upd_same (a := p3) (o := .tup [.int (num (c.fdiv 18))]))
    have e_p4 := (((((((((s5.trans s6).trans s7).trans s8).trans s9).trans s10).trans s11).trans s12).trans s13).trans s14) _ _ (upd_same (a := p4) (o := .tup [.int (num (c.fdiv 18)), .int 1, .int 1]))
    have e_p5 := ((((((((s6.trans s7).trans s8).trans s9).trans s10).trans s11).trans s12).trans s13).trans s14) _ _ (upd_same (a := p5) (o := .lst [.int (num (c.fdiv 18)), .int 1]))
    have e_p6 := (((((((s7.trans s8).trans s9).trans s10).trans s11).trans s12).trans s13).trans s14) _ _ (upd_same (a := p6) (o := .tup [.int (num (c.fdiv 18)), .bl true]))
    have e_p7 := ((((((s8.trans s9).trans s10).trans s11).trans s12).trans s13).trans s14) _ _ (upd_same (a := p7) (o := .tup [.bl true, .int 1]))
    have e_p8 := (((((s9.trans s10).trans s11).trans s12).trans s13).trans s14) _ _ (upd_same (a := p8) (o := .tup [.int 0, .int 1]))
    have e_p9 := ((((s10.trans s11).trans s12).trans s13).trans s14) _ _ (upd_same (a := p9) (o := .tup [.int 0, .int 2]))
    have e_p10 := (((s11.trans s12).trans s13).trans s14) _ _ (upd_same (a := p10) (o := .tup [.int (num (c.fdiv 18)), .non]))
    have e_p11 := ((s12.trans s13).trans s14) _ _ (upd_same (a := p11) (o := .lst []))
    have e_p12 := (s13.trans s14) _ _ (upd_same (a := p12) (o := .dK []))
    simp only [List.cons_append, List.nil_append, List.mem_cons, List.not_mem_nil, or_false] at mv
    rcases mv with rfl | rfl | rfl | rfl | rfl | rfl | rfl | rfl | rfl | rfl | rfl | rfl | rfl | rfl | rfl | rfl | rfl | rfl
    · exact k _ none _ sA (.inl ⟨rfl, .inl ⟨_, rfl⟩⟩)
    · exact k _ none _ sA (.inl ⟨rfl, .inl ⟨_, rfl⟩⟩)
    · exact k _ none _ sA (.inl ⟨rfl, .inr (.inr (.inl rfl))⟩)
    · exact k _ none _ sA (.inl ⟨rfl, .inr (.inl ⟨_, rfl⟩)⟩)
    · exact k _ none _ sA (.inl ⟨rfl, .inr (.inl ⟨_, rfl⟩)⟩)
    · exact k _ none _ sA (.inl ⟨rfl, .inr (.inr (.inr (.inl ⟨_, rfl⟩)))⟩)
    · exact k _ _ _ sA (.inr ⟨_, _, rfl, rfl, e_p1, by simp, fun y hy => by
        simp only [List.mem_cons, List.not_mem_nil, or_false] at hy
        rcases hy with rfl | rfl
        · exact .inl ⟨_, rfl⟩
        · exact .inl ⟨_, rfl⟩⟩)
    · exact k _ _ _ sA (.inr ⟨_, _, rfl, rfl, e_p2, by simp, fun y hy => by
        simp only [List.mem_cons, List.not_mem_nil, or_false] at hy
        rcases hy with rfl | rfl
        · exact .inl ⟨_, rfl⟩
        · exact .inl ⟨_, rfl⟩⟩)
    · exact k _ _ _ sA (.inr ⟨_, _, rfl, rfl, e_p3, by simp, fun y hy => by
        simp only [List.mem_cons, List.not_mem_nil, or_false] at hy
        rcases hy with rfl
        · exact .inl ⟨_, rfl⟩⟩)
    · exact k _ _ _ sA (.inr ⟨_, _, rfl, rfl, e_p4, by simp, fun y hy => by
        simp only [List.mem_cons, List.not_mem_nil, or_false] at hy
        rcases hy with rfl | rfl | rfl
        · exact .inl ⟨_, rfl⟩
        · exact .inl ⟨_, rfl⟩
        · exact .inl ⟨_, rfl⟩⟩)
    · exact k _ none _ sA (.inl ⟨rfl, .inr (.inr (.inr (.inr (.inl ⟨_, _, rfl, e_p5⟩))))⟩)
    · exact k _ _ _ sA (.inr ⟨_, _, rfl, rfl, e_p6, by simp, fun y hy => by
        simp only [List.mem_cons, List.not_mem_nil, or_false] at hy
        rcases hy with rfl | rfl
        · exact .inl ⟨_, rfl⟩
        · exact .inr (.inl ⟨_, rfl⟩)⟩)
    · exact k _ _ _ sA (.inr ⟨_, _, rfl, rfl, e_p7, by simp, fun y hy => by
        simp only [List.mem_cons, List.not_mem_nil, or_false] at hy
        rcases hy with rfl | rfl
        · exact .inr (.inl ⟨_, rfl⟩)
        · exact .inl ⟨_, rfl⟩⟩)
    · exact k _ _ _ sA (.inr ⟨_, _, rfl, rfl, e_p8, by simp, fun y hy => by
        simp only [List.mem_cons, List.not_mem_nil, or_false] at hy
        rcases hy with rfl | rfl
        · exact .inl ⟨_, rfl⟩
        · exact .inl ⟨_, rfl⟩⟩)
    · exact k _ _ _ sA (.inr ⟨_, _, rfl, rfl, e_p9, by simp, fun y hy => by
        simp only [List.mem_cons, List.not_mem_nil, or_false] at hy
        rcases hy with rfl | rfl
        · exact .inl ⟨_, rfl⟩
        · exact .inl ⟨_, rfl⟩⟩)
    · exact k _ _ _ sA (.inr ⟨_, _, rfl, rfl, e_p10, by simp, fun y hy => by
        simp only [List.mem_cons, List.not_mem_nil, or_false] at hy
        rcases hy with rfl | rfl
        · exact .inl ⟨_, rfl⟩
        · exact .inr (.inr rfl)⟩)
    · exact k _ none _ sA (.inl ⟨rfl, .inr (.inr (.inr (.inr (.inl ⟨_, _, rfl, e_p11⟩))))⟩)
    · exact k _ none _ sA (.inl ⟨rfl, .inr (.inr (.inr (.inr (.inr ⟨_, _, rfl, e_p12⟩))))⟩)
--LAW
theorem KdAt.isw (T : Txt K mg t) {w' p : Int} {H : Hp} {kv : V} (h : KdAt t w' p H kv) : ∃ (a C dx : Addr) (fs : List (Str × V)) (f : Addr) (fd : FuncData) (sp : Sp), kv = .ref a ∧ H a = some (.ins C dx fs) ∧ fs.lookup ("is_weight" : Str) = none ∧ Cls K C ∧ Meth K C "is_weight" f ∧ FnOk Pr w K mg base CX0 6 f fd ["self", "thing"] sp ∧ Binds K fd ["self", "thing"] [] ∧
    ∀ v x (Q : VK) (E : XK), Thg H v x → Q (.bl (resB w' p v x)) H → sp [kv, v] H Q E := by
  rcases h with ⟨rfl, a, dx, rfl, h⟩ | ⟨rfl, ⟨a, dx, rfl, h⟩, _⟩ | ⟨rfl, a, dx, rfl, h⟩ | ⟨rfl, a, dx, rfl, h⟩
  · exact ⟨a, _, dx, _, _, _, _, rfl, h, rfl, T.C_Fractions, T.t_Fractions_is_weight, (ok_Fractions_is_weight T p).mono (by decide), T.b_Fractions_is_weight, fun v x Q E ht q => ⟨_, v, x, rfl, ht, q⟩⟩
  · exact ⟨a, _, dx, _, _, _, _, rfl, h, rfl, T.C_Residues, T.t_Residues_is_weight, (ok_Residues_is_weight T p).mono (by decide), T.b_Residues_is_weight, fun v x Q E ht q => ⟨_, v, x, rfl, ⟨⟨a, dx, rfl, h⟩, ht⟩, q⟩⟩
  · exact ⟨a, _, dx, _, _, _, _, rfl, h, rfl, T.C_Costs, T.t_Costs_is_weight, (ok_Costs_is_weight T p).mono (by decide), T.b_Costs_is_weight, fun v x Q E ht q => ⟨_, v, x, rfl, ht, q⟩⟩
  · exact ⟨a, _, dx, _, _, _, _, rfl, h, rfl, T.C_Truths, T.t_Truths_is_weight, (ok_Truths_is_weight T p).mono (by decide), T.b_Truths_is_weight, fun v x Q E ht q => ⟨_, v, x, rfl, ht, q⟩⟩
theorem KdAt.tld (T : Txt K mg t) {w' p : Int} {H : Hp} {kv : V} (h : KdAt t w' p H kv) : ∃ (a C dx : Addr) (fs : List (Str × V)) (f : Addr) (fd : FuncData) (sp : Sp), kv = .ref a ∧ H a = some (.ins C dx fs) ∧ fs.lookup ("told" : Str) = none ∧ Cls K C ∧ Meth K C "told" f ∧ FnOk Pr w K mg base CX0 6 f fd ["self"] sp ∧ Binds K fd ["self"] [] ∧
    ∀ (Q : VK) (E : XK), Q (.str (toldT w' p)) H → sp [kv] H Q E := by
  rcases h with ⟨rfl, a, dx, rfl, h⟩ | ⟨rfl, ⟨a, dx, rfl, h⟩, gp⟩ | ⟨rfl, a, dx, rfl, h⟩ | ⟨rfl, a, dx, rfl, h⟩
  · exact ⟨a, _, dx, _, _, _, _, rfl, h, rfl, T.C_Fractions, T.t_Fractions_told, (ok_Fractions_told T).mono (by decide), T.b_Fractions_told, fun Q E q => ⟨_, rfl, by rw [toldT, if_pos rfl] at q; exact q⟩⟩
  · exact ⟨a, _, dx, _, _, _, _, rfl, h, rfl, T.C_Residues, T.t_Residues_told, (ok_Residues_told T).mono (by decide), T.b_Residues_told, fun Q E q => ⟨_, p, rfl, gp, ⟨a, dx, rfl, h⟩, by rw [toldT, if_neg (by decide), if_neg (by decide), if_neg (by decide)] at q; exact q⟩⟩
  · exact ⟨a, _, dx, _, _, _, _, rfl, h, rfl, T.C_Costs, T.t_Costs_told, (ok_Costs_told T).mono (by decide), T.b_Costs_told, fun Q E q => ⟨_, rfl, by rw [toldT, if_neg (by decide), if_pos rfl] at q; exact q⟩⟩
  · exact ⟨a, _, dx, _, _, _, _, rfl, h, rfl, T.C_Truths, T.t_Truths_told, (ok_Truths_told T).mono (by decide), T.b_Truths_told, fun Q E q => ⟨_, rfl, by rw [toldT, if_neg (by decide), if_neg (by decide), if_pos rfl] at q; exact q⟩⟩
theorem resB_p {w' p p' : Int} {v : V} {x : Option (List V)} (h : w' ≠ 1) : resB w' p v x = resB w' p' v x := by
  unfold resB
  rw [if_neg h, if_neg h]
def sp_law (K : PySem.W.Frag) : Sp := fun vs H Q _ => ∃ (a : Addr) (ns : List Int), vs = [.ref a] ∧ SqL K H a (ns.map V.int) ∧ ns.length ≤ 63 ∧ ∀ H', Q (.bl true) H'
theorem ok_law (T : Txt K mg t) : FnOk Pr w K mg base CX0 50 t.law t.d_law ["_law_script"] (sp_law K) := by
  refine T.F_law.ok sc_law (fun vs H Q E h => ?_) (fun cdv A outer s H vs Q E hr h => ?_)
  · obtain ⟨a, ns, rfl, _⟩ := h
    rfl
  · obtain ⟨a, ns, rfl, hS, hlen, k⟩ := h
    refine ⟨_, (pss_cons (ps_set (i := 1) sc_law.nd rfl (Or.inl rfl) (pe_op op_cat (pe_slice sl_list (pv 0) po_none (po_some pe_int)) (pe_lst (pa_cons pe_int (pa_cons (pe_op op_sub pe_int pe_int) (pa_cons pe_int (pa_cons pe_int pa_nil))))))) (pss_cons (ps_for PassesOwn.never rfl (pi_range1 rfl T.z_range (pa_cons (pe_callB call_len (by rfl) T.z_len PySem.boot_len (pa_cons (pv 1) pa_nil)) pa_nil)) (pg_name (i := 2) sc_law.nd rfl (Or.inl rfl)) (pss_cons (ps_set (i := 3) sc_law.nd rfl (Or.inl rfl) (pe_call (ok_law_name T) (hr.mono (by decide)) rfl T.m_law_name T.F_law_name.kp T.b_law_name .nil pass0 (pa_cons (pe_ix ix_list (pv 1) (pv 2) (fun _ _ => rfl)) pa_nil))) (pss_cons (ps_set (i := 4) sc_law.nd rfl (Or.inl rfl) (pe_call (ok_law_way T) (hr.mono (by decide)) rfl T.m_law_way T.F_law_way.kp T.b_law_way .nil pass0 (pa_cons (pv 3) pa_nil))) (pss_one (ps_if (pt_cmpR op_lt (pv 4) pe_int (nomark _)) (pss_one (ps_if (pt_not (pt_val (pe_call (ok_law_refused T) (hr.mono (by decide)) rfl T.m_law_refused T.F_law_refused.kp T.b_law_refused .nil pass0 (pa_cons (pv 3) pa_nil)))) (pss_one (ps_ret pe_bl)) pss_nil)) (pss_cons (ps_set (i := 5) sc_law.nd rfl (Or.inl rfl) (pe_call (ok_kind_of T) (hr.mono (by decide)) rfl T.m_kind_of T.F_kind_of.kp T.b_kind_of .nil pass0 (pa_cons (pv 3) pa_nil))) (pss_cons (ps_if (PW.pt (pw_or (pt_not (pt_val (pe_call (ok_law_classes T) (hr.mono (by decide)) rfl T.m_law_classes T.F_law_classes.kp T.b_law_classes .nil pass0 (pa_cons (pv 5) (pa_cons (pv 4) pa_nil))))) (pw_or1 (pt_cmpR op_ne (pe_methD0 (pv 5) pass0) (pv 3) (nomark _))))) (pss_one (ps_ret pe_bl)) pss_nil) (pss_cons (ps_set (i := 6) sc_law.nd rfl (Or.inl rfl) pe_int) (pss_cons (ps_if (pt_cmpR op_eq (pv 4) pe_int (nomark _)) (pss_one (ps_set (i := 6) sc_law.nd rfl (Or.inl rfl) (pe_callTy call_int_text (by rfl) T.z_int boot_int (pa_cons (pe_slice sl_str (pv 3) (po_some pe_int) po_none) pa_nil)))) pss_nil) (pss_one (ps_for PassesOwn.never rfl (pi_range1 rfl T.z_range (pa_cons pe_int pa_nil)) (pg_name (i := 7) sc_law.nd rfl (Or.inl rfl)) (pss_cons (ps_set (i := 8) sc_law.nd rfl (Or.inl rfl) (pe_call (ok_law_thing T) (hr.mono (by decide)) rfl T.m_law_thing T.F_law_thing.kp T.b_law_thing .nil pass0 (pa_cons (pe_op op_add (pe_op op_fdivB (pe_ix ix_list (pv 1) (pe_op op_modN (pe_op op_add (pv 2) (pv 7)) (pe_callB call_len (by rfl) T.z_len PySem.boot_len (pa_cons (pv 1) pa_nil))) (fun _ _ => rfl)) pe_int) (pe_op op_mul (pv 7) pe_int)) pa_nil))) (pss_cons (ps_set (i := 9) sc_law.nd rfl (Or.inl rfl) (pe_methD (pv 5) pass0 (pa_cons (pv 8) pa_nil))) (pss_one (ps_if (PW.pt (pw_or (pt_not (pt_val (pe_callB call_isi (by rfl) T.z_isinstance boot_isinstance (pa_cons (pv 9) (pa_cons (pe_bltn (v := .ty "bool") rfl T.z_bool boot_bool rfl) pa_nil))))) (pw_or1 (pt_cmpR op_ne (pv 9) (pe_call (ok_law_is_weight T) (hr.mono (by decide)) rfl T.m_law_is_weight T.F_law_is_weight.kp T.b_law_is_weight .nil pass0 (pa_cons (pv 4) (pa_cons (pv 6) (pa_cons (pv 8) pa_nil)))) (nomark _))))) (pss_one (ps_ret pe_bl)) pss_nil))))))))))))))) (pss_one (ps_ret pe_bl)))), ?_⟩
    have z40 : 1000 < sizeLine := by decide
    -- the cells
    refine ⟨_, rfl, _, rfl, _, _, rfl, hS, fun c1 hc1 => ?_⟩
    refine ⟨_, _, rfl, rfl, (by show 4 ≤ sizeLine; decide), fun c2 hc2 => ?_⟩
    have b1 : (ns.map V.int).length ≤ 63 := by rw [List.length_map]; exact hlen
    have b2 := cutV_length (ns.map V.int) none (some 30)
    refine ⟨_, _, _, _, rfl, rfl, (same_upd hc2) _ _ upd_same, upd_same, (by show _ + 4 ≤ sizeLine; omega), fun c3 hc3 => ?_⟩
    have ec : cutV (ns.map V.int) none (some 30) ++ [V.int 27, V.int (0 - 5), V.int 4, V.int 8] = (ns.take 30 ++ [27, -5, 4, 8]).map V.int := by
      rw [show (30 : Int) = ((30 : Nat) : Int) from rfl, cut_take, List.map_append, List.map_take]; rfl
    have kc := upd_same (H := upd (upd H c1 (.lst (cutV (ns.map V.int) none (some 30)))) c2 (.lst [.int 27, .int (0 - 5), .int 4, .int 8])) (a := c3) (o := .lst (cutV (ns.map V.int) none (some 30) ++ [.int 27, .int (0 - 5), .int 4, .int 8]))
    clear hc3 hc2 hc1
    revert kc
    show ∀ (kc : _ = _), _
    generalize upd (upd (upd H c1 (.lst (cutV (ns.map V.int) none (some 30)))) c2 (.lst [.int 27, .int (0 - 5), .int 4, .int 8])) c3 (.lst (cutV (ns.map V.int) none (some 30) ++ [.int 27, .int (0 - 5), .int 4, .int 8])) = Hc
    intro kc
    rw [ec] at kc
    have hcl : 4 ≤ (ns.take 30 ++ [27, -5, 4, 8] : List Int).length ∧ (ns.take 30 ++ [27, -5, 4, 8] : List Int).length ≤ 67 := by
      rw [List.length_append, List.length_take]; show 4 ≤ _ + 4 ∧ _ + 4 ≤ 67; omega
    clear ec
    revert kc hcl
    generalize (ns.take 30 ++ [27, -5, 4, 8] : List Int) = cs
    rintro kc ⟨hc1, hc2⟩
    have lc : ∀ {G : Hp}, Same Hc G → LenV K (.ref c3) G cs.length := fun {G} g => .inl ⟨_, SqL.of (g _ _ kc), by rw [List.length_map]⟩
    have ca : ∀ i : Int, 0 ≤ i → i < cs.length → ∃ n, atI (cs.map V.int) i = some (.int n) := fun i h0 h1 => by
      obtain ⟨v, e, m⟩ := at_in (xs := cs.map V.int) h0 (by rw [List.length_map]; exact h1)
      obtain ⟨n, _, rfl⟩ := List.mem_map.mp m
      exact ⟨n, e⟩
    refine ⟨_, rfl, _, _, rfl, lc (Same.refl _), _, rfl, (by omega), (by omega), for_it (n := cs.length) (fun i σ G => ∃ v2 v3 v4 v5 v6 v7 v8 v9, σ = [some (.ref a), some (.ref c3), v2, v3, v4, v5, v6, v7, v8, v9] ∧ Same Hc G) ⟨_, _, _, _, _, _, _, _, rfl, Same.refl _⟩ ?_ ?_⟩
    · rintro i σ G hi ⟨v2, v3, v4, v5, v6, v7, v8, v9, rfl, sG⟩
      refine ⟨(show i < (cs.length : Int).toNat by omega), fun y G1 hy => ?_⟩
      obtain ⟨rfl, rfl⟩ := hy
      obtain ⟨ci, ai⟩ := ca (0 + (i : Int)) (by omega) (by omega)
      refine ⟨_, rfl, _, rfl, _, _, _, _, rfl, rfl, SqL.of (sG _ _ kc), ai, ci, rfl, fun nv G2 s2 hn => ?_⟩
      have sG2 := sG.trans s2
      rcases hn with ⟨l, rfl, g, ⟨w', p, ko, elw, etl, e1⟩ | ⟨kn, elw⟩⟩ | o
      · refine ⟨_, rfl, _, rfl, .inl ⟨l, rfl, g, fun G3 s3 => ?_⟩⟩
        rw [elw]
        have sG3 := sG2.trans s3
        have hw : w' = 0 ∨ w' = 1 ∨ w' = 2 ∨ w' = 3 := by
          rcases ko with ⟨_, h⟩ | ⟨_, h⟩ | ⟨_, h⟩ | ⟨_, h, _⟩ <;> omega
        refine ⟨_, rfl, _, _, rfl, rfl, _, rfl, ?_⟩
        refine iteP (fun z => absurd z (by omega)) (fun _ => ?_)
        refine ⟨_, rfl, l, w', p, rfl, ⟨g, ko⟩, fun kv G4 s4 hk => ?_⟩
        have sG4 := sG3.trans s4
        refine ⟨_, rfl, _, rfl, kv, w', p, rfl, hk, fun G5 s5 => ⟨_, rfl, ?_⟩⟩
        (try refine iteF ?_)
        have sG5 := sG4.trans s5
        have hk5 := hk.same s5
        obtain ⟨ka, C, dx, fs, f, fd, sp, rfl, h1, h2, h3, h4, h5, h6, h7⟩ := KdAt.tld (w := w) (base := base) T hk5
        refine ⟨_, rfl, ka, C, dx, fs, f, fd, _, sp, 6, rfl, h1, h2, h3, h4, h5, hr.mono (by decide), h6, h7 _ _ ?_⟩
        refine ⟨_, rfl, rfl, _, rfl, ?_⟩
        dsimp only
        rw [← etl]
        refine iteNS (fun z => absurd rfl z) (fun _ => ?_)
        refine ⟨_, rfl, rfl, _, rfl, ?_⟩
        refine (fun (key : ∀ pr : Int, (w' = 1 → pr = p) → (?F : L2.St → Hp → Prop) [some (.ref a), some (.ref c3), some (.int (0 + (i : Int))), some (vT l), some (.int w'), some (.ref ka), some (.int pr), v7, v8, v9] G5) => ?main) ?rest
        case main =>
          refine iteI (fun ew => ?_) (fun ew => ?_)
          · refine ⟨_, rfl, _, rfl, _, rfl, by rw [tx_len]; have := g.1; omega, _, p, rfl, by rw [sl_from (by decide)]; exact e1 ew, ?_, ?_⟩
            · rw [sl_from (by decide), tx_len, List.length_drop]; have := g.1; omega
            · exact key p (fun _ => rfl)
          · exact key 2 (fun z => absurd z ew)
        case rest =>
          intro pr hpr
          refine ⟨_, rfl, (by decide), (by decide), for_it (n := 3) (fun j σ F => ∃ v7 v8 v9, σ = [some (.ref a), some (.ref c3), some (.int (0 + (i : Int))), some (vT l), some (.int w'), some (.ref ka), some (.int pr), v7, v8, v9] ∧ Same G5 F) ⟨_, _, _, rfl, Same.refl _⟩ ?_ ?_⟩
          · rintro j σ F hj ⟨u7, u8, u9, rfl, sF⟩
            refine ⟨(show j < (3 : Int).toNat from hj), fun y F1 hy => ?_⟩
            obtain ⟨rfl, rfl⟩ := hy
            have fm := fm_in ((0 : Int) + (i : Int) + (0 + (j : Int))) (cs.length : Int) (by omega)
            obtain ⟨cj, aj⟩ := ca _ fm.1 fm.2
            refine ⟨_, rfl, _, rfl, _, rfl, _, _, rfl, rfl, _, rfl, _, _, rfl, lc (sG5.trans sF), _, _, rfl, rfl, (show (cs.length : Int) ≠ 0 by omega), _, _, _, _, rfl, rfl, SqL.of ((sG5.trans sF) _ _ kc), aj, _, _, rfl, rfl, ⟨by decide, by decide⟩, _, rfl, _, _, rfl, rfl, .inr ⟨by decide, by decide⟩, _, _, rfl, rfl, _, rfl, fun tv x F2 sF2 ht => ?_⟩
            have hk2 := hk5.same (sF.trans sF2)
            obtain ⟨ka2, C2, dx2, fs2, f2, fd2, sp2, ek, g1, g2, g3, g4, g5, g6, g7⟩ := KdAt.isw (w := w) (base := base) T hk2
            cases ek
            refine ⟨_, rfl, _, C2, dx2, fs2, f2, fd2, _, sp2, 6, rfl, g1, g2, g3, g4, g5, hr.mono (by decide), g6, _, rfl, g7 tv x _ _ ht ?_⟩
            refine ⟨_, rfl, _, _, _, _, rfl, TyOf.bl _, T.k_bb, _, rfl, ?_⟩
            (try refine iteF ?_)
            refine ⟨_, rfl, _, rfl, _, rfl, _, rfl, w', pr, tv, x, rfl, ⟨ht, hw⟩, rfl, _, rfl, ?_⟩
            have er : resB w' p tv x = resB w' pr tv x := by
              by_cases e : w' = 1
              · rw [hpr e]
              · exact resB_p e
            rw [er, show (!decide (V.bl (resB w' pr tv x) = V.bl (resB w' pr tv x))) = false by simp]
            (try refine iteF ?_)
            exact ⟨_, _, _, rfl, sF.trans sF2⟩
          · rintro σ F ⟨u7, u8, u9, rfl, sF⟩
            exact ⟨(show (3 : Int).toNat ≤ 3 from Nat.le_refl _), _, _, _, _, _, _, _, _, rfl, sG5.trans sF⟩
      · refine ⟨_, rfl, _, rfl, .inl ⟨l, rfl, g, fun G3 s3 => ?_⟩⟩
        rw [elw]
        refine ⟨_, rfl, _, _, rfl, rfl, _, rfl, ?_⟩
        refine iteP (fun _ => ?_) (fun z => absurd (by decide) z)
        refine ⟨_, rfl, _, rfl, .inl ⟨l, rfl, g, kn⟩, fun G4 s4 => ⟨_, rfl, ?_⟩⟩
        (try refine iteF ?_)
        exact ⟨_, _, _, _, _, _, _, _, rfl, (sG2.trans s3).trans s4⟩
      · refine ⟨_, rfl, _, rfl, .inr ⟨o.no T, ?_⟩⟩
        refine ⟨_, rfl, _, _, rfl, rfl, _, rfl, ?_⟩
        refine iteP (fun _ => ?_) (fun z => absurd (by decide) z)
        refine ⟨_, rfl, _, rfl, .inr o, fun G4 s4 => ⟨_, rfl, ?_⟩⟩
        (try refine iteF ?_)
        exact ⟨_, _, _, _, _, _, _, _, rfl, sG2.trans s4⟩
    · rintro σ G ⟨v2, v3, v4, v5, v6, v7, v8, v9, rfl, sG⟩
      exact ⟨(show (cs.length : Int).toNat ≤ cs.length by omega), k _⟩
theorem law_binds (T : Txt K mg t) : ∀ (s : Shared) (u : Value), BindsTo s t.d_law ⟨[u], []⟩ [("_law_script", u)] := by
  obtain ⟨oc, od, kV, doc, pm, an, cdv, ct, osl, e, _, _⟩ := T.F_law.ex
  rw [e]
  exact fun s u => .of_eq rfl
end
abbrev FD (n q : Str) (s : Stmt) (c d e : Value) (v : Option Addr) (g j : Value) : FuncData := PySem.W.fnOf n q (defArgs s) (defBody s) (defScope s) .none c d e v g j
abbrev NS (K : PySem.W.Frag) (x : Str) (a : Addr) : Prop := PySem.W.nsIn K mainGlobals x = some (some (.ref a))
abbrev HL (K : PySem.W.Frag) (a : Addr) (b : Value) (u : Option Addr) (d : FuncData) (w : Array (Option Value)) : Prop := K.lookup a = some ⟨b, u, .func d, w⟩
abbrev KI (K : PySem.W.Frag) (a : Addr) : Prop := PySem.W.keepIn K (.ref a) = true
theorem txt_mk {K : PySem.W.Frag} {h : Heap} {mg : Str → Option Value} (X : K.In h) (G : h.Ns mainGlobals mg) {A0 A1 A2 A3 A4 A5 A6 A7 A8 A9 A10 A11 A12 A13 A14 A15 A16 A17 A18 A19 A20 A21 A22 A23 A24 A25 A26 A27 A28 A29 A30 A31 A32 A33 A34 A35 A36 A37 : Addr} {b0 c0 d0 e0 g0 j0 b1 c1 d1 e1 g1 j1 b2 c2 d2 e2 g2 j2 b3 c3 d3 e3 g3 j3 b4 c4 d4 e4 g4 j4 b5 c5 d5 e5 g5 j5 b6 c6 d6 e6 g6 j6 b7 c7 d7 e7 g7 j7 b8 c8 d8 e8 g8 j8 b9 c9 d9 e9 g9 j9 b10 c10 d10 e10 g10 j10 b11 c11 d11 e11 g11 j11 b12 c12 d12 e12 g12 j12 b13 c13 d13 e13 g13 j13 b14 c14 d14 e14 g14 j14 b15 c15 d15 e15 g15 j15 b16 c16 d16 e16 g16 j16 b17 c17 d17 e17 g17 j17 b18 c18 d18 e18 g18 j18 b19 c19 d19 e19 g19 j19 b20 c20 d20 e20 g20 j20 b21 c21 d21 e21 g21 j21 b22 c22 d22 e22 g22 j22 b23 c23 d23 e23 g23 j23 b24 c24 d24 e24 g24 j24 b25 c25 d25 e25 g25 j25 : Value} {u0 v0 u1 v1 u2 v2 u3 v3 u4 v4 u5 v5 u6 v6 u7 v7 u8 v8 u9 v9 u10 v10 u11 v11 u12 v12 u13 v13 u14 v14 u15 v15 u16 v16 u17 v17 u18 v18 u19 v19 u20 v20 u21 v21 u22 v22 u23 v23 u24 v24 u25 v25 : Option Addr} {w0 w1 w2 w3 w4 w5 w6 w7 w8 w9 w10 w11 w12 w13 w14 w15 w16 w17 w18 w19 w20 w21 w22 w23 w24 w25 : Array (Option Value)}
 (N0 : NS K "Kind" A0)
 (pg0 : PySem.W.plainGet K A0 Str.empty = true)
 (hd0 : PySem.W.hasDictIn K A0 = true)
 (po0 : PySem.W.plainOver K A0 = true)
 (sa0 : PySem.W.findIn K (.ref A0) "__setattr__" = some (some (.builtin "object.__setattr__")))
 (mk0 : PySem.W.makesIn K A0 = true)
 (kp0 : KI K A0)
 (in0 : PySem.W.findIn K (.ref A0) "__init__" = some (some (.builtin "object.__init__")))
 (N1 : NS K "Field" A1)
 (pg1 : PySem.W.plainGet K A1 Str.empty = true)
 (hd1 : PySem.W.hasDictIn K A1 = true)
 (po1 : PySem.W.plainOver K A1 = true)
 (sa1 : PySem.W.findIn K (.ref A1) "__setattr__" = some (some (.builtin "object.__setattr__")))
 (mk1 : PySem.W.makesIn K A1 = true)
 (kp1 : KI K A1)
 (in1 : PySem.W.findIn K (.ref A1) "__init__" = some (some (.builtin "object.__init__")))
 (N2 : NS K "Picking" A2)
 (pg2 : PySem.W.plainGet K A2 Str.empty = true)
 (hd2 : PySem.W.hasDictIn K A2 = true)
 (po2 : PySem.W.plainOver K A2 = true)
 (sa2 : PySem.W.findIn K (.ref A2) "__setattr__" = some (some (.builtin "object.__setattr__")))
 (mk2 : PySem.W.makesIn K A2 = true)
 (kp2 : KI K A2)
 (in2 : PySem.W.findIn K (.ref A2) "__init__" = some (some (.builtin "object.__init__")))
 (N3 : NS K "Fractions" A3)
 (pg3 : PySem.W.plainGet K A3 Str.empty = true)
 (hd3 : PySem.W.hasDictIn K A3 = true)
 (po3 : PySem.W.plainOver K A3 = true)
 (sa3 : PySem.W.findIn K (.ref A3) "__setattr__" = some (some (.builtin "object.__setattr__")))
 (mk3 : PySem.W.makesIn K A3 = true)
 (kp3 : KI K A3)
 (in3 : PySem.W.findIn K (.ref A3) "__init__" = some (some (.builtin "object.__init__")))
 (N4 : NS K "Residues" A4)
 (pg4 : PySem.W.plainGet K A4 Str.empty = true)
 (hd4 : PySem.W.hasDictIn K A4 = true)
 (po4 : PySem.W.plainOver K A4 = true)
 (sa4 : PySem.W.findIn K (.ref A4) "__setattr__" = some (some (.builtin "object.__setattr__")))
 (mk4 : PySem.W.makesIn K A4 = true)
 (kp4 : KI K A4)
 (N5 : NS K "Costs" A5)
 (pg5 : PySem.W.plainGet K A5 Str.empty = true)
 (hd5 : PySem.W.hasDictIn K A5 = true)
 (po5 : PySem.W.plainOver K A5 = true)
 (sa5 : PySem.W.findIn K (.ref A5) "__setattr__" = some (some (.builtin "object.__setattr__")))
 (mk5 : PySem.W.makesIn K A5 = true)
 (kp5 : KI K A5)
 (in5 : PySem.W.findIn K (.ref A5) "__init__" = some (some (.builtin "object.__init__")))
 (N6 : NS K "Truths" A6)
 (pg6 : PySem.W.plainGet K A6 Str.empty = true)
 (hd6 : PySem.W.hasDictIn K A6 = true)
 (po6 : PySem.W.plainOver K A6 = true)
 (sa6 : PySem.W.findIn K (.ref A6) "__setattr__" = some (some (.builtin "object.__setattr__")))
 (mk6 : PySem.W.makesIn K A6 = true)
 (kp6 : KI K A6)
 (in6 : PySem.W.findIn K (.ref A6) "__init__" = some (some (.builtin "object.__init__")))
 (N7 : NS K "WeighError" A7)
 (X7 : ExcK K A7)
 (N8 : NS K "NoText" A8)
 (X8 : ExcK K A8)
 (N9 : NS K "NoKind" A9)
 (X9 : ExcK K A9)
 (N10 : NS K "NoWeight" A10)
 (X10 : ExcK K A10)
 (N11 : NS K "WrongKind" A11)
 (X11 : ExcK K A11)
 (n0 : NS K "is_whole" A12)
 (l0 : HL K A12 b0 u0 (FD "is_whole" "is_whole" s_is_whole c0 d0 e0 v0 g0 j0) w0)
 (q0 : PySem.W.codeIn K g0 "is_whole" = true)
 (k0 : KI K A12)
 (n1 : NS K "divisor" A13)
 (l1 : HL K A13 b1 u1 (FD "divisor" "divisor" s_divisor c1 d1 e1 v1 g1 j1) w1)
 (q1 : PySem.W.codeIn K g1 "divisor" = true)
 (k1 : KI K A13)
 (n2 : NS K "is_prime" A14)
 (l2 : HL K A14 b2 u2 (FD "is_prime" "is_prime" s_is_prime c2 d2 e2 v2 g2 j2) w2)
 (q2 : PySem.W.codeIn K g2 "is_prime" = true)
 (k2 : KI K A14)
 (n3 : PySem.W.findIn K (.ref A4) "__init__" = some (some (.ref A15)))
 (i3 : PySem.W.isFn K (.ref A15) = true)
 (l3 : HL K A15 b3 u3 (FD "__init__" "Residues.__init__" s_Residues___init__ c3 d3 e3 v3 g3 j3) w3)
 (q3 : PySem.W.codeIn K g3 "Residues.__init__" = true)
 (k3 : KI K A15)
 (n4 : PySem.W.findIn K (.ref A4) "told" = some (some (.ref A16)))
 (i4 : PySem.W.isFn K (.ref A16) = true)
 (l4 : HL K A16 b4 u4 (FD "told" "Residues.told" s_Residues_told c4 d4 e4 v4 g4 j4) w4)
 (q4 : PySem.W.codeIn K g4 "Residues.told" = true)
 (k4 : KI K A16)
 (n5 : PySem.W.findIn K (.ref A3) "told" = some (some (.ref A17)))
 (i5 : PySem.W.isFn K (.ref A17) = true)
 (l5 : HL K A17 b5 u5 (FD "told" "Fractions.told" s_Fractions_told c5 d5 e5 v5 g5 j5) w5)
 (q5 : PySem.W.codeIn K g5 "Fractions.told" = true)
 (k5 : KI K A17)
 (n6 : PySem.W.findIn K (.ref A5) "told" = some (some (.ref A18)))
 (i6 : PySem.W.isFn K (.ref A18) = true)
 (l6 : HL K A18 b6 u6 (FD "told" "Costs.told" s_Costs_told c6 d6 e6 v6 g6 j6) w6)
 (q6 : PySem.W.codeIn K g6 "Costs.told" = true)
 (k6 : KI K A18)
 (n7 : PySem.W.findIn K (.ref A6) "told" = some (some (.ref A19)))
 (i7 : PySem.W.isFn K (.ref A19) = true)
 (l7 : HL K A19 b7 u7 (FD "told" "Truths.told" s_Truths_told c7 d7 e7 v7 g7 j7) w7)
 (q7 : PySem.W.codeIn K g7 "Truths.told" = true)
 (k7 : KI K A19)
 (n8 : NS K "is_written" A20)
 (l8 : HL K A20 b8 u8 (FD "is_written" "is_written" s_is_written c8 d8 e8 v8 g8 j8) w8)
 (q8 : PySem.W.codeIn K g8 "is_written" = true)
 (k8 : KI K A20)
 (n9 : NS K "residues_called" A21)
 (l9 : HL K A21 b9 u9 (FD "residues_called" "residues_called" s_residues_called c9 d9 e9 v9 g9 j9) w9)
 (q9 : PySem.W.codeIn K g9 "residues_called" = true)
 (k9 : KI K A21)
 (n10 : NS K "kind_of" A22)
 (l10 : HL K A22 b10 u10 (FD "kind_of" "kind_of" s_kind_of c10 d10 e10 v10 g10 j10) w10)
 (q10 : PySem.W.codeIn K g10 "kind_of" = true)
 (k10 : KI K A22)
 (n11 : PySem.W.findIn K (.ref A3) "is_weight" = some (some (.ref A23)))
 (i11 : PySem.W.isFn K (.ref A23) = true)
 (l11 : HL K A23 b11 u11 (FD "is_weight" "Fractions.is_weight" s_Fractions_is_weight c11 d11 e11 v11 g11 j11) w11)
 (q11 : PySem.W.codeIn K g11 "Fractions.is_weight" = true)
 (k11 : KI K A23)
 (n12 : PySem.W.findIn K (.ref A4) "is_weight" = some (some (.ref A24)))
 (i12 : PySem.W.isFn K (.ref A24) = true)
 (l12 : HL K A24 b12 u12 (FD "is_weight" "Residues.is_weight" s_Residues_is_weight c12 d12 e12 v12 g12 j12) w12)
 (q12 : PySem.W.codeIn K g12 "Residues.is_weight" = true)
 (k12 : KI K A24)
 (n13 : PySem.W.findIn K (.ref A5) "is_weight" = some (some (.ref A25)))
 (i13 : PySem.W.isFn K (.ref A25) = true)
 (l13 : HL K A25 b13 u13 (FD "is_weight" "Costs.is_weight" s_Costs_is_weight c13 d13 e13 v13 g13 j13) w13)
 (q13 : PySem.W.codeIn K g13 "Costs.is_weight" = true)
 (k13 : KI K A25)
 (n14 : PySem.W.findIn K (.ref A6) "is_weight" = some (some (.ref A26)))
 (i14 : PySem.W.isFn K (.ref A26) = true)
 (l14 : HL K A26 b14 u14 (FD "is_weight" "Truths.is_weight" s_Truths_is_weight c14 d14 e14 v14 g14 j14) w14)
 (q14 : PySem.W.codeIn K g14 "Truths.is_weight" = true)
 (k14 : KI K A26)
 (n15 : NS K "_law_whole" A27)
 (l15 : HL K A27 b15 u15 (FD "_law_whole" "_law_whole" s_law_whole c15 d15 e15 v15 g15 j15) w15)
 (q15 : PySem.W.codeIn K g15 "_law_whole" = true)
 (k15 : KI K A27)
 (n16 : NS K "_law_divisor" A28)
 (l16 : HL K A28 b16 u16 (FD "_law_divisor" "_law_divisor" s_law_divisor c16 d16 e16 v16 g16 j16) w16)
 (q16 : PySem.W.codeIn K g16 "_law_divisor" = true)
 (k16 : KI K A28)
 (n17 : NS K "_law_number" A29)
 (l17 : HL K A29 b17 u17 (FD "_law_number" "_law_number" s_law_number c17 d17 e17 v17 g17 j17) w17)
 (q17 : PySem.W.codeIn K g17 "_law_number" = true)
 (k17 : KI K A29)
 (n18 : NS K "_law_prime" A30)
 (l18 : HL K A30 b18 u18 (FD "_law_prime" "_law_prime" s_law_prime c18 d18 e18 v18 g18 j18) w18)
 (q18 : PySem.W.codeIn K g18 "_law_prime" = true)
 (k18 : KI K A30)
 (n19 : NS K "_law_name" A31)
 (l19 : HL K A31 b19 u19 (FD "_law_name" "_law_name" s_law_name c19 d19 e19 v19 g19 j19) w19)
 (q19 : PySem.W.codeIn K g19 "_law_name" = true)
 (k19 : KI K A31)
 (n20 : NS K "_law_way" A32)
 (l20 : HL K A32 b20 u20 (FD "_law_way" "_law_way" s_law_way c20 d20 e20 v20 g20 j20) w20)
 (q20 : PySem.W.codeIn K g20 "_law_way" = true)
 (k20 : KI K A32)
 (n21 : NS K "_law_refused" A33)
 (l21 : HL K A33 b21 u21 (FD "_law_refused" "_law_refused" s_law_refused c21 d21 e21 v21 g21 j21) w21)
 (q21 : PySem.W.codeIn K g21 "_law_refused" = true)
 (k21 : KI K A33)
 (n22 : NS K "_law_classes" A34)
 (l22 : HL K A34 b22 u22 (FD "_law_classes" "_law_classes" s_law_classes c22 d22 e22 v22 g22 j22) w22)
 (q22 : PySem.W.codeIn K g22 "_law_classes" = true)
 (k22 : KI K A34)
 (n23 : NS K "_law_thing" A35)
 (l23 : HL K A35 b23 u23 (FD "_law_thing" "_law_thing" s_law_thing c23 d23 e23 v23 g23 j23) w23)
 (q23 : PySem.W.codeIn K g23 "_law_thing" = true)
 (k23 : KI K A35)
 (n24 : NS K "_law_is_weight" A36)
 (l24 : HL K A36 b24 u24 (FD "_law_is_weight" "_law_is_weight" s_law_is_weight c24 d24 e24 v24 g24 j24) w24)
 (q24 : PySem.W.codeIn K g24 "_law_is_weight" = true)
 (k24 : KI K A36)
 (n25 : NS K "law" A37)
 (l25 : HL K A37 b25 u25 (FD "law" "law" s_law c25 d25 e25 v25 g25 j25) w25)
 (q25 : PySem.W.codeIn K g25 "law" = true)
 (k25 : KI K A37)
 (z_isinstance : PySem.W.nsIn K mainGlobals "isinstance" = some none)
 (z_int : PySem.W.nsIn K mainGlobals "int" = some none)
 (z_bool : PySem.W.nsIn K mainGlobals "bool" = some none)
 (z_abs : PySem.W.nsIn K mainGlobals "abs" = some none)
 {tk_c_GREATEST_PRIME : Tok}
 (c_GREATEST_PRIME : PySem.W.nsIn K mainGlobals "GREATEST_PRIME" = some (some (.int 1000000 tk_c_GREATEST_PRIME)))
 (z_str : PySem.W.nsIn K mainGlobals "str" = some none)
 (z_len : PySem.W.nsIn K mainGlobals "len" = some none)
 {tk_c_MOST_FIGURES : Tok}
 (c_MOST_FIGURES : PySem.W.nsIn K mainGlobals "MOST_FIGURES" = some (some (.int 30 tk_c_MOST_FIGURES)))
 (z_all : PySem.W.nsIn K mainGlobals "all" = some none)
 {tk_c_FIGURES : Tok}
 (c_FIGURES : PySem.W.nsIn K mainGlobals "FIGURES" = some (some (.str "0123456789" tk_c_FIGURES)))
 (z_tuple : PySem.W.nsIn K mainGlobals "tuple" = some none)
 (z_ValueError : PySem.W.nsIn K mainGlobals "ValueError" = some none)
 (z_range : PySem.W.nsIn K mainGlobals "range" = some none)
 (k_ii : PySem.W.kitOne K (.type "int") (.type "int") = some true)
 (k_ib : PySem.W.kitOne K (.type "int") (.type "bool") = some false)
 (k_it : PySem.W.kitOne K (.type "int") (.type "tuple") = some false)
 (k_is : PySem.W.kitOne K (.type "int") (.type "str") = some false)
 (k_bi : PySem.W.kitOne K (.type "bool") (.type "int") = some true)
 (k_bb : PySem.W.kitOne K (.type "bool") (.type "bool") = some true)
 (k_bt : PySem.W.kitOne K (.type "bool") (.type "tuple") = some false)
 (k_bs : PySem.W.kitOne K (.type "bool") (.type "str") = some false)
 (k_ni : PySem.W.kitOne K (.type "NoneType") (.type "int") = some false)
 (k_nb : PySem.W.kitOne K (.type "NoneType") (.type "bool") = some false)
 (k_nt : PySem.W.kitOne K (.type "NoneType") (.type "tuple") = some false)
 (k_ns : PySem.W.kitOne K (.type "NoneType") (.type "str") = some false)
 (k_si : PySem.W.kitOne K (.type "str") (.type "int") = some false)
 (k_sb : PySem.W.kitOne K (.type "str") (.type "bool") = some false)
 (k_st : PySem.W.kitOne K (.type "str") (.type "tuple") = some false)
 (k_ss : PySem.W.kitOne K (.type "str") (.type "str") = some true)
 (k_ti : PySem.W.kitOne K (.type "tuple") (.type "int") = some false)
 (k_tb : PySem.W.kitOne K (.type "tuple") (.type "bool") = some false)
 (k_tt : PySem.W.kitOne K (.type "tuple") (.type "tuple") = some true)
 (k_ts : PySem.W.kitOne K (.type "tuple") (.type "str") = some false)
 (k_li : PySem.W.kitOne K (.type "list") (.type "int") = some false)
 (k_lb : PySem.W.kitOne K (.type "list") (.type "bool") = some false)
 (k_lt : PySem.W.kitOne K (.type "list") (.type "tuple") = some false)
 (k_ls : PySem.W.kitOne K (.type "list") (.type "str") = some false)
 (k_di : PySem.W.kitOne K (.type "dict") (.type "int") = some false)
 (k_db : PySem.W.kitOne K (.type "dict") (.type "bool") = some false)
 (k_dt : PySem.W.kitOne K (.type "dict") (.type "tuple") = some false)
 (k_ds : PySem.W.kitOne K (.type "dict") (.type "str") = some false)
 (nP : PySem.W.findIn K (.ref A4) "prime" = some none)
 (e_K : PySem.W.exmOne K (.ref A9) (.ref A7) = some true)
 (k_KT : PySem.W.kitOne K (.ref A9) (.ref A8) = some false)
 (k_KW : PySem.W.kitOne K (.ref A9) (.ref A10) = some false)
 (k_KG : PySem.W.kitOne K (.ref A9) (.ref A11) = some false)
 (k_KK : PySem.W.kitOne K (.ref A9) (.ref A9) = some true)
 (k_KV : PySem.W.kitOne K (.ref A9) (.type "ValueError") = some true)
 (i_F_Fr : PySem.W.kitOne K (.ref A3) (.ref A3) = some true)
 (i_F_Re : PySem.W.kitOne K (.ref A3) (.ref A4) = some false)
 (i_F_Co : PySem.W.kitOne K (.ref A3) (.ref A5) = some false)
 (i_F_Tr : PySem.W.kitOne K (.ref A3) (.ref A6) = some false)
 (i_F_Ki : PySem.W.kitOne K (.ref A3) (.ref A0) = some true)
 (i_F_Fi : PySem.W.kitOne K (.ref A3) (.ref A1) = some true)
 (i_F_Pi : PySem.W.kitOne K (.ref A3) (.ref A2) = some false)
 (hc_F : PySem.W.findIn K (.ref A3) "__class__" = some (some (.builtin "object.__class__")))
 (hm_F : PySem.W.mroIn K A3 (.type "object") = some true)
 (i_R_Fr : PySem.W.kitOne K (.ref A4) (.ref A3) = some false)
 (i_R_Re : PySem.W.kitOne K (.ref A4) (.ref A4) = some true)
 (i_R_Co : PySem.W.kitOne K (.ref A4) (.ref A5) = some false)
 (i_R_Tr : PySem.W.kitOne K (.ref A4) (.ref A6) = some false)
 (i_R_Ki : PySem.W.kitOne K (.ref A4) (.ref A0) = some true)
 (i_R_Fi : PySem.W.kitOne K (.ref A4) (.ref A1) = some true)
 (i_R_Pi : PySem.W.kitOne K (.ref A4) (.ref A2) = some false)
 (hc_R : PySem.W.findIn K (.ref A4) "__class__" = some (some (.builtin "object.__class__")))
 (hm_R : PySem.W.mroIn K A4 (.type "object") = some true)
 (i_C_Fr : PySem.W.kitOne K (.ref A5) (.ref A3) = some false)
 (i_C_Re : PySem.W.kitOne K (.ref A5) (.ref A4) = some false)
 (i_C_Co : PySem.W.kitOne K (.ref A5) (.ref A5) = some true)
 (i_C_Tr : PySem.W.kitOne K (.ref A5) (.ref A6) = some false)
 (i_C_Ki : PySem.W.kitOne K (.ref A5) (.ref A0) = some true)
 (i_C_Fi : PySem.W.kitOne K (.ref A5) (.ref A1) = some false)
 (i_C_Pi : PySem.W.kitOne K (.ref A5) (.ref A2) = some true)
 (hc_C : PySem.W.findIn K (.ref A5) "__class__" = some (some (.builtin "object.__class__")))
 (hm_C : PySem.W.mroIn K A5 (.type "object") = some true)
 (i_T_Fr : PySem.W.kitOne K (.ref A6) (.ref A3) = some false)
 (i_T_Re : PySem.W.kitOne K (.ref A6) (.ref A4) = some false)
 (i_T_Co : PySem.W.kitOne K (.ref A6) (.ref A5) = some false)
 (i_T_Tr : PySem.W.kitOne K (.ref A6) (.ref A6) = some true)
 (i_T_Ki : PySem.W.kitOne K (.ref A6) (.ref A0) = some true)
 (i_T_Fi : PySem.W.kitOne K (.ref A6) (.ref A1) = some false)
 (i_T_Pi : PySem.W.kitOne K (.ref A6) (.ref A2) = some true)
 (hc_T : PySem.W.findIn K (.ref A6) "__class__" = some (some (.builtin "object.__class__")))
 (hm_T : PySem.W.mroIn K A6 (.type "object") = some true)
 (hn : PySem.W.specialIn K (.builtin "object.__class__") "__get__" = some (some (.builtin "getset_descriptor.__get__")))
 (htk : PySem.W.takesIn K (.builtin "object.__class__") = some true)
 : ∃ t : Adr, Txt K mg t :=
 ⟨{ is_whole := A12, d_is_whole := FD "is_whole" "is_whole" s_is_whole c0 d0 e0 v0 g0 j0, divisor := A13, d_divisor := FD "divisor" "divisor" s_divisor c1 d1 e1 v1 g1 j1, is_prime := A14, d_is_prime := FD "is_prime" "is_prime" s_is_prime c2 d2 e2 v2 g2 j2, Residues___init__ := A15, d_Residues___init__ := FD "__init__" "Residues.__init__" s_Residues___init__ c3 d3 e3 v3 g3 j3, Residues_told := A16, d_Residues_told := FD "told" "Residues.told" s_Residues_told c4 d4 e4 v4 g4 j4, Fractions_told := A17, d_Fractions_told := FD "told" "Fractions.told" s_Fractions_told c5 d5 e5 v5 g5 j5, Costs_told := A18, d_Costs_told := FD "told" "Costs.told" s_Costs_told c6 d6 e6 v6 g6 j6, Truths_told := A19, d_Truths_told := FD "told" "Truths.told" s_Truths_told c7 d7 e7 v7 g7 j7, is_written := A20, d_is_written := FD "is_written" "is_written" s_is_written c8 d8 e8 v8 g8 j8, residues_called := A21, d_residues_called := FD "residues_called" "residues_called" s_residues_called c9 d9 e9 v9 g9 j9, kind_of := A22, d_kind_of := FD "kind_of" "kind_of" s_kind_of c10 d10 e10 v10 g10 j10, Fractions_is_weight := A23, d_Fractions_is_weight := FD "is_weight" "Fractions.is_weight" s_Fractions_is_weight c11 d11 e11 v11 g11 j11, Residues_is_weight := A24, d_Residues_is_weight := FD "is_weight" "Residues.is_weight" s_Residues_is_weight c12 d12 e12 v12 g12 j12, Costs_is_weight := A25, d_Costs_is_weight := FD "is_weight" "Costs.is_weight" s_Costs_is_weight c13 d13 e13 v13 g13 j13, Truths_is_weight := A26, d_Truths_is_weight := FD "is_weight" "Truths.is_weight" s_Truths_is_weight c14 d14 e14 v14 g14 j14, law_whole := A27, d_law_whole := FD "_law_whole" "_law_whole" s_law_whole c15 d15 e15 v15 g15 j15, law_divisor := A28, d_law_divisor := FD "_law_divisor" "_law_divisor" s_law_divisor c16 d16 e16 v16 g16 j16, law_number := A29, d_law_number := FD "_law_number" "_law_number" s_law_number c17 d17 e17 v17 g17 j17, law_prime := A30, d_law_prime := FD "_law_prime" "_law_prime" s_law_prime c18 d18 e18 v18 g18 j18, law_name := A31, d_law_name := FD "_law_name" "_law_name" s_law_name c19 d19 e19 v19 g19 j19, law_way := A32, d_law_way := FD "_law_way" "_law_way" s_law_way c20 d20 e20 v20 g20 j20, law_refused := A33, d_law_refused := FD "_law_refused" "_law_refused" s_law_refused c21 d21 e21 v21 g21 j21, law_classes := A34, d_law_classes := FD "_law_classes" "_law_classes" s_law_classes c22 d22 e22 v22 g22 j22, law_thing := A35, d_law_thing := FD "_law_thing" "_law_thing" s_law_thing c23 d23 e23 v23 g23 j23, law_is_weight := A36, d_law_is_weight := FD "_law_is_weight" "_law_is_weight" s_law_is_weight c24 d24 e24 v24 g24 j24, law := A37, d_law := FD "law" "law" s_law c25 d25 e25 v25 g25 j25, Kind := A0, Field := A1, Picking := A2, Fractions := A3, Residues := A4, Costs := A5, Truths := A6, WeighError := A7, NoText := A8, NoKind := A9, NoWeight := A10, WrongKind := A11 },
   { F_is_whole := fun_mk (st := s_is_whole) l0 q0 k0,
     b_is_whole := (fun_mk (st := s_is_whole) l0 q0 k0).binds (ps := ["thing"]) fun _ _ _ _ _ _ us hl => match us, hl with | [_], _ => rfl,
     m_is_whole := PySem.W.mg_of X G n0,
     F_divisor := fun_mk (st := s_divisor) l1 q1 k1,
     b_divisor := (fun_mk (st := s_divisor) l1 q1 k1).binds (ps := ["one", "other"]) fun _ _ _ _ _ _ us hl => match us, hl with | [_, _], _ => rfl,
     m_divisor := PySem.W.mg_of X G n1,
     F_is_prime := fun_mk (st := s_is_prime) l2 q2 k2,
     b_is_prime := (fun_mk (st := s_is_prime) l2 q2 k2).binds (ps := ["number"]) fun _ _ _ _ _ _ us hl => match us, hl with | [_], _ => rfl,
     m_is_prime := PySem.W.mg_of X G n2,
     F_Residues___init__ := fun_mk (st := s_Residues___init__) l3 q3 k3,
     b_Residues___init__ := (fun_mk (st := s_Residues___init__) l3 q3 k3).binds (ps := ["self", "prime"]) fun _ _ _ _ _ _ us hl => match us, hl with | [_, _], _ => rfl,
     t_Residues___init__ := ⟨n3, i3, k3⟩,
     F_Residues_told := fun_mk (st := s_Residues_told) l4 q4 k4,
     b_Residues_told := (fun_mk (st := s_Residues_told) l4 q4 k4).binds (ps := ["self"]) fun _ _ _ _ _ _ us hl => match us, hl with | [_], _ => rfl,
     t_Residues_told := ⟨n4, i4, k4⟩,
     F_Fractions_told := fun_mk (st := s_Fractions_told) l5 q5 k5,
     b_Fractions_told := (fun_mk (st := s_Fractions_told) l5 q5 k5).binds (ps := ["self"]) fun _ _ _ _ _ _ us hl => match us, hl with | [_], _ => rfl,
     t_Fractions_told := ⟨n5, i5, k5⟩,
     F_Costs_told := fun_mk (st := s_Costs_told) l6 q6 k6,
     b_Costs_told := (fun_mk (st := s_Costs_told) l6 q6 k6).binds (ps := ["self"]) fun _ _ _ _ _ _ us hl => match us, hl with | [_], _ => rfl,
     t_Costs_told := ⟨n6, i6, k6⟩,
     F_Truths_told := fun_mk (st := s_Truths_told) l7 q7 k7,
     b_Truths_told := (fun_mk (st := s_Truths_told) l7 q7 k7).binds (ps := ["self"]) fun _ _ _ _ _ _ us hl => match us, hl with | [_], _ => rfl,
     t_Truths_told := ⟨n7, i7, k7⟩,
     F_is_written := fun_mk (st := s_is_written) l8 q8 k8,
     b_is_written := (fun_mk (st := s_is_written) l8 q8 k8).binds (ps := ["text"]) fun _ _ _ _ _ _ us hl => match us, hl with | [_], _ => rfl,
     m_is_written := PySem.W.mg_of X G n8,
     F_residues_called := fun_mk (st := s_residues_called) l9 q9 k9,
     b_residues_called := (fun_mk (st := s_residues_called) l9 q9 k9).binds (ps := ["text"]) fun _ _ _ _ _ _ us hl => match us, hl with | [_], _ => rfl,
     m_residues_called := PySem.W.mg_of X G n9,
     F_kind_of := fun_mk (st := s_kind_of) l10 q10 k10,
     b_kind_of := (fun_mk (st := s_kind_of) l10 q10 k10).binds (ps := ["text"]) fun _ _ _ _ _ _ us hl => match us, hl with | [_], _ => rfl,
     m_kind_of := PySem.W.mg_of X G n10,
     F_Fractions_is_weight := fun_mk (st := s_Fractions_is_weight) l11 q11 k11,
     b_Fractions_is_weight := (fun_mk (st := s_Fractions_is_weight) l11 q11 k11).binds (ps := ["self", "thing"]) fun _ _ _ _ _ _ us hl => match us, hl with | [_, _], _ => rfl,
     t_Fractions_is_weight := ⟨n11, i11, k11⟩,
     F_Residues_is_weight := fun_mk (st := s_Residues_is_weight) l12 q12 k12,
     b_Residues_is_weight := (fun_mk (st := s_Residues_is_weight) l12 q12 k12).binds (ps := ["self", "thing"]) fun _ _ _ _ _ _ us hl => match us, hl with | [_, _], _ => rfl,
     t_Residues_is_weight := ⟨n12, i12, k12⟩,
     F_Costs_is_weight := fun_mk (st := s_Costs_is_weight) l13 q13 k13,
     b_Costs_is_weight := (fun_mk (st := s_Costs_is_weight) l13 q13 k13).binds (ps := ["self", "thing"]) fun _ _ _ _ _ _ us hl => match us, hl with | [_, _], _ => rfl,
     t_Costs_is_weight := ⟨n13, i13, k13⟩,
     F_Truths_is_weight := fun_mk (st := s_Truths_is_weight) l14 q14 k14,
     b_Truths_is_weight := (fun_mk (st := s_Truths_is_weight) l14 q14 k14).binds (ps := ["self", "thing"]) fun _ _ _ _ _ _ us hl => match us, hl with | [_, _], _ => rfl,
     t_Truths_is_weight := ⟨n14, i14, k14⟩,
     F_law_whole := fun_mk (st := s_law_whole) l15 q15 k15,
     b_law_whole := (fun_mk (st := s_law_whole) l15 q15 k15).binds (ps := ["_law_found"]) fun _ _ _ _ _ _ us hl => match us, hl with | [_], _ => rfl,
     m_law_whole := PySem.W.mg_of X G n15,
     F_law_divisor := fun_mk (st := s_law_divisor) l16 q16 k16,
     b_law_divisor := (fun_mk (st := s_law_divisor) l16 q16 k16).binds (ps := ["_law_one", "_law_other"]) fun _ _ _ _ _ _ us hl => match us, hl with | [_, _], _ => rfl,
     m_law_divisor := PySem.W.mg_of X G n16,
     F_law_number := fun_mk (st := s_law_number) l17 q17 k17,
     b_law_number := (fun_mk (st := s_law_number) l17 q17 k17).binds (ps := ["_law_cell"]) fun _ _ _ _ _ _ us hl => match us, hl with | [_], _ => rfl,
     m_law_number := PySem.W.mg_of X G n17,
     F_law_prime := fun_mk (st := s_law_prime) l18 q18 k18,
     b_law_prime := (fun_mk (st := s_law_prime) l18 q18 k18).binds (ps := ["_law_number_here"]) fun _ _ _ _ _ _ us hl => match us, hl with | [_], _ => rfl,
     m_law_prime := PySem.W.mg_of X G n18,
     F_law_name := fun_mk (st := s_law_name) l19 q19 k19,
     b_law_name := (fun_mk (st := s_law_name) l19 q19 k19).binds (ps := ["_law_cell"]) fun _ _ _ _ _ _ us hl => match us, hl with | [_], _ => rfl,
     m_law_name := PySem.W.mg_of X G n19,
     F_law_way := fun_mk (st := s_law_way) l20 q20 k20,
     b_law_way := (fun_mk (st := s_law_way) l20 q20 k20).binds (ps := ["_law_name_here"]) fun _ _ _ _ _ _ us hl => match us, hl with | [_], _ => rfl,
     m_law_way := PySem.W.mg_of X G n20,
     F_law_refused := fun_mk (st := s_law_refused) l21 q21 k21,
     b_law_refused := (fun_mk (st := s_law_refused) l21 q21 k21).binds (ps := ["_law_name_here"]) fun _ _ _ _ _ _ us hl => match us, hl with | [_], _ => rfl,
     m_law_refused := PySem.W.mg_of X G n21,
     F_law_classes := fun_mk (st := s_law_classes) l22 q22 k22,
     b_law_classes := (fun_mk (st := s_law_classes) l22 q22 k22).binds (ps := ["_law_kind", "_law_way_here"]) fun _ _ _ _ _ _ us hl => match us, hl with | [_, _], _ => rfl,
     m_law_classes := PySem.W.mg_of X G n22,
     F_law_thing := fun_mk (st := s_law_thing) l23 q23 k23,
     b_law_thing := (fun_mk (st := s_law_thing) l23 q23 k23).binds (ps := ["_law_cell"]) fun _ _ _ _ _ _ us hl => match us, hl with | [_], _ => rfl,
     m_law_thing := PySem.W.mg_of X G n23,
     F_law_is_weight := fun_mk (st := s_law_is_weight) l24 q24 k24,
     b_law_is_weight := (fun_mk (st := s_law_is_weight) l24 q24 k24).binds (ps := ["_law_way_here", "_law_prime_here", "_law_thing_here"]) fun _ _ _ _ _ _ us hl => match us, hl with | [_, _, _], _ => rfl,
     m_law_is_weight := PySem.W.mg_of X G n24,
     F_law := fun_mk (st := s_law) l25 q25 k25,
     b_law := (fun_mk (st := s_law) l25 q25 k25).binds (ps := ["_law_script"]) fun _ _ _ _ _ _ us hl => match us, hl with | [_], _ => rfl,
     m_law := PySem.W.mg_of X G n25,
     C_Kind := ⟨pg0, hd0, po0, sa0⟩,
     m_Kind := PySem.W.mg_of X G N0,
     M_Kind := ⟨mk0, in0, kp0⟩,
     C_Field := ⟨pg1, hd1, po1, sa1⟩,
     m_Field := PySem.W.mg_of X G N1,
     M_Field := ⟨mk1, in1, kp1⟩,
     C_Picking := ⟨pg2, hd2, po2, sa2⟩,
     m_Picking := PySem.W.mg_of X G N2,
     M_Picking := ⟨mk2, in2, kp2⟩,
     C_Fractions := ⟨pg3, hd3, po3, sa3⟩,
     m_Fractions := PySem.W.mg_of X G N3,
     M_Fractions := ⟨mk3, in3, kp3⟩,
     C_Residues := ⟨pg4, hd4, po4, sa4⟩,
     m_Residues := PySem.W.mg_of X G N4,
     M_Residues := ⟨mk4, n3, i3, kp4⟩,
     C_Costs := ⟨pg5, hd5, po5, sa5⟩,
     m_Costs := PySem.W.mg_of X G N5,
     M_Costs := ⟨mk5, in5, kp5⟩,
     C_Truths := ⟨pg6, hd6, po6, sa6⟩,
     m_Truths := PySem.W.mg_of X G N6,
     M_Truths := ⟨mk6, in6, kp6⟩,
     m_WeighError := PySem.W.mg_of X G N7,
     x_WeighError := X7,
     m_NoText := PySem.W.mg_of X G N8,
     x_NoText := X8,
     m_NoKind := PySem.W.mg_of X G N9,
     x_NoKind := X9,
     m_NoWeight := PySem.W.mg_of X G N10,
     x_NoWeight := X10,
     m_WrongKind := PySem.W.mg_of X G N11,
     x_WrongKind := X11,
     z_isinstance := PySem.W.mg_none_of X G z_isinstance,
     z_int := PySem.W.mg_none_of X G z_int,
     z_bool := PySem.W.mg_none_of X G z_bool,
     z_abs := PySem.W.mg_none_of X G z_abs,
     c_GREATEST_PRIME := ⟨_, PySem.W.mg_of X G c_GREATEST_PRIME⟩,
     z_str := PySem.W.mg_none_of X G z_str,
     z_len := PySem.W.mg_none_of X G z_len,
     c_MOST_FIGURES := ⟨_, PySem.W.mg_of X G c_MOST_FIGURES⟩,
     z_all := PySem.W.mg_none_of X G z_all,
     c_FIGURES := ⟨_, PySem.W.mg_of X G c_FIGURES⟩,
     z_tuple := PySem.W.mg_none_of X G z_tuple,
     z_ValueError := PySem.W.mg_none_of X G z_ValueError,
     z_range := PySem.W.mg_none_of X G z_range,
     k_ii := k_ii,
     k_ib := k_ib,
     k_it := k_it,
     k_is := k_is,
     k_bi := k_bi,
     k_bb := k_bb,
     k_bt := k_bt,
     k_bs := k_bs,
     k_ni := k_ni,
     k_nb := k_nb,
     k_nt := k_nt,
     k_ns := k_ns,
     k_si := k_si,
     k_sb := k_sb,
     k_st := k_st,
     k_ss := k_ss,
     k_ti := k_ti,
     k_tb := k_tb,
     k_tt := k_tt,
     k_ts := k_ts,
     k_li := k_li,
     k_lb := k_lb,
     k_lt := k_lt,
     k_ls := k_ls,
     k_di := k_di,
     k_db := k_db,
     k_dt := k_dt,
     k_ds := k_ds,
     nP := nP,
     e_K := e_K,
     k_KT := k_KT,
     k_KW := k_KW,
     k_KG := k_KG,
     k_KK := k_KK,
     k_KV := k_KV,
     i_F_Fr := i_F_Fr,
     i_F_Re := i_F_Re,
     i_F_Co := i_F_Co,
     i_F_Tr := i_F_Tr,
     i_F_Ki := i_F_Ki,
     i_F_Fi := i_F_Fi,
     i_F_Pi := i_F_Pi,
     hc_F := hc_F,
     hm_F := hm_F,
     i_R_Fr := i_R_Fr,
     i_R_Re := i_R_Re,
     i_R_Co := i_R_Co,
     i_R_Tr := i_R_Tr,
     i_R_Ki := i_R_Ki,
     i_R_Fi := i_R_Fi,
     i_R_Pi := i_R_Pi,
     hc_R := hc_R,
     hm_R := hm_R,
     i_C_Fr := i_C_Fr,
     i_C_Re := i_C_Re,
     i_C_Co := i_C_Co,
     i_C_Tr := i_C_Tr,
     i_C_Ki := i_C_Ki,
     i_C_Fi := i_C_Fi,
     i_C_Pi := i_C_Pi,
     hc_C := hc_C,
     hm_C := hm_C,
     i_T_Fr := i_T_Fr,
     i_T_Re := i_T_Re,
     i_T_Co := i_T_Co,
     i_T_Tr := i_T_Tr,
     i_T_Ki := i_T_Ki,
     i_T_Fi := i_T_Fi,
     i_T_Pi := i_T_Pi,
     hc_T := hc_T,
     hm_T := hm_T,
     hn := hn,
     htk := htk }⟩
end K08
open PySem PySem.W PyProof.Rows
set_option maxRecDepth 100000 in
set_option maxHeartbeats 0 in
theorem PySem.Challenge.cw_weighwalk_k08_kinds_by_name_holds : PySem.Challenge.rw_weighwalk_k08_kinds_by_name.Holds := by
  w_on; o_law
  refine H08.holds_ (by assumption) ?hw ?hc
  (case hw => w_witness2)
  unfold H08.hook
  k_fill
  refine L2.walk_ofK (l := PySem.Challenge.rw_weighwalk_k08_kinds_by_name) (n := 63) (k := 50) (x := "_law_script") (CX := L2.CX0) (sp := K08.sp_law) rfl (by decide) rfl ⟨rfl, by decide, by decide⟩ (by decide +kernel) (fun w h Y => PySem.W.kIn_of Y) ?F ?S ?C
  case F =>
    intro w mg fa h KX G hmg
    have T : ∃ t, K08.Txt (L2.KOf KX) mg t := by
      dsimp only [L2.KOf]
      refine' K08.txt_mk KX G ?N0 ?pg0 ?hd0 ?po0 ?sa0 ?mk0 ?kp0 ?in0 ?N1 ?pg1 ?hd1 ?po1 ?sa1 ?mk1 ?kp1 ?in1 ?N2 ?pg2 ?hd2 ?po2 ?sa2 ?mk2 ?kp2 ?in2 ?N3 ?pg3 ?hd3 ?po3 ?sa3 ?mk3 ?kp3 ?in3 ?N4 ?pg4 ?hd4 ?po4 ?sa4 ?mk4 ?kp4 ?N5 ?pg5 ?hd5 ?po5 ?sa5 ?mk5 ?kp5 ?in5 ?N6 ?pg6 ?hd6 ?po6 ?sa6 ?mk6 ?kp6 ?in6 ?N7 ?X7 ?N8 ?X8 ?N9 ?X9 ?N10 ?X10 ?N11 ?X11 ?n0 ?l0 ?q0 ?k0 ?n1 ?l1 ?q1 ?k1 ?n2 ?l2 ?q2 ?k2 ?n3 ?i3 ?l3 ?q3 ?k3 ?n4 ?i4 ?l4 ?q4 ?k4 ?n5 ?i5 ?l5 ?q5 ?k5 ?n6 ?i6 ?l6 ?q6 ?k6 ?n7 ?i7 ?l7 ?q7 ?k7 ?n8 ?l8 ?q8 ?k8 ?n9 ?l9 ?q9 ?k9 ?n10 ?l10 ?q10 ?k10 ?n11 ?i11 ?l11 ?q11 ?k11 ?n12 ?i12 ?l12 ?q12 ?k12 ?n13 ?i13 ?l13 ?q13 ?k13 ?n14 ?i14 ?l14 ?q14 ?k14 ?n15 ?l15 ?q15 ?k15 ?n16 ?l16 ?q16 ?k16 ?n17 ?l17 ?q17 ?k17 ?n18 ?l18 ?q18 ?k18 ?n19 ?l19 ?q19 ?k19 ?n20 ?l20 ?q20 ?k20 ?n21 ?l21 ?q21 ?k21 ?n22 ?l22 ?q22 ?k22 ?n23 ?l23 ?q23 ?k23 ?n24 ?l24 ?q24 ?k24 ?n25 ?l25 ?q25 ?k25 ?z_isinstance ?z_int ?z_bool ?z_abs ?c_GREATEST_PRIME ?z_str ?z_len ?c_MOST_FIGURES ?z_all ?c_FIGURES ?z_tuple ?z_ValueError ?z_range ?k_ii ?k_ib ?k_it ?k_is ?k_bi ?k_bb ?k_bt ?k_bs ?k_ni ?k_nb ?k_nt ?k_ns ?k_si ?k_sb ?k_st ?k_ss ?k_ti ?k_tb ?k_tt ?k_ts ?k_li ?k_lb ?k_lt ?k_ls ?k_di ?k_db ?k_dt ?k_ds ?nP ?e_K ?k_KT ?k_KW ?k_KG ?k_KK ?k_KV ?i_F_Fr ?i_F_Re ?i_F_Co ?i_F_Tr ?i_F_Ki ?i_F_Fi ?i_F_Pi ?hc_F ?hm_F ?i_R_Fr ?i_R_Re ?i_R_Co ?i_R_Tr ?i_R_Ki ?i_R_Fi ?i_R_Pi ?hc_R ?hm_R ?i_C_Fr ?i_C_Re ?i_C_Co ?i_C_Tr ?i_C_Ki ?i_C_Fi ?i_C_Pi ?hc_C ?hm_C ?i_T_Fr ?i_T_Re ?i_T_Co ?i_T_Tr ?i_T_Ki ?i_T_Fi ?i_T_Pi ?hc_T ?hm_T ?hn ?htk
      (case N0 | pg0 | hd0 | po0 | sa0 | mk0 | kp0 | in0 | N1 | pg1 | hd1 | po1 | sa1 | mk1 | kp1 | in1 | N2 | pg2 | hd2 | po2 | sa2 | mk2 | kp2 | in2 | N3 | pg3 | hd3 | po3 | sa3 | mk3 | kp3 | in3 | N4 | pg4 | hd4 | po4 | sa4 | mk4 | kp4 | N5 | pg5 | hd5 | po5 | sa5 | mk5 | kp5 | in5 | N6 | pg6 | hd6 | po6 | sa6 | mk6 | kp6 | in6 | N7 => show _ = _; k_is)
      (case X7 => exact ⟨by kernel_rfl, by kernel_rfl, by kernel_rfl, by kernel_rfl, by kernel_rfl, by kernel_rfl⟩)
      (case N8 => show _ = _; k_is)
      (case X8 => exact ⟨by kernel_rfl, by kernel_rfl, by kernel_rfl, by kernel_rfl, by kernel_rfl, by kernel_rfl⟩)
      (case N9 => show _ = _; k_is)
      (case X9 => exact ⟨by kernel_rfl, by kernel_rfl, by kernel_rfl, by kernel_rfl, by kernel_rfl, by kernel_rfl⟩)
      (case N10 => show _ = _; k_is)
      (case X10 => exact ⟨by kernel_rfl, by kernel_rfl, by kernel_rfl, by kernel_rfl, by kernel_rfl, by kernel_rfl⟩)
      (case N11 => show _ = _; k_is)
      (case X11 => exact ⟨by kernel_rfl, by kernel_rfl, by kernel_rfl, by kernel_rfl, by kernel_rfl, by kernel_rfl⟩)
      (case n0 => show _ = _; k_is)
      (case l0 => exact H08.lk_is_whole _)
      (case q0 | k0 | n1 => show _ = _; k_is)
      (case l1 => exact H08.lk_divisor _)
      (case q1 | k1 | n2 => show _ = _; k_is)
      (case l2 => exact H08.lk_is_prime _)
      (case q2 | k2 | n3 | i3 => show _ = _; k_is)
      (case l3 => exact H08.lk_Residues___init__ _)
      (case q3 | k3 | n4 | i4 => show _ = _; k_is)
      (case l4 => exact H08.lk_Residues_told _)
      (case q4 | k4 | n5 | i5 => show _ = _; k_is)
      (case l5 => exact H08.lk_Fractions_told _)
      (case q5 | k5 | n6 | i6 => show _ = _; k_is)
      (case l6 => exact H08.lk_Costs_told _)
      (case q6 | k6 | n7 | i7 => show _ = _; k_is)
      (case l7 => exact H08.lk_Truths_told _)
      (case q7 | k7 | n8 => show _ = _; k_is)
      (case l8 => exact H08.lk_is_written _)
      (case q8 | k8 | n9 => show _ = _; k_is)
      (case l9 => exact H08.lk_residues_called _)
      (case q9 | k9 | n10 => show _ = _; k_is)
      (case l10 => exact H08.lk_kind_of _)
      (case q10 | k10 | n11 | i11 => show _ = _; k_is)
      (case l11 => exact H08.lk_Fractions_is_weight _)
      (case q11 | k11 | n12 | i12 => show _ = _; k_is)
      (case l12 => exact H08.lk_Residues_is_weight _)
      (case q12 | k12 | n13 | i13 => show _ = _; k_is)
      (case l13 => exact H08.lk_Costs_is_weight _)
      (case q13 | k13 | n14 | i14 => show _ = _; k_is)
      (case l14 => exact H08.lk_Truths_is_weight _)
      (case q14 | k14 | n15 => show _ = _; k_is)
      (case l15 => exact H08.lk__law_whole _)
      (case q15 | k15 | n16 => show _ = _; k_is)
      (case l16 => exact H08.lk__law_divisor _)
      (case q16 | k16 | n17 => show _ = _; k_is)
      (case l17 => exact H08.lk__law_number _)
      (case q17 | k17 | n18 => show _ = _; k_is)
      (case l18 => exact H08.lk__law_prime _)
      (case q18 | k18 | n19 => show _ = _; k_is)
      (case l19 => exact H08.lk__law_name _)
      (case q19 | k19 | n20 => show _ = _; k_is)
      (case l20 => exact H08.lk__law_way _)
      (case q20 | k20 | n21 => show _ = _; k_is)
      (case l21 => exact H08.lk__law_refused _)
      (case q21 | k21 | n22 => show _ = _; k_is)
      (case l22 => exact H08.lk__law_classes _)
      (case q22 | k22 | n23 => show _ = _; k_is)
      (case l23 => exact H08.lk__law_thing _)
      (case q23 | k23 | n24 => show _ = _; k_is)
      (case l24 => exact H08.lk__law_is_weight _)
      (case q24 | k24 | n25 => show _ = _; k_is)
      (case l25 => exact H08.lk_law _)
      (case q25 | k25 | z_isinstance | z_int | z_bool | z_abs | c_GREATEST_PRIME | z_str | z_len | c_MOST_FIGURES | z_all | c_FIGURES | z_tuple | z_ValueError | z_range => show _ = _; k_is)
      (case k_ii => kit_is)
      (case k_ib => kit_is)
      (case k_it => kit_is)
      (case k_is => kit_is)
      (case k_bi => kit_is)
      (case k_bb => kit_is)
      (case k_bt => kit_is)
      (case k_bs => kit_is)
      (case k_ni => kit_is)
      (case k_nb => kit_is)
      (case k_nt => kit_is)
      (case k_ns => kit_is)
      (case k_si => kit_is)
      (case k_sb => kit_is)
      (case k_st => kit_is)
      (case k_ss => kit_is)
      (case k_ti => kit_is)
      (case k_tb => kit_is)
      (case k_tt => kit_is)
      (case k_ts => kit_is)
      (case k_li => kit_is)
      (case k_lb => kit_is)
      (case k_lt => kit_is)
      (case k_ls => kit_is)
      (case k_di => kit_is)
      (case k_db => kit_is)
      (case k_dt => kit_is)
      (case k_ds => kit_is)
      (case nP => k_is)
      (case e_K => kernel_rfl)
      (case k_KT => kernel_rfl)
      (case k_KW => kernel_rfl)
      (case k_KG => kernel_rfl)
      (case k_KK => kernel_rfl)
      (case k_KV => kernel_rfl)
      (case i_F_Fr => kernel_rfl)
      (case i_F_Re => kernel_rfl)
      (case i_F_Co => kernel_rfl)
      (case i_F_Tr => kernel_rfl)
      (case i_F_Ki => kernel_rfl)
      (case i_F_Fi => kernel_rfl)
      (case i_F_Pi => kernel_rfl)
      (case hc_F => kernel_rfl)
      (case hm_F => kernel_rfl)
      (case i_R_Fr => kernel_rfl)
      (case i_R_Re => kernel_rfl)
      (case i_R_Co => kernel_rfl)
      (case i_R_Tr => kernel_rfl)
      (case i_R_Ki => kernel_rfl)
      (case i_R_Fi => kernel_rfl)
      (case i_R_Pi => kernel_rfl)
      (case hc_R => kernel_rfl)
      (case hm_R => kernel_rfl)
      (case i_C_Fr => kernel_rfl)
      (case i_C_Re => kernel_rfl)
      (case i_C_Co => kernel_rfl)
      (case i_C_Tr => kernel_rfl)
      (case i_C_Ki => kernel_rfl)
      (case i_C_Fi => kernel_rfl)
      (case i_C_Pi => kernel_rfl)
      (case hc_C => kernel_rfl)
      (case hm_C => kernel_rfl)
      (case i_T_Fr => kernel_rfl)
      (case i_T_Re => kernel_rfl)
      (case i_T_Co => kernel_rfl)
      (case i_T_Tr => kernel_rfl)
      (case i_T_Ki => kernel_rfl)
      (case i_T_Fi => kernel_rfl)
      (case i_T_Pi => kernel_rfl)
      (case hc_T => kernel_rfl)
      (case hm_T => kernel_rfl)
      (case hn => kernel_rfl)
      (case htk => kernel_rfl)
    obtain ⟨t, T⟩ := T
    have e0 := hmg.symm.trans T.m_law
    cases e0
    exact ⟨_, K08.law_binds T, fun base kb nb => K08.ok_law T⟩
  case S => exact fun K H a ns hl hO hS => ⟨a, ns, rfl, hS, hl, fun _ => rfl⟩
  case C => exact fun _ _ _ _ z => z
