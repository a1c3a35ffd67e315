import PyProof.Rows.All
import Wide.All
import OpenK.AllK
import Wide.FinOn
import Lean
import PyProof.EqAt
import PyProof.EqKinds
import PyProof.TupleCall
import KE.KIntText
import KE.KLam
import KE.KRevIter
import KE.KTryMore
import PyProof.AutoSeq1
import PyProof.ListRange
import PyProof.MeetsStr
import PyProof.NeKinds
import PyProof.Rows.InDataRows
import PyProof.Rows.StrNews2
import PyProof.StrCalls
import PyProof.StrLawsIn
import PySem.Challenge.RW_weighwalk_k34_fields_alone
set_option Elab.async false
set_option linter.all false
set_option maxRecDepth 100000
namespace L2
open PySem PySem.Spec PyProof.Rows

abbrev Key := Sum Int Str
def keyIs : Key → Value → Bool
  | .inl k, v => Value.isInt k v
  | .inr x, v => Value.isStrOf x v
def keyH (w : World) : Key → Int
  | .inl k => hashInt k
  | .inr x => hashStr w x
theorem keyIs_shape : ∀ {k : Key} {v : Value}, keyIs k v = true → (∃ i t, k = Sum.inl i ∧ v = Value.int i t) ∨ (∃ x t, k = Sum.inr x ∧ v = Value.str x t)
  | .inl i, v, h => by
    obtain ⟨t, e⟩ := Value.isInt_shape (k := i) (v := v) h
    exact .inl ⟨i, t, rfl, e⟩
  | .inr x, v, h => by
    obtain ⟨t, e⟩ := Value.isStrOf_shape (x := x) (v := v) h
    exact .inr ⟨x, t, rfl, e⟩
theorem key_ll (a b : Int) : decide ((Sum.inl a : Key) = Sum.inl b) = (a == b) := by
  by_cases e : a = b
  · subst e; simp
  · have h : ¬ (Sum.inl a : Key) = Sum.inl b := fun q => e (Sum.inl.inj q)
    rw [decide_eq_false h]
    exact (beq_eq_false_iff_ne.mpr e).symm
theorem key_rr (a b : Str) : decide ((Sum.inr a : Key) = Sum.inr b) = decide (a = b) := by
  by_cases e : a = b
  · subst e; simp
  · have h : ¬ (Sum.inr a : Key) = Sum.inr b := fun q => e (Sum.inr.inj q)
    rw [decide_eq_false h, decide_eq_false e]
theorem key_lr (a : Int) (b : Str) : decide ((Sum.inl a : Key) = Sum.inr b) = false := decide_eq_false (fun q => nomatch q)
theorem key_rl (a : Str) (b : Int) : decide ((Sum.inr a : Key) = Sum.inl b) = false := decide_eq_false (fun q => nomatch q)

def mixKind (prog : Program) (w : World) : PySem.KeyKind prog w Key where
  is := keyIs
  hash := keyH w
  inj := fun v a b ha hb => by
    rcases keyIs_shape ha with ⟨i, t, rfl, rfl⟩ | ⟨x, t, rfl, rfl⟩
    · rcases keyIs_shape hb with ⟨j, u, rfl, e⟩ | ⟨y, u, rfl, e⟩
      · injection e with e1 _; rw [e1]
      · exact nomatch e
    · rcases keyIs_shape hb with ⟨j, u, rfl, e⟩ | ⟨y, u, rfl, e⟩
      · exact nomatch e
      · injection e with e1 _; rw [e1]
  byValue := fun k v h => by
    rcases keyIs_shape h with ⟨i, t, rfl, rfl⟩ | ⟨x, t, rfl, rfl⟩ <;> rfl
  pyHash := fun hv h => by
    rcases keyIs_shape hv with ⟨i, t, rfl, rfl⟩ | ⟨x, t, rfl, rfl⟩
    · exact wpAny_pyHash_int h
    · exact wpAny_pyHash_str h
  eqBool := fun hu hv h => by
    rcases keyIs_shape hu with ⟨i, t, rfl, rfl⟩ | ⟨x, t, rfl, rfl⟩
    · rcases keyIs_shape hv with ⟨j, u, rfl, rfl⟩ | ⟨y, u, rfl, rfl⟩
      · rw [key_ll] at h; exact wpAny_eqBool_int h
      · rw [key_lr] at h; exact SeqAt.EqAt.int_str i t y u _ _ _ _ h
    · rcases keyIs_shape hv with ⟨j, u, rfl, rfl⟩ | ⟨y, u, rfl, rfl⟩
      · rw [key_rl] at h; exact SeqAt.EqAt.str_int x t j u _ _ _ _ h
      · rw [key_rr] at h; exact wpAny_eqBool_str h
  «strs» := fun k x t v h => by
    rcases keyIs_shape h with ⟨i, u, rfl, e⟩ | ⟨y, u, rfl, e⟩
    · exact nomatch e
    · injection e with e1 _
      subst e1
      cases v <;> rfl

end L2

namespace L2
open PySem PySem.Spec PyProof.Rows

inductive V where
  | non | bl (b : Bool) | int (i : Int) | str (x : Str) | byt (b : Array UInt8) | flt (b : UInt64) | ref (a : Addr) | ty (n : String)
  deriving DecidableEq

def RelV : V → Value → Prop
  | .non, u => u = Value.none
  | .bl b, u => u = Value.bool b
  | .int i, u => ∃ t, u = Value.int i t
  | .str x, u => ∃ t, u = Value.str x t
  | .byt b, u => ∃ t, u = Value.bytes b t
  | .flt b, u => ∃ t, u = Value.float b t
  | .ref a, u => u = Value.ref a
  | .ty n, u => u = Value.type n

abbrev Vals : List V → List Value → Prop := Paired RelV
theorem Vals.length {xs : List V} {us : List Value} (r : Vals xs us) : xs.length = us.length := Paired.length r
theorem Vals.get : ∀ {xs : List V} {us : List Value} {i : Nat} {x : V}, Vals xs us → xs[i]? = some x → ∃ u, us[i]? = some u ∧ RelV x u
  | _, _, _, _, .nil, e => by simp at e
  | _, _, 0, _, .cons r _, e => by simp at e; subst e; exact ⟨_, rfl, r⟩
  | _, _, i + 1, x, .cons _ t, e => by
    obtain ⟨u, h1, h2⟩ := Vals.get (i := i) (x := x) t (by simpa using e)
    exact ⟨u, by simpa using h1, h2⟩
theorem Vals.set {x : V} {u : Value} (r : RelV x u) : ∀ {xs : List V} {us : List Value} (i : Nat), Vals xs us → Vals (xs.set i x) (us.set i u)
  | _, _, _, .nil => .nil
  | _, _, 0, .cons _ t => .cons r t
  | _, _, i + 1, .cons q t => .cons q (Vals.set r i t)
theorem Vals.append : ∀ {xs ys : List V} {us ws : List Value}, Vals xs us → Vals ys ws → Vals (xs ++ ys) (us ++ ws)
  | _, _, _, _, .nil, s => s
  | _, _, _, _, .cons r t, s => .cons r (Vals.append t s)
theorem Vals.take : ∀ {xs : List V} {us : List Value} (n : Nat), Vals xs us → Vals (xs.take n) (us.take n)
  | _, _, 0, _ => .nil
  | _, _, _ + 1, .nil => .nil
  | _, _, n + 1, .cons r t => .cons r (Vals.take n t)
theorem Vals.drop : ∀ {xs : List V} {us : List Value} (n : Nat), Vals xs us → Vals (xs.drop n) (us.drop n)
  | _, _, 0, r => r
  | _, _, _ + 1, .nil => .nil
  | _, _, n + 1, .cons _ t => Vals.drop n t
theorem Vals.none_of : ∀ {xs : List V} {us : List Value} {i : Nat}, Vals xs us → xs[i]? = none → us[i]? = none := fun {xs us i} r e => by
  have h1 := r.length
  have h2 : xs.length ≤ i := List.getElem?_eq_none_iff.mp e
  exact List.getElem?_eq_none_iff.mpr (by omega)

def RelO : Option V → Option Value → Prop
  | some v, some u => RelV v u
  | none, none => True
  | _, _ => False
def KV {κ : Type} : List (κ × V) → List (κ × Value) → Prop := Paired fun (p : κ × V) (q : κ × Value) => p.1 = q.1 ∧ RelV p.2 q.2

def kV : Key → V
  | .inl i => .int i
  | .inr x => .str x

inductive HO where
  /-- a list -/
  | lst (xs : List V)
  /-- a tuple (never changes) -/
  | tup (xs : List V)
  /-- a dict whose keys are ints and texts; one whose keys are tuples of ints and texts (the empty one is both) -/
  | dK (kvs : List (Key × V)) | dT (kvs : List (List Key × V))
  /-- a set of ints: its members, its size -/
  | set (S : Int → Bool) (n : Nat)
  /-- an instance of the class at C, its dict at dx, its attributes -/
  | ins (C dx : Addr) (fs : List (Str × V))
  /-- the dict of the instance at x -/
  | own (x : Addr)
  /-- the dict of an exception -/
  | xd (fs : List (Str × V))
  /-- a bound method, f of x -/
  | met (f x : Addr)
  /-- a range object lo, lo + 1, .. below hi -/
  | rng (lo hi : Int)
  /-- a thing that is known to the object (the script; a dict while a loop walks it): read, never written while it is so -/
  | frz (o : Obj) (u : HO)
  /-- a code object's table -/
  | tbl (ps : Array Value)
  /-- any other thing, by what is true of its one object (a def of one's own: SetO a S n := HO.ext fun h => ..) -/
  | ext (φ : Heap → Prop)

abbrev Hp := Addr → Option HO
def upd (H : Hp) (a : Addr) (o : HO) : Hp := fun b => if b = a then some o else H b
theorem upd_same {H : Hp} {a : Addr} {o : HO} : upd H a o a = some o := by unfold upd; rw [if_pos rfl]
theorem upd_ne {H : Hp} {a b : Addr} {o : HO} (h : b ≠ a) : upd H a o b = H b := by unfold upd; rw [if_neg h]
theorem upd_upd {H : Hp} {a : Addr} {o u : HO} : upd (upd H a o) a u = upd H a u := by
  funext b; unfold upd; split <;> rfl
theorem ne_of {H : Hp} {a b : Addr} {o u : HO} (h : H a = some o) (h' : H b = some u) (d : o ≠ u) : a ≠ b := by
  intro e; subst e; rw [h] at h'; exact d (Option.some.inj h')
theorem ne_of_none {H : Hp} {a b : Addr} {o : HO} (h : H a = some o) (h' : H b = none) : a ≠ b := by
  intro e; subst e; rw [h] at h'; cases h'

section
variable (P : Program) (w : World)
def ObjOk (H : Hp) (h : Heap) (a : Addr) : HO → Prop
  | .lst xs => xs.length ≤ sizeLine ∧ ∃ (its : List Value) (n : Nat), Vals xs its ∧ h.get? a = some { cls := .type "list", data := .seq its.toArray n }
  | .tup xs => xs.length ≤ sizeLine ∧ ∃ its : List Value, Vals xs its ∧ IsTup h a its.toArray ∧ ((∀ i y, xs ≠ [.int i, y]) → ∃ o, h.get? a = some o ∧ o.dict = none)
  | .dK kvs => kvs.length ≤ sizeLine ∧ (a == sysModules) = false ∧ ∃ vs, KV kvs vs ∧ h.DictOf (mixKind P w) a vs
  | .dT kvs => kvs.length ≤ sizeLine ∧ (a == sysModules) = false ∧ ∃ xs : List (List Key × Addr × Value),
      Paired (fun (p : List Key × V) (q : List Key × Addr × Value) => p.1 = q.1 ∧ H q.2.1 = some (.tup (p.1.map kV)) ∧ RelV p.2 q.2.2) kvs xs ∧
      ∃ o es ep, h.get? a = some o ∧ o.ExactDict ∧ o.data = .dict es ep ∧ es.toList = xs.map (entryOfKey (tupleKind (mixKind P w))) ∧ (xs.map (·.1)).Nodup
  | .set S n => h.SetOf (intKind P w) a S n
  | .ins C dx fs => H dx = some (.own a) ∧ fs.length ≤ 1000 ∧ dx ≠ a ∧ h.get? a = some (PySem.W.instObj C dx) ∧
      ∃ mA, h.Ns1 dx mA ∧ (∀ f, RelO (fs.lookup f) (mA f)) ∧ PySem.Within mA (fs.map (·.1))
  | .own _ => ∃ o, h.get? a = some o
  | .xd fs => ∃ mA, h.Ns1 a mA ∧ ∀ f, RelO (fs.lookup f) (mA f)
  | .rng lo hi => ∃ t u v, h.get? a = some { cls := .type "range", data := .fields #[.int lo t, .int hi u, .int 1 v] }
  | .frz o u => h.get? a = some o ∧ ObjOk H h a u
  | .tbl ps => h.get? a = some { cls := .none, data := .fields ps }
  | .met f x => h.get? a = some (PySem.W.methodObj (.ref f) (.ref x))
  | .ext φ => φ h ∧ (∃ o, h.get? a = some o) ∧ ∀ h1 h2 : Heap, φ h1 → (∀ o, h1.get? a = some o → h2.get? a = some o) → φ h2
def HOk (H : Hp) (h : Heap) : Prop := ∀ a o, H a = some o → ObjOk P w H h a o
end

section
variable {P : Program} {w : World} {H H' : Hp} {h h' : Heap} {a : Addr} {o : HO}
theorem ObjOk.lt (x : ObjOk P w H h a o) : a < h.objs.size := by
  cases o with
  | lst xs => obtain ⟨_, _, _, _, e⟩ := x; exact Heap.lt_size e
  | tup xs => obtain ⟨_, _, _, p, _⟩ := x; exact p.lt
  | dK kvs => obtain ⟨_, _, _, _, o, _, _, e, _⟩ := x; exact Heap.lt_size e
  | dT kvs => obtain ⟨_, _, _, _, o, _, _, e, _⟩ := x; exact Heap.lt_size e
  | set S n => obtain ⟨o, _, _, _, e, _⟩ := x; exact Heap.lt_size e
  | ins C dx fs => obtain ⟨_, _, _, e, _⟩ := x; exact Heap.lt_size e
  | own y => obtain ⟨_, e⟩ := x; exact Heap.lt_size e
  | xd fs => obtain ⟨_, ⟨_, _, _, e, _⟩, _⟩ := x; exact Heap.lt_size e
  | rng lo hi => obtain ⟨_, _, _, e⟩ := x; exact Heap.lt_size e
  | frz ob u => obtain ⟨e, _⟩ := x; exact Heap.lt_size e
  | tbl ps => exact Heap.lt_size (show h.get? a = some _ from x)
  | met f y => exact Heap.lt_size (show h.get? a = some _ from x)
  | ext φ => obtain ⟨_, ⟨_, e⟩, _⟩ := x; exact Heap.lt_size e
theorem Paired.mapP {α β : Type} {F G : α → β → Prop} : ∀ {l₁ : List α} {l₂ : List β}, Paired F l₁ l₂ → (∀ a b, F a b → G a b) → Paired G l₁ l₂
  | _, _, .nil, _ => .nil
  | _, _, .cons r t, f => .cons (f _ _ r) (Paired.mapP t f)
theorem ObjOk.stay (x : ObjOk P w H h a o) (k : ∀ b u, (b = a ∨ H b = some (.own a)) → h.get? b = some u → h'.get? b = some u)
    (ho : ∀ b, H b = some (.own a) → H' b = some (.own a)) (ht : ∀ b xs, H b = some (.tup xs) → H' b = some (.tup xs)) : ObjOk P w H' h' a o := by
  induction o with
  | lst xs => obtain ⟨z, its, n, r, e⟩ := x; exact ⟨z, its, n, r, k _ _ (.inl rfl) e⟩
  | tup xs => obtain ⟨z, its, r, ⟨ob, e, c⟩, d⟩ := x; exact ⟨z, its, r, ⟨ob, k _ _ (.inl rfl) e, c⟩, fun nx => let ⟨o, e2, d2⟩ := d nx; ⟨o, k _ _ (.inl rfl) e2, d2⟩⟩
  | dK kvs => obtain ⟨z, y, vs, r, ob, es, ep, e, c⟩ := x; exact ⟨z, y, vs, r, ob, es, ep, k _ _ (.inl rfl) e, c⟩
  | dT kvs =>
    obtain ⟨z, y, xs, r, ob, es, ep, e, c⟩ := x
    exact ⟨z, y, xs, Paired.mapP r fun p q z => ⟨z.1, ht _ _ z.2.1, z.2.2⟩, ob, es, ep, k _ _ (.inl rfl) e, c⟩
  | set S n => obtain ⟨ob, es, ep, t, e, c⟩ := x; exact ⟨ob, es, ep, t, k _ _ (.inl rfl) e, c⟩
  | ins C dx fs =>
    obtain ⟨d, z, ne, e, mA, ⟨od, es, ep, e2, c⟩, r⟩ := x
    exact ⟨ho _ d, z, ne, k _ _ (.inl rfl) e, mA, ⟨od, es, ep, k _ _ (.inr d) e2, c⟩, r⟩
  | own y => obtain ⟨ob, e⟩ := x; exact ⟨ob, k _ _ (.inl rfl) e⟩
  | xd fs => obtain ⟨mA, ⟨od, es, ep, e, c⟩, r⟩ := x; exact ⟨mA, ⟨od, es, ep, k _ _ (.inl rfl) e, c⟩, r⟩
  | rng lo hi => obtain ⟨t, u, v, e⟩ := x; exact ⟨t, u, v, k _ _ (.inl rfl) e⟩
  | frz ob u ih => obtain ⟨e, q⟩ := x; exact ⟨k _ _ (.inl rfl) e, ih q⟩
  | tbl ps =>
    have e : h.get? a = some { cls := .none, data := .fields ps } := x
    show h'.get? a = some { cls := .none, data := .fields ps }
    exact k a _ (.inl rfl) e
  | met f y =>
    have e : h.get? a = some (PySem.W.methodObj (.ref f) (.ref y)) := x
    show h'.get? a = some (PySem.W.methodObj (.ref f) (.ref y))
    exact k a _ (.inl rfl) e
  | ext φ => obtain ⟨p, ⟨o, e⟩, st⟩ := x; exact ⟨st _ _ p fun o q => k _ _ (.inl rfl) q, ⟨o, k _ _ (.inl rfl) e⟩, st⟩
theorem HOk.lt (x : HOk P w H h) (e : H a = some o) : a < h.objs.size := (x a o e).lt
theorem HOk.fresh (x : HOk P w H h) (e : h.objs.size ≤ a) : H a = none := by
  cases q : H a with
  | none => rfl
  | some u => exact absurd (Nat.lt_of_lt_of_le (x.lt q) e) (Nat.lt_irrefl _)
theorem HOk.kept (x : HOk P w H h) (k : ∀ b u, h.get? b = some u → h'.get? b = some u) : HOk P w H h' := fun a o e =>
  (x a o e).stay (fun b u _ q => k b u q) (fun _ q => q) fun _ _ q => q
theorem HOk.laid (x : HOk P w H h) (k : ∀ b u, h.get? b = some u → h'.get? b = some u) (hp : h.objs.size ≤ a) (new : ObjOk P w (upd H a o) h' a o) : HOk P w (upd H a o) h' := fun b u e => by
  have hn := x.fresh hp
  by_cases hb : b = a
  · subst hb; rw [upd_same] at e; cases e; exact new
  · rw [upd_ne hb] at e
    exact (x b u e).stay (fun c v _ q => k c v q) (fun c q => by rw [upd_ne (ne_of_none q hn)]; exact q) fun c xs q => by rw [upd_ne (ne_of_none q hn)]; exact q
end

def Rd (H : Hp) (a : Addr) (u : HO) : Prop := H a = some u ∨ ∃ o, H a = some (.frz o u)
theorem Rd.of {H : Hp} {a : Addr} {u : HO} (h : H a = some u) : Rd H a u := .inl h
theorem Rd.ok {P : Program} {w : World} {H : Hp} {h : Heap} {a : Addr} {u : HO} (r : Rd H a u) (x : HOk P w H h) : ObjOk P w H h a u := by
  rcases r with r | ⟨o, r⟩
  · exact x a u r
  · obtain ⟨_, q⟩ := x a _ r
    exact q
def Mut : Option HO → Prop
  | some (.lst _) => True
  | some (.dK _) => True
  | some (.dT _) => True
  | some (.set _ _) => True
  | some (.ins _ _ _) => True
  | some (.ext _) => True
  | _ => False
section
variable {P : Program} {w : World} {H : Hp} {h h' : Heap} {x e : Addr} {o' : HO}
theorem HOk.write (ok : HOk P w H h) (mu : Mut (H x)) (he : e = x ∨ H e = some (.own x)) (k : ∀ b u, b ≠ e → h.get? b = some u → h'.get? b = some u) (heo : ∃ u, h'.get? e = some u)
    (new : ObjOk P w (upd H x o') h' x o') : HOk P w (upd H x o') h' := fun b u q => by
  have nown : ∀ c y, H c = some (.own y) → c ≠ x := fun c y r z => by subst z; rw [r] at mu; exact mu
  have ntup : ∀ c xs, H c = some (.tup xs) → c ≠ x := fun c xs r z => by subst z; rw [r] at mu; exact mu
  by_cases hb : b = x
  · subst hb; rw [upd_same] at q; cases q; exact new
  · rw [upd_ne hb] at q
    by_cases hbe : b = e
    · have q' : H b = some (.own x) := by
        rcases he with z | z
        · exact absurd (hbe.trans z) hb
        · rw [hbe]; exact z
      rw [q] at q'; cases q'
      obtain ⟨v, hv⟩ := heo
      exact ⟨v, by rw [hbe]; exact hv⟩
    · refine (ok b u q).stay (fun c v hc r => k c v ?_ r) (fun c r => by rw [upd_ne (nown c b r)]; exact r) fun c xs r => by rw [upd_ne (ntup c xs r)]; exact r
      rcases hc with rfl | hc
      · exact hbe
      · rintro rfl
        rcases he with z | z
        · exact nown c b hc z
        · rw [hc] at z; cases z; exact hb rfl
end

structure Un (fs ex : List Addr) (H H' : Hp) (h h' : Heap) : Prop where
  keep : ∀ b o, h.get? b = some o → H b = none → b ∉ fs → b ∉ ex → h'.get? b = some o
  slot : ∀ b o, h.get? b = some o → H b = none → b ∈ fs → b ∉ ex → ∃ sl, h'.get? b = some { o with slots := sl }
  free : ∀ b o, h.get? b = some o → H b = none → b ∉ ex → H' b = none
  there : ∀ b o, h.get? b = some o → b ∉ ex → ∃ o', h'.get? b = some o'
  tups : ∀ b xs, H b = some (.tup xs) → H' b = some (.tup xs)
  frzs : ∀ b o u, H b = some (.frz o u) → H' b = some (.frz o u)
  tbls : ∀ b ps, H b = some (.tbl ps) → ∃ more, H' b = some (.tbl (ps ++ more))
section
variable {fs fs' ex ex' : List Addr} {H H1 H2 : Hp} {h h1 h2 h' : Heap} {a x e : Addr} {o : HO}
theorem Un.any (u : Un fs ex H H1 h h1) {b : Addr} {ob : Obj} (q : h.get? b = some ob) (n : H b = none) (hx : b ∉ ex) : ∃ sl, h1.get? b = some { ob with slots := sl } := by
  by_cases hb : b ∈ fs
  · exact u.slot b ob q n hb hx
  · exact ⟨ob.slots, u.keep b ob q n hb hx⟩
theorem Un.trans (a : Un fs ex H H1 h h1) (b : Un fs ex H1 H2 h1 h2) : Un fs ex H H2 h h2 where
  keep := fun c ob q n hc hx => b.keep c ob (a.keep c ob q n hc hx) (a.free c ob q n hx) hc hx
  slot := fun c ob q n hc hx => by
    obtain ⟨sl, e1⟩ := a.slot c ob q n hc hx
    obtain ⟨sl', e2⟩ := b.slot c _ e1 (a.free c ob q n hx) hc hx
    exact ⟨sl', e2⟩
  free := fun c ob q n hx => by
    obtain ⟨o', e1⟩ := a.there c ob q hx
    exact b.free c o' e1 (a.free c ob q n hx) hx
  there := fun c ob q hx => by
    obtain ⟨o', e1⟩ := a.there c ob q hx
    exact b.there c o' e1 hx
  tups := fun c xs q => b.tups c xs (a.tups c xs q)
  frzs := fun c ob xs q => b.frzs c ob xs (a.frzs c ob xs q)
  tbls := fun c ps q => by
    obtain ⟨m1, e1⟩ := a.tbls c ps q
    obtain ⟨m2, e2⟩ := b.tbls c _ e1
    exact ⟨m1 ++ m2, by rw [e2, Array.append_assoc]⟩
theorem Un.kept (k : ∀ b u, h.get? b = some u → h'.get? b = some u) : Un fs ex H H h h' :=
  ⟨fun b ob q _ _ _ => k b ob q, fun b ob q _ _ _ => ⟨ob.slots, k b ob q⟩, fun _ _ _ n _ => n, fun b ob q _ => ⟨ob, k b ob q⟩, fun _ _ q => q, fun _ _ _ q => q, fun _ ps q => ⟨#[], by rw [q]; simp⟩⟩
theorem Un.refl : Un fs ex H H h h := Un.kept fun _ _ q => q
theorem Un.laid (k : ∀ b u, h.get? b = some u → h'.get? b = some u) (hp : h.objs.size ≤ a) (hn : H a = none) : Un fs ex H (upd H a o) h h' where
  keep := fun b u q _ _ _ => k b u q
  slot := fun b u q _ _ _ => ⟨u.slots, k b u q⟩
  free := fun b u q n _ => by rw [upd_ne (Nat.ne_of_lt (Nat.lt_of_lt_of_le (Heap.lt_size q) hp))]; exact n
  there := fun b u q _ => ⟨u, k b u q⟩
  tups := fun b xs q => by rw [upd_ne (ne_of_none q hn)]; exact q
  frzs := fun b u xs q => by rw [upd_ne (ne_of_none q hn)]; exact q
  tbls := fun b ps q => ⟨#[], by rw [upd_ne (ne_of_none q hn), q]; simp⟩
theorem Un.write (mu : Mut (H x)) (he : e = x ∨ H e = some (.own x)) (k : ∀ b u, b ≠ e → h.get? b = some u → h'.get? b = some u) (heo : ∃ u, h'.get? e = some u) : Un fs ex H (upd H x o) h h' := by
  have hx : ∀ b, H b = none → b ≠ x := fun b n z => by subst z; rw [n] at mu; exact mu
  have hb : ∀ b, H b = none → b ≠ e := fun b n z => by
    subst z
    rcases he with r | r
    · exact hx b n r
    · rw [n] at r; cases r
  have hm : ∀ b u, H b = some u → ¬ Mut (some u) → b ≠ x := fun b u q nm z => by subst z; rw [q] at mu; exact nm mu
  refine ⟨fun b u q n _ _ => k b u (hb b n) q, fun b u q n _ _ => ⟨u.slots, k b u (hb b n) q⟩, fun b u q n _ => by rw [upd_ne (hx b n)]; exact n, fun b u q _ => ?_,
    fun b xs q => by rw [upd_ne (hm b _ q fun z => z)]; exact q, fun b u xs q => by rw [upd_ne (hm b _ q fun z => z)]; exact q, fun b ps q => ⟨#[], by rw [upd_ne (hm b _ q fun z => z), q]; simp⟩⟩
  by_cases hbe : b = e
  · subst hbe; exact heo
  · exact ⟨u, k b u hbe q⟩
theorem Un.mono (u : Un fs ex H H1 h h1) (hs : ∀ b ∈ fs, b ∈ fs') (hx : ∀ b ∈ ex, b ∈ ex') : Un fs' ex' H H1 h h1 :=
  ⟨fun b ob q n hb he => u.keep b ob q n (fun z => hb (hs b z)) fun z => he (hx b z), fun _ _ q n _ he => u.any q n fun z => he (hx _ z), fun b ob q n he => u.free b ob q n fun z => he (hx b z), fun b ob q he => u.there b ob q fun z => he (hx b z), u.tups, u.frzs, u.tbls⟩
end

def trk (h : Heap) (H : Hp) : List Addr := (List.range h.objs.size).filter fun a => (H a).isSome
def hidT (h : Heap) (H : Hp) : Heap := PySem.W.hideAll h (trk h H)
theorem hidT_size (h : Heap) (H : Hp) : (hidT h H).objs.size = h.objs.size := PySem.W.hideAll_size _ _
theorem hidT_get {h : Heap} {H : Hp} {b : Addr} {o : Obj} (e : h.get? b = some o) (n : H b = none) : (hidT h H).get? b = some o :=
  PySem.W.hideAll_get _ e fun hm => by
    have q : (H b).isSome = true := (List.mem_filter.mp hm).2
    rw [n] at q; simp at q
theorem of_hidT {h : Heap} {H : Hp} {b : Addr} {o : Obj} (e : (hidT h H).get? b = some o) : h.get? b = some o ∧ H b = none := by
  have e' : h.get? b = some o := PySem.W.of_hideAll (trk h H) e
  refine ⟨e', ?_⟩
  cases q : H b with
  | none => rfl
  | some x =>
    have hm : b ∈ trk h H := List.mem_filter.mpr ⟨List.mem_range.mpr (Heap.lt_size e'), by simp [q]⟩
    have z : (hidT h H).get? b = none := PySem.W.hideAll_none (trk h H) hm
    rw [z] at e; cases e

def allNews (g h : Heap) (L : Addr) : List (Addr × Obj) := (List.range h.objs.size).filterMap fun a => if a = L ∨ (g.get? a).isSome = true then none else (h.get? a).map fun o => (a, o)
def rest (g h : Heap) (L d : Addr) : List (Addr × Obj) := (allNews g h L).filter fun p => decide (p.1 ≠ d)
end L2

namespace L2
open PySem PySem.Spec PyProof.Rows

structure Mod (K : PySem.W.Frag) (mg : Str → Option Value) (base : Heap) : Prop where
  kin : K.In base
  glob : base.Ns mainGlobals mg
  blt : ∃ mb, base.Ns builtinsNs mb ∧ ∀ x : Str, x ≠ "__name__" → mb x = bootBuiltins x
  nolimit : base.NoLimit
  seer : base.NoSeer

structure Cx where
  prog : Program
  w : World
  K : PySem.W.Frag
  mg : Str → Option Value
  base : Heap
  A : Around
  N : List Str
  s₀ : Shared
  H₀ : Hp
  env : Env
  outer : List Env
  stack : List Env
  ex : List Addr
  fn : Str → Bool
  calm : Bool
  pn : List (Addr × Obj)
  xe : Value → Shared → Prop
def frs (l : List Env) : List Addr := l.filterMap (·.frame)
abbrev Cx.fs (X : Cx) : List Addr := frs X.outer

def Vis (sc : Scope) (x : Str) : Prop := sc.names.lookup x = some .local ∨ sc.names.lookup x = some .cell ∨ sc.names.lookup x = some .free
def Loc (sc : Scope) (x : Str) : Prop := sc.names.lookup x = some .local ∨ sc.names.lookup x = some .cell
def Look (env : Env) (h : Heap) (m : Str → Option Value) (x : Str) (u : Value) : Prop :=
  (env.kindOf x = some .local ∧ m x = some u) ∨ ((env.kindOf x = some .cell ∨ env.kindOf x = some .free) ∧ ∃ c, env.cells.lookup x = some c ∧ h.IsCell c (some u))

structure Cx.Ok (X : Cx) : Prop where
  mod : Mod X.K X.mg X.base
  kind : X.env.scope.kind = .function
  glob : X.env.globals = mainGlobals
  blt : X.env.builtins = builtinsNs
  above : X.s₀.heap.objs.size ≤ X.env.locals
  inj : ∀ x y c, X.env.cells.lookup x = some c → X.env.cells.lookup y = some c → x = y
  has : ∀ x, (X.env.kindOf x = some .cell ∨ X.env.kindOf x = some .free) → ∃ c, X.env.cells.lookup x = some c
  cab : ∀ x c, X.fn x = true → X.env.cells.lookup x = some c → X.s₀.heap.objs.size ≤ c
  hd : X.calm = true → X.A.handled = none
  frames : X.A.frames = some X.stack
  stk : X.stack = X.outer ∨ (X.stack = X.env :: X.outer ∧ X.env.frame = some X.env.locals)
  exf : ∀ b ∈ X.ex, b ≠ X.env.locals ∧ ∀ x c, X.env.cells.lookup x = some c → c ≠ b
  bs : ∀ b o, X.base.get? b = some o → X.s₀.heap.get? b = some o ∧ X.H₀ b = none
  bsz : X.base.objs.size ≤ X.s₀.heap.objs.size
  noex : ∀ b o, X.base.get? b = some o → b ∉ X.ex
  exfs : ∀ b ∈ X.ex, b ∉ X.fs
  funs : X.s₀.heap.FunFrames X.base X.outer
  frf : ∀ b ∈ X.fs, X.H₀ b = none

structure Inv (X : Cx) (pins : List (Addr × Obj)) (σ : List (Option V)) (H : Hp) (s : Shared) : Prop where
  ok : X.Ok
  os : s.os = X.s₀.os
  bare : AllBare s.gens
  base : Un X.fs X.ex X.H₀ H X.s₀.heap s.heap
  loc : ∃ m, s.heap.Ns X.env.locals m ∧ ∀ (i : Nat) (x : Str) (v : V), X.N[i]? = some x → σ[i]? = some (some v) → Vis X.env.scope x → ∃ u, RelV v u ∧ Look X.env s.heap m x u
  cell : ∀ x c, X.env.cells.lookup x = some c → ∃ v, s.heap.IsCell c v
  free : H X.env.locals = none
  freeC : ∀ x c, X.env.cells.lookup x = some c → H c = none
  pin : ∀ p ∈ X.pn ++ pins, s.heap.get? p.1 = some p.2 ∧ H p.1 = none ∧ p.1 ≠ X.env.locals ∧ p.1 ∉ X.fs ∧ ∀ v, p.2.data ≠ .cell v
  hok : HOk X.prog X.w H s.heap
  len : σ.length = X.N.length

section
variable {X : Cx} {pins : List (Addr × Obj)} {σ : List (Option V)} {H H' : Hp} {s : Shared} {h' : Heap}

theorem Cx.Ok.nofr (ok : X.Ok) {b : Addr} {o : Obj} (e : X.base.get? b = some o) : b ∉ X.fs := fun hb => by
  have := (ok.funs.mem hb).1
  rw [e] at this; cases this
theorem Inv.bs (I : Inv X pins σ H s) : ∀ b o, X.base.get? b = some o → s.heap.get? b = some o ∧ H b = none := fun b o e =>
  ⟨I.base.keep b o (I.ok.bs b o e).1 (I.ok.bs b o e).2 (I.ok.nofr e) (I.ok.noex b o e), I.base.free b o (I.ok.bs b o e).1 (I.ok.bs b o e).2 (I.ok.noex b o e)⟩
theorem Inv.bk (I : Inv X pins σ H s) : ∀ b o, X.base.get? b = some o → s.heap.get? b = some o := fun b o e => (I.bs b o e).1
theorem Inv.mod (I : Inv X pins σ H s) : Mod X.K X.mg X.base := I.ok.mod
theorem Inv.kIn (I : Inv X pins σ H s) : X.K.In s.heap := I.ok.mod.kin.keeps I.bk
theorem Inv.nolimit (I : Inv X pins σ H s) : s.heap.NoLimit := I.ok.mod.nolimit.keeps I.bk
theorem Inv.fr (I : Inv X pins σ H s) : ∃ m, Fr X.base X.env.locals s.heap m :=
  let ⟨m, hn, _⟩ := I.loc
  ⟨m, hn, I.bk, Nat.le_trans I.ok.bsz I.ok.above⟩
theorem Inv.lt (I : Inv X pins σ H s) : X.env.locals < s.heap.objs.size := let ⟨_, hn, _⟩ := I.loc; hn.lt
theorem Inv.sz (I : Inv X pins σ H s) : X.s₀.heap.objs.size ≤ s.heap.objs.size := Nat.le_trans I.ok.above (Nat.le_of_lt I.lt)
theorem Inv.nofs (I : Inv X pins σ H s) {a : Addr} (h : s.heap.objs.size ≤ a) : a ∉ X.fs := fun hb => by
  obtain ⟨_, o, ho, _⟩ := I.ok.funs.mem hb
  exact absurd (Nat.lt_of_lt_of_le (Heap.lt_size ho) (Nat.le_trans I.sz h)) (Nat.lt_irrefl _)
theorem Inv.cne (I : Inv X pins σ H s) : ∀ x c, X.env.cells.lookup x = some c → c ≠ X.env.locals := fun x c e z => by
  obtain ⟨v, o, ho, hd⟩ := I.cell x c e
  obtain ⟨m, ⟨o', es, ep, ho', hd', _⟩, _⟩ := I.loc
  rw [z, ho'] at ho; cases ho; rw [hd'] at hd; cases hd
theorem Inv.funs (I : Inv X pins σ H s) : s.heap.FunFrames X.base X.outer := by
  have all : ∀ (l : List Env), (∀ b ∈ frs l, b ∈ X.fs) → X.s₀.heap.FunFrames X.base l → s.heap.FunFrames X.base l := by
    intro l
    induction l with
    | nil => intro _ _; trivial
    | cons env r ih =>
      intro hs hl
      obtain ⟨hk, ⟨L, o, hf, hn, ho, hd⟩, hr⟩ := hl
      have hL : L ∈ X.fs := hs L (by unfold frs; rw [List.filterMap_cons, hf]; exact List.mem_cons_self)
      obtain ⟨sl, e⟩ := I.base.slot L o ho (I.ok.frf L hL) hL fun z => I.ok.exfs L z hL
      exact ⟨hk, ⟨L, _, hf, hn, e, hd⟩, ih (fun b hb => hs b (by unfold frs; rw [List.filterMap_cons, hf]; exact List.mem_cons_of_mem _ hb)) hr⟩
  exact all X.outer (fun _ hb => hb) I.ok.funs

theorem Inv.stack (I : Inv X pins σ H s) : s.heap.FunFrames X.base X.stack := by
  rcases I.ok.stk with e | ⟨e, hf⟩
  · rw [e]; exact I.funs
  · rw [e]
    obtain ⟨m, hn, _⟩ := I.loc
    refine .cons (by rw [I.ok.kind]; decide) hf hn ?_ I.funs
    exact Heap.get?_none_of_le (Nat.le_trans I.ok.bsz I.ok.above)
theorem Inv.stkSub (I : Inv X pins σ H s) : ∀ b ∈ frs X.stack, b ∈ X.env.locals :: X.fs := fun b hb => by
  rcases I.ok.stk with e | ⟨e, hf⟩
  · rw [e] at hb; exact List.mem_cons_of_mem _ hb
  · rw [e] at hb
    unfold frs at hb
    rw [List.filterMap_cons, hf] at hb
    exact hb
theorem Inv.stkFree (I : Inv X pins σ H s) : ∀ b ∈ frs X.stack, H b = none := fun b hb => by
  rcases List.mem_cons.mp (I.stkSub b hb) with e | hb
  · rw [e]; exact I.free
  · obtain ⟨_, o, ho, _⟩ := I.ok.funs.mem hb
    exact I.base.free b o ho (I.ok.frf b hb) fun z => I.ok.exfs b z hb

theorem Inv.step {g' : Array GenState} {t' : Nat} {d' : Drawn} {ch : List Addr} (I : Inv X pins σ H s)
    (hch : ∀ b ∈ ch, (b ∈ X.ex ∨ X.s₀.heap.objs.size ≤ b) ∧ b ≠ X.env.locals ∧ (∀ x c, X.env.cells.lookup x = some c → c ≠ b) ∧ ∀ p ∈ X.pn ++ pins, p.1 ≠ b)
    (keep : ∀ b o, b ≠ X.env.locals → b ∉ X.fs → b ∉ ch → s.heap.get? b = some o → H b = none → h'.get? b = some o)
    (slot : ∀ b o, b ≠ X.env.locals → b ∈ X.fs → b ∉ ch → s.heap.get? b = some o → H b = none → ∃ sl, h'.get? b = some { o with slots := sl }) (free : ∀ b o, b ∉ ch → s.heap.get? b = some o → H b = none → H' b = none)
    (there : ∀ b o, b ∉ ch → s.heap.get? b = some o → ∃ o', h'.get? b = some o')
    (tups : ∀ b xs, H b = some (.tup xs) → H' b = some (.tup xs)) (frzs : ∀ b o u, H b = some (.frz o u) → H' b = some (.frz o u)) (tbls : ∀ b ps, H b = some (.tbl ps) → ∃ more, H' b = some (.tbl (ps ++ more)))
    (ns : ∀ m, s.heap.Ns X.env.locals m → h'.Ns X.env.locals m) (hok : HOk X.prog X.w H' h') (hg : AllBare g') :
    Inv X pins σ H' { s with heap := h', gens := g', drawn := d', toks := t' } := by
  have neL : ∀ b o, X.s₀.heap.get? b = some o → b ≠ X.env.locals := fun b o e => Nat.ne_of_lt (Nat.lt_of_lt_of_le (Heap.lt_size e) I.ok.above)
  have neC : ∀ b o, X.s₀.heap.get? b = some o → b ∉ X.ex → b ∉ ch := fun b o e hx hb => by
    rcases (hch b hb).1 with z | z
    · exact hx z
    · exact absurd (Nat.lt_of_lt_of_le (Heap.lt_size e) z) (Nat.lt_irrefl _)
  have cellK : ∀ x c, X.env.cells.lookup x = some c → ∀ v, s.heap.IsCell c v → h'.IsCell c v := fun x c e v ⟨o, ho, hd⟩ => by
    have nch : c ∉ ch := fun z => (hch c z).2.2.1 x c e rfl
    by_cases hc : c ∈ X.fs
    · obtain ⟨sl, q⟩ := slot c o (I.cne x c e) hc nch ho (I.freeC x c e)
      exact ⟨_, q, hd⟩
    · exact ⟨o, keep c o (I.cne x c e) hc nch ho (I.freeC x c e), hd⟩
  refine ⟨I.ok, I.os, hg, ⟨fun b o e n hb hx => ?_, fun b o e n hb hx => ?_, fun b o e n hx => ?_, fun b o e hx => ?_, fun b xs e => tups b xs (I.base.tups b xs e), fun b o xs e => frzs b o xs (I.base.frzs b o xs e), fun b ps e => ?_⟩, ?_, fun x c e => ?_, ?_, fun x c e => ?_, fun p hp => ?_, hok, I.len⟩
  · exact keep b o (neL b o e) hb (neC b o e hx) (I.base.keep b o e n hb hx) (I.base.free b o e n hx)
  · obtain ⟨sl, e1⟩ := I.base.slot b o e n hb hx
    obtain ⟨sl', e2⟩ := slot b _ (neL b o e) hb (neC b o e hx) e1 (I.base.free b o e n hx)
    exact ⟨sl', e2⟩
  · obtain ⟨o', e1⟩ := I.base.there b o e hx
    exact free b o' (neC b o e hx) e1 (I.base.free b o e n hx)
  · obtain ⟨o', e1⟩ := I.base.there b o e hx
    exact there b o' (neC b o e hx) e1
  · obtain ⟨m1, e1⟩ := I.base.tbls b ps e
    obtain ⟨m2, e2⟩ := tbls b _ e1
    exact ⟨m1 ++ m2, by rw [e2, Array.append_assoc]⟩
  · obtain ⟨m, hn, hl⟩ := I.loc
    refine ⟨m, ns m hn, fun i x v e1 e2 e3 => ?_⟩
    obtain ⟨u, r, l⟩ := hl i x v e1 e2 e3
    refine ⟨u, r, ?_⟩
    rcases l with l | ⟨k, c, e, z⟩
    · exact .inl l
    · exact .inr ⟨k, c, e, cellK x c e _ z⟩
  · obtain ⟨v, z⟩ := I.cell x c e
    exact ⟨v, cellK x c e v z⟩
  · obtain ⟨m, ⟨o, _, _, ho, _⟩, _⟩ := I.loc
    exact free _ o (fun z => (hch _ z).2.1 rfl) ho I.free
  · obtain ⟨v, o, ho, hd⟩ := I.cell x c e
    exact free c o (fun z => (hch c z).2.2.1 x c e rfl) ho (I.freeC x c e)
  · obtain ⟨e, n, ne, nf, d⟩ := I.pin p hp
    have nch : p.1 ∉ ch := fun z => (hch p.1 z).2.2.2 p hp rfl
    exact ⟨keep p.1 p.2 ne nf nch e n, free p.1 p.2 nch e n, ne, nf, d⟩
theorem Inv.un {t' : Nat} (I : Inv X pins σ H s) (u : Un X.fs [] H H' s.heap h') (hok : HOk X.prog X.w H' h') : Inv X pins σ H' { s with heap := h', toks := t' } := by
  obtain ⟨m, ⟨o, es, ep, ho, r⟩, _⟩ := id I.loc
  obtain ⟨sl, hL⟩ := u.any ho I.free (by simp)
  exact I.step (g' := s.gens) (d' := s.drawn) (ch := []) (fun _ z => nomatch z) (fun b o _ hb _ e n => u.keep b o e n hb (by simp)) (fun b o _ hb _ e n => u.slot b o e n hb (by simp)) (fun b o _ e n => u.free b o e n (by simp)) (fun b o _ e => u.there b o e (by simp)) u.tups u.frzs u.tbls (fun m' hm => by
    obtain ⟨o', es', ep', ho', r'⟩ := hm
    rw [ho] at ho'; cases ho'
    exact ⟨_, es', ep', hL, r'⟩) hok I.bare
theorem Inv.call {g' : Array GenState} {t' : Nat} {d' : Drawn} {ch : List Addr} (I : Inv X pins σ H s) (u : Un (frs X.stack) ch H H' s.heap h') (hok : HOk X.prog X.w H' h') (hg : AllBare g')
    (hch : ∀ b ∈ ch, (b ∈ X.ex ∨ X.s₀.heap.objs.size ≤ b) ∧ b ≠ X.env.locals ∧ (∀ x c, X.env.cells.lookup x = some c → c ≠ b) ∧ ∀ p ∈ X.pn ++ pins, p.1 ≠ b) :
    Inv X pins σ H' { s with heap := h', gens := g', drawn := d', toks := t' } := by
  obtain ⟨m, ⟨o, es, ep, ho, r⟩, _⟩ := id I.loc
  obtain ⟨sl, hL⟩ := u.any ho I.free fun z => (hch _ z).2.1 rfl
  exact I.step (ch := ch) hch (fun b o hL hb hc e n => u.keep b o e n (fun z => (List.mem_cons.mp (I.stkSub b z)).elim hL hb) hc) (fun b o _ _ hc e n => u.any e n hc) (fun b o hc e n => u.free b o e n hc) (fun b o hc e => u.there b o e hc) u.tups u.frzs u.tbls (fun m' hm => by
    obtain ⟨o', es', ep', ho', r'⟩ := hm
    rw [ho] at ho'; cases ho'
    exact ⟨_, es', ep', hL, r'⟩) hok hg
theorem Inv.turned {t' : Nat} {it : Addr} (I : Inv X pins σ H s) (k : ∀ b o, b ≠ it → s.heap.get? b = some o → h'.get? b = some o) (hn : H it = none) (hL : it ≠ X.env.locals)
    (h1 : it ∈ X.ex ∨ X.s₀.heap.objs.size ≤ it) (h2 : ∀ x c, X.env.cells.lookup x = some c → c ≠ it) (h3 : ∀ p ∈ X.pn ++ pins, p.1 ≠ it) : Inv X pins σ H { s with heap := h', toks := t' } := by
  have nit : ∀ b u, H b = some u → b ≠ it := fun b u e z => by rw [z, hn] at e; cases e
  refine I.step (g' := s.gens) (d' := s.drawn) (ch := [it]) (fun b hb => ?_) (fun b o _ _ hc e _ => k b o (fun z => hc (by simp [z])) e) (fun b o _ _ hc e _ => ⟨o.slots, k b o (fun z => hc (by simp [z])) e⟩) (fun _ _ _ _ n => n)
    (fun b o hc e => ⟨o, k b o (fun z => hc (by simp [z])) e⟩) (fun _ _ e => e) (fun _ _ _ e => e) (fun b ps e => ⟨#[], by rw [e]; simp⟩) (fun m hm => ?_) (fun b u e => ?_) I.bare
  · have e : b = it := by simpa using hb
    subst e
    exact ⟨h1, hL, h2, h3⟩
  · obtain ⟨o, es, ep, ho, r⟩ := hm
    exact ⟨o, es, ep, k _ o (Ne.symm hL) ho, r⟩
  · refine (I.hok b u e).stay (fun c v hc q => k c v ?_ q) (fun _ q => q) fun _ _ q => q
    rcases hc with z | z
    · rw [z]; exact nit b u e
    · exact nit c _ z
theorem Inv.tok (I : Inv X pins σ H s) (t : Nat) : Inv X pins σ H { s with toks := t } := I.un (h' := s.heap) (t' := t) Un.refl I.hok
theorem Inv.kept {t' : Nat} (I : Inv X pins σ H s) (k : ∀ b u, s.heap.get? b = some u → h'.get? b = some u) : Inv X pins σ H { s with heap := h', toks := t' } := I.un (Un.kept k) (I.hok.kept k)
theorem Inv.laid {a : Addr} {o : HO} {t' : Nat} (I : Inv X pins σ H s) (k : ∀ b u, s.heap.get? b = some u → h'.get? b = some u) (hp : s.heap.objs.size ≤ a) (new : ObjOk X.prog X.w (upd H a o) h' a o) :
    Inv X pins σ (upd H a o) { s with heap := h', toks := t' } := I.un (Un.laid k hp (I.hok.fresh hp)) (I.hok.laid k hp new)
theorem Inv.write {x e : Addr} {o : HO} {t' : Nat} (I : Inv X pins σ H s) (mu : Mut (H x)) (he : e = x ∨ H e = some (.own x)) (k : ∀ b u, b ≠ e → s.heap.get? b = some u → h'.get? b = some u) (heo : ∃ u, h'.get? e = some u)
    (new : ObjOk X.prog X.w (upd H x o) h' x o) : Inv X pins σ (upd H x o) { s with heap := h', toks := t' } := I.un (Un.write mu he k heo) (I.hok.write mu he k heo new)
theorem Inv.weak {σ' : List (Option V)} (I : Inv X pins σ H s) (hl : σ'.length = σ.length) (w : ∀ (i : Nat) v, σ'[i]? = some (some v) → σ[i]? = some (some v)) : Inv X pins σ' H s :=
  ⟨I.ok, I.os, I.bare, I.base, let ⟨m, hn, hl'⟩ := I.loc; ⟨m, hn, fun i x v e1 e2 e3 => hl' i x v e1 (w i v e2) e3⟩, I.cell, I.free, I.freeC, I.pin, I.hok, hl.trans I.len⟩
theorem Inv.pins_of {pins' : List (Addr × Obj)} (I : Inv X pins σ H s) (h : ∀ p ∈ pins', s.heap.get? p.1 = some p.2 ∧ H p.1 = none ∧ p.1 ≠ X.env.locals ∧ p.1 ∉ X.fs ∧ ∀ v, p.2.data ≠ .cell v) : Inv X pins' σ H s :=
  ⟨I.ok, I.os, I.bare, I.base, I.loc, I.cell, I.free, I.freeC, fun p hp => (List.mem_append.mp hp).elim (fun z => I.pin p (List.mem_append_left _ z)) (h p), I.hok, I.len⟩

theorem nodup_ix {N : List Str} (hN : N.Nodup) {i j : Nat} {x : Str} (a : N[i]? = some x) (b : N[j]? = some x) : i = j := by
  obtain ⟨h1, e1⟩ := List.getElem?_eq_some_iff.mp a
  obtain ⟨h2, e2⟩ := List.getElem?_eq_some_iff.mp b
  exact (List.getElem_inj hN).mp (e1.trans e2.symm)

theorem store_ok2 {M : Model} {A : Around} {E : Value → Shared → Prop} {i : Nat} {x : Str} {v : V} {u : Value} {Q : Unit → Shared → Prop} (I : Inv X pins σ H s) (hN : X.N.Nodup) (hi : X.N[i]? = some x) (hx : Loc X.env.scope x) (r : RelV v u)
    (h : ∀ s', Inv X pins (σ.set i (some v)) H s' → (∃ a, Heap.SameBut a s.heap s'.heap ∧ (a = X.env.locals ∨ X.env.cells.lookup x = some a)) → Q () s') (hf : X.fn x = true ∨ X.env.scope.names.lookup x = some .local := by first | exact .inl rfl | exact .inr rfl | assumption) : wpAny M A (storeName X.env x u) Q E s := by
  obtain ⟨m, hn, hl⟩ := id I.loc
  have hcls : (X.env.scope.kind == .class || (X.env.scope.kind == .module && X.env.locals != X.env.globals)) = false := by rw [I.ok.kind]; rfl
  have hiσ : i < σ.length := by rw [I.len]; exact (List.getElem?_eq_some_iff.mp hi).1
  have cne := I.cne
  have tracked : ∀ {a : Addr} {h' : Heap}, (∃ o, s.heap.get? a = some o ∧ H a = none) → Heap.SameBut a s.heap h' → HOk X.prog X.w H h' := fun {a h'} ha hs b ob e => by
    obtain ⟨_, _, hfree⟩ := ha
    refine (I.hok b ob e).stay (fun c w' hc q => (hs.2 c ?_).trans q) (fun _ q => q) fun _ _ q => q
    rintro rfl
    rcases hc with rfl | hc
    · rw [hfree] at e; cases e
    · rw [hfree] at hc; cases hc
  rcases hx with hk | hk
  · refine wpAny_storeName_local hk hn (fun h' hn' hs => ?_) hcls
    obtain ⟨oL, _, _, hoL, _⟩ := id hn
    refine h _ ⟨I.ok, I.os, I.bare, ⟨fun b o e n hb hx => ?_, fun b o e n hb hx => ?_, I.base.free, fun b o e hx => ?_, I.base.tups, I.base.frzs, I.base.tbls⟩, ⟨_, hn', fun j y v' e1 e2 e3 => ?_⟩, fun y c e => ?_, I.free, I.freeC, fun p hp => ?_, tracked ⟨oL, hoL, I.free⟩ hs, by simpa using I.len⟩ ⟨_, hs, .inl rfl⟩
    · exact (hs.2 b (Nat.ne_of_lt (Nat.lt_of_lt_of_le (Heap.lt_size e) I.ok.above))).trans (I.base.keep b o e n hb hx)
    · obtain ⟨sl, e1⟩ := I.base.slot b o e n hb hx
      exact ⟨sl, (hs.2 b (Nat.ne_of_lt (Nat.lt_of_lt_of_le (Heap.lt_size e) I.ok.above))).trans e1⟩
    · obtain ⟨o', e1⟩ := I.base.there b o e hx
      exact ⟨o', (hs.2 b (Nat.ne_of_lt (Nat.lt_of_lt_of_le (Heap.lt_size e) I.ok.above))).trans e1⟩
    · by_cases hj : j = i
      · subst hj
        rw [hi] at e1; cases e1
        rw [List.getElem?_set_self hiσ] at e2
        cases e2
        exact ⟨u, r, .inl ⟨hk, by simp⟩⟩
      · rw [List.getElem?_set_ne (Ne.symm hj)] at e2
        obtain ⟨u', r', q⟩ := hl j y v' e1 e2 e3
        refine ⟨u', r', ?_⟩
        rcases q with ⟨k, e⟩ | ⟨k, c, e, z⟩
        · refine .inl ⟨k, ?_⟩
          have : y ≠ x := fun e => hj (nodup_ix hN e1 (e ▸ hi))
          simp [this, e]
        · exact .inr ⟨k, c, e, z.sameBut hs (cne y c e)⟩
    · obtain ⟨w', z⟩ := I.cell y c e
      exact ⟨w', z.sameBut hs (cne y c e)⟩
    · obtain ⟨e, n, ne, nf, d⟩ := I.pin p hp
      exact ⟨(hs.2 p.1 ne).trans e, n, ne, nf, d⟩
  · have hfn : X.fn x = true := by
      rcases hf with z | z
      · exact z
      · rw [z] at hk; cases hk
    obtain ⟨c, hc⟩ := I.ok.has x (.inl hk)
    obtain ⟨w', z⟩ := I.cell x c hc
    refine wpAny_storeName_cell I.ok.kind hk hc z (fun h' hc' hs => ?_)
    obtain ⟨oc, hoc, hocd⟩ := id z
    refine h { s with heap := h' } ⟨I.ok, I.os, I.bare, ⟨fun b o e n hb hx => ?_, fun b o e n hb hx => ?_, I.base.free, fun b o e hx => ?_, I.base.tups, I.base.frzs, I.base.tbls⟩, ⟨m, hn.sameBut hs (Ne.symm (cne x c hc)), fun j y v' e1 e2 e3 => ?_⟩, fun y c' e => ?_, I.free, I.freeC, fun p hp => ?_, tracked ⟨oc, hoc, I.freeC x c hc⟩ hs, by simpa using I.len⟩ ⟨c, hs, .inr hc⟩
    · exact (hs.2 b (Nat.ne_of_lt (Nat.lt_of_lt_of_le (Heap.lt_size e) (I.ok.cab x c hfn hc)))).trans (I.base.keep b o e n hb hx)
    · obtain ⟨sl, e1⟩ := I.base.slot b o e n hb hx
      exact ⟨sl, (hs.2 b (Nat.ne_of_lt (Nat.lt_of_lt_of_le (Heap.lt_size e) (I.ok.cab x c hfn hc)))).trans e1⟩
    · obtain ⟨o', e1⟩ := I.base.there b o e hx
      exact ⟨o', (hs.2 b (Nat.ne_of_lt (Nat.lt_of_lt_of_le (Heap.lt_size e) (I.ok.cab x c hfn hc)))).trans e1⟩
    · by_cases hj : j = i
      · subst hj
        rw [hi] at e1; cases e1
        rw [List.getElem?_set_self hiσ] at e2
        cases e2
        exact ⟨u, r, .inr ⟨.inl hk, c, hc, hc'⟩⟩
      · rw [List.getElem?_set_ne (Ne.symm hj)] at e2
        obtain ⟨u', r', q⟩ := hl j y v' e1 e2 e3
        refine ⟨u', r', ?_⟩
        rcases q with q | ⟨k, c', e, z'⟩
        · exact .inl q
        · refine .inr ⟨k, c', e, z'.sameBut hs ?_⟩
          rintro rfl
          exact hj (nodup_ix hN e1 (I.ok.inj _ _ _ e hc ▸ hi))
    · by_cases hcc : c' = c
      · subst hcc; exact ⟨_, hc'⟩
      · obtain ⟨w2, z2⟩ := I.cell y c' e
        exact ⟨w2, z2.sameBut hs hcc⟩
    · obtain ⟨e, n, ne, nf, d⟩ := I.pin p hp
      refine ⟨(hs.2 p.1 ?_).trans e, n, ne, nf, d⟩
      intro q
      rw [q, hoc] at e
      have q' : oc = p.2 := Option.some.inj e
      exact d w' (by rw [← q']; exact hocd)
theorem store_ok {M : Model} {A : Around} {E : Value → Shared → Prop} {i : Nat} {x : Str} {v : V} {u : Value} {Q : Unit → Shared → Prop} (I : Inv X pins σ H s) (hN : X.N.Nodup) (hi : X.N[i]? = some x) (hx : Loc X.env.scope x) (r : RelV v u)
    (h : ∀ s', Inv X pins (σ.set i (some v)) H s' → Q () s') (hf : X.fn x = true ∨ X.env.scope.names.lookup x = some .local := by first | exact .inl rfl | exact .inr rfl | assumption) : wpAny M A (storeName X.env x u) Q E s :=
  store_ok2 I hN hi hx r (fun s' I' _ => h s' I') hf
theorem Inv.call' {s' : Shared} {ch : List Addr} (I : Inv X pins σ H s) (ho : s'.os = s.os) (u : Un (frs X.stack) ch H H' s.heap s'.heap) (hok : HOk X.prog X.w H' s'.heap) (hg : AllBare s'.gens)
    (hch : ∀ b ∈ ch, (b ∈ X.ex ∨ X.s₀.heap.objs.size ≤ b) ∧ b ≠ X.env.locals ∧ (∀ x c, X.env.cells.lookup x = some c → c ≠ b) ∧ ∀ p ∈ X.pn ++ pins, p.1 ≠ b) : Inv X pins σ H' s' := by
  obtain ⟨h', g', d', t', o'⟩ := s'
  have e : o' = s.os := ho
  subst e
  exact I.call (g' := g') (t' := t') (d' := d') u hok hg hch
end

abbrev XK := Value → Option Addr → Hp → Prop
abbrev St := List (Option V)
abbrev VK := V → Hp → Prop
abbrev TE := St → Hp → VK → Prop
abbrev TT := St → Hp → (Bool → Hp → Prop) → Prop
abbrev TA := St → Hp → (List V → Hp → Prop) → Prop
structure Ends where
  nx : St → Hp → Prop
  rt : VK
  bk : St → Hp → Prop := fun _ _ => False
  ct : St → Hp → Prop := fun _ _ => False
abbrev TS := Ends → St → Hp → Prop

def EP (X : Cx) (pins : List (Addr × Obj)) (σ : St) (Q : VK) (u : Value) (s' : Shared) : Prop := ∃ v H', Inv X pins σ H' s' ∧ RelV v u ∧ Q v H'
def TP (X : Cx) (pins : List (Addr × Obj)) (σ : St) (Q : Bool → Hp → Prop) (b : Bool) (s' : Shared) : Prop := ∃ H', Inv X pins σ H' s' ∧ Q b H'
def AP (X : Cx) (pins : List (Addr × Obj)) (σ : St) (Q : List V → Hp → Prop) (us : List Value) (s' : Shared) : Prop := ∃ vs H', Inv X pins σ H' s' ∧ Vals vs us ∧ Q vs H'
def SP (X : Cx) (pins : List (Addr × Obj)) (D : Ends) (f : Flow) (s' : Shared) : Prop :=
  match f with
  | .next => ∃ σ' H', Inv X pins σ' H' s' ∧ D.nx σ' H'
  | .brk => ∃ σ' H', Inv X pins σ' H' s' ∧ D.bk σ' H'
  | .cont => ∃ σ' H', Inv X pins σ' H' s' ∧ D.ct σ' H'
  | .ret u => ∃ v σ' H', Inv X pins σ' H' s' ∧ RelV v u ∧ D.rt v H'

def PE (X : Cx) (e : Expr) (t : TE) : Prop :=
  ∀ (pins : List (Addr × Obj)) (s : Shared) (σ : St) (H : Hp) (Q : VK), Inv X pins σ H s → t σ H Q → wpAny (model X.prog X.w) X.A (eval e X.env) (EP X pins σ Q) X.xe s
def PT (X : Cx) (e : Expr) (t : TT) : Prop :=
  ∀ (pins : List (Addr × Obj)) (s : Shared) (σ : St) (H : Hp) (Q : Bool → Hp → Prop), Inv X pins σ H s → t σ H Q → wpAny (model X.prog X.w) X.A (isTrue e X.env (eval e X.env)) (TP X pins σ Q) X.xe s
def PW (X : Cx) (e : Expr) (t : TT) : Prop :=
  ∀ (whole : Sem Value) (pins : List (Addr × Obj)) (s : Shared) (σ : St) (H : Hp) (Q : Bool → Hp → Prop), Inv X pins σ H s → t σ H Q → wpAny (model X.prog X.w) X.A (isTrue e X.env whole) (TP X pins σ Q) X.xe s
theorem PW.pt {X : Cx} {e : Expr} {t : TT} (h : PW X e t) : PT X e t := h _
def PA (X : Cx) (es : List Expr) (t : TA) : Prop :=
  ∀ (pos : Pos) (pins : List (Addr × Obj)) (s : Shared) (σ : St) (H : Hp) (Q : List V → Hp → Prop), Inv X pins σ H s → t σ H Q → wpAny (model X.prog X.w) X.A (spliced (backTo pos (starEach es X.env))) (AP X pins σ Q) X.xe s
def PS (X : Cx) (st : Stmt) (t : TS) : Prop :=
  ∀ (pins : List (Addr × Obj)) (s : Shared) (σ : St) (H : Hp) (D : Ends), Inv X pins σ H s → t D σ H → wpAny (model X.prog X.w) X.A (exec st X.env) (SP X pins D) X.xe s
def PSs (X : Cx) (st : List Stmt) (t : TS) : Prop :=
  ∀ (pins : List (Addr × Obj)) (s : Shared) (σ : St) (H : Hp) (D : Ends), Inv X pins σ H s → t D σ H → wpAny (model X.prog X.w) X.A (execs st X.env) (SP X pins D) X.xe s
theorem thn {α : Type} {t : Sem α} {Q Q' : α → Shared → Prop} {M : Model} {A : Around} {E : Value → Shared → Prop} {s : Shared} (h : wpAny M A t Q E s) (hQ : ∀ a s, Q a s → Q' a s) : wpAny M A t Q' E s := wpAny_mono h hQ fun _ _ x => x
end L2

namespace L2
open PySem PySem.Spec PyProof.Rows
section
variable {X : Cx}


def tVar (i : Nat) : TE := fun σ H Q => ∃ v, σ[i]? = some (some v) ∧ Q v H
def tC (v : V) : TE := fun _ H Q => Q v H
theorem pe_var {i : Nat} {x : Str} {pos : Pos} (hN : X.N[i]? = some x) (hv : Vis X.env.scope x) (hd : (x == ("__debug__" : Str)) = false := by decide) (hcd : (x == ("__classdict__" : Str)) = false := by decide) : PE X (.Name x pos) (tVar i) := by
  intro pins s σ H Q I h
  obtain ⟨v, e, h⟩ := h
  obtain ⟨m, hn, hl⟩ := I.loc
  obtain ⟨u, r, l⟩ := hl i x v hN e hv
  have fin : EP X pins σ Q u s := ⟨v, H, I, r, h⟩
  rcases l with ⟨hk, hm⟩ | ⟨hk, c, hc, hcell⟩
  · exact wpAny_Name (wpAny_loadName_local I.ok.kind hk hn hm fin) hd
  · rcases hk with hk | hk
    · exact wpAny_Name (wpAny_loadName_cell I.ok.kind hk hc hcell fin) hd
    · exact wpAny_Name (wpAny_loadName_free I.ok.kind hk hc hcell fin hcd) hd
theorem pe_int {i j pos} : PE X (.Constant (.int i) j pos) (tC (.int i)) := fun _ _ _ H _ I h => wpAny_Constant_int ⟨.int i, H, I.tok _, ⟨_, rfl⟩, h⟩
theorem pe_bl {b j pos} : PE X (.Constant (.bool b) j pos) (tC (.bl b)) := fun _ _ _ H _ I h => Constant_bool ⟨.bl b, H, I, rfl, h⟩
theorem pe_non {j pos} : PE X (.Constant .none j pos) (tC .non) := fun _ _ _ H _ I h => Constant_none ⟨.non, H, I, rfl, h⟩
theorem pe_str {x j pos} : PE X (.Constant (.str x) j pos) (tC (.str x)) := fun _ _ _ H _ I h => Calls.Constant_str ⟨.str x, H, I.tok _, ⟨_, rfl⟩, h⟩

def Gl (X : Cx) (x : Str) : Prop := X.env.kindOf x = some .globalImplicit
theorem ld_glob {E : Value → Shared → Prop} {pins : List (Addr × Obj)} {s : Shared} {σ : St} {H : Hp} {x : Str} {u : Value} {pos : Pos} {Q : Value → Shared → Prop} (I : Inv X pins σ H s) (hg : Gl X x) (hm : X.mg x = some u) (h : Q u s)
    (hd : (x == ("__debug__" : Str)) = false := by decide) : wpAny (model X.prog X.w) X.A (eval (.Name x pos) X.env) Q E s :=
  Calls.Name_function_global I.ok.kind hg (Calls.loadGlobal_global (by rw [I.ok.glob]; exact I.mod.glob.keeps I.bk) hm h) hd
theorem ld_blt {E : Value → Shared → Prop} {pins : List (Addr × Obj)} {s : Shared} {σ : St} {H : Hp} {x : Str} {u : Value} {pos : Pos} {Q : Value → Shared → Prop} (I : Inv X pins σ H s) (hg : Gl X x) (hm : X.mg x = none) (hv : bootBuiltins x = some u) (h : Q u s)
    (hn : x ≠ "__name__" := by decide) (hd : (x == ("__debug__" : Str)) = false := by decide) : wpAny (model X.prog X.w) X.A (eval (.Name x pos) X.env) Q E s := by
  obtain ⟨mb, h1, h2⟩ := I.mod.blt
  exact Calls.Name_function_global I.ok.kind hg (Calls.loadGlobal_builtin (by rw [I.ok.glob]; exact I.mod.glob.keeps I.bk) hm (by rw [I.ok.blt]; exact h1.keeps I.bk) ((h2 x hn).trans hv) h) hd
theorem pe_glob {x : Str} {v : V} {u : Value} {pos : Pos} (hg : Gl X x) (hm : X.mg x = some u) (r : RelV v u) (hd : (x == ("__debug__" : Str)) = false := by decide) : PE X (.Name x pos) (tC v) :=
  fun _ _ _ H _ I h => ld_glob I hg hm ⟨v, H, I, r, h⟩ hd
theorem pe_bltn {x : Str} {v : V} {u : Value} {pos : Pos} (hg : Gl X x) (hm : X.mg x = none) (hv : bootBuiltins x = some u) (r : RelV v u) (hn : x ≠ "__name__" := by decide) (hd : (x == ("__debug__" : Str)) = false := by decide) : PE X (.Name x pos) (tC v) :=
  fun _ _ _ H _ I h => ld_blt I hg hm hv ⟨v, H, I, r, h⟩ hn hd

variable {a b : Expr} {ta tb : TE} {pos : Pos}

def tB (t : TE) : TT := fun σ H Q => t σ H fun x H1 => ∃ c, x = .bl c ∧ Q c H1
theorem pt_val {e : Expr} {t : TE} (h : PE X e t) (he : ∀ whole, isTrue e X.env whole = (do let v ← whole; standAt e.pos; holding [v] (truthy v)) := by intro _; rfl) : PT X e (tB t) := by
  intro pins s σ H Q I hw
  refine isTrue_plain (thn (h pins s σ H _ I hw) fun v s1 ⟨x, H1, I1, r1, q1⟩ => ?_) (he _)
  obtain ⟨d, rfl, q⟩ := q1
  cases r1
  exact wpAny_truthy_bool ⟨H1, I1, q⟩

variable {tA tB' : TT} {rest : List Expr}
def tAnd (t u : TT) : TT := fun σ H Q => t σ H fun c H1 => if c = true then u σ H1 Q else Q false H1
def tOr (t u : TT) : TT := fun σ H Q => t σ H fun c H1 => if c = true then Q true H1 else u σ H1 Q
def tNot (t : TT) : TT := fun σ H Q => t σ H fun c H1 => Q (!c) H1
theorem pw_and1 (ha : PT X a tA) : PW X (.BoolOp .And [a] pos) tA := by
  intro wh pins s σ H Q I h
  refine isTrue_and (thn (ha pins s σ H Q I h) fun c s1 e => ?_)
  cases c with
  | true => exact isTrue_and_nil e
  | false => exact e
theorem pw_or1 (ha : PT X a tA) : PW X (.BoolOp .Or [a] pos) tA := by
  intro wh pins s σ H Q I h
  refine isTrue_or (thn (ha pins s σ H Q I h) fun c s1 e => ?_)
  cases c with
  | false => exact isTrue_or_nil e
  | true => exact e
theorem pw_and (ha : PT X a tA) (hb : PW X (.BoolOp .And (b :: rest) pos) tB') : PW X (.BoolOp .And (a :: b :: rest) pos) (tAnd tA tB') := by
  intro wh pins s σ H Q I h
  refine isTrue_and (thn (ha pins s σ H _ I h) fun c s1 ⟨H1, I1, q1⟩ => ?_)
  cases c with
  | true => exact hb wh pins s1 σ H1 Q I1 q1
  | false => exact ⟨H1, I1, q1⟩
theorem pw_or (ha : PT X a tA) (hb : PW X (.BoolOp .Or (b :: rest) pos) tB') : PW X (.BoolOp .Or (a :: b :: rest) pos) (tOr tA tB') := by
  intro wh pins s σ H Q I h
  refine isTrue_or (thn (ha pins s σ H _ I h) fun c s1 ⟨H1, I1, q1⟩ => ?_)
  cases c with
  | true => exact ⟨H1, I1, q1⟩
  | false => exact hb wh pins s1 σ H1 Q I1 q1
theorem pt_not (ha : PT X a tA) : PT X (.UnaryOp .Not a pos) (tNot tA) := by
  intro pins s σ H Q I h
  exact isTrue_not (ha pins s σ H (fun c H1 => Q (!c) H1) I h)
def tAndV (ta tb : TE) : TE := fun σ H Q => ta σ H fun x H1 => ∃ c, x = .bl c ∧ if c = true then tb σ H1 Q else Q (.bl false) H1
def tOrV (ta tb : TE) : TE := fun σ H Q => ta σ H fun x H1 => ∃ c, x = .bl c ∧ if c = true then Q (.bl true) H1 else tb σ H1 Q
def tNotV (ta : TE) : TE := fun σ H Q => ta σ H fun x H1 => ∃ c, x = .bl c ∧ Q (.bl (!c)) H1
theorem pe_one {op} {t : TE} (h : PE X a t) : PE X (.BoolOp op [a] pos) t := fun pins s σ H Q I hw => BoolOp_one (h pins s σ H Q I hw)
theorem pe_and (ha : PE X a ta) (hb : PE X (.BoolOp .And (b :: rest) pos) tb) : PE X (.BoolOp .And (a :: b :: rest) pos) (tAndV ta tb) := by
  intro pins s σ H Q I h
  refine BoolOp_and (thn (ha pins s σ H _ I h) fun v s1 ⟨x, H1, I1, r1, q1⟩ => ?_)
  obtain ⟨c, rfl, q1⟩ := q1
  cases r1
  refine wpAny_truthy_bool ?_
  cases c with
  | true => exact hb pins s1 σ H1 Q I1 q1
  | false => exact ⟨.bl false, H1, I1, rfl, q1⟩
theorem pe_or (ha : PE X a ta) (hb : PE X (.BoolOp .Or (b :: rest) pos) tb) : PE X (.BoolOp .Or (a :: b :: rest) pos) (tOrV ta tb) := by
  intro pins s σ H Q I h
  refine BoolOp_or (thn (ha pins s σ H _ I h) fun v s1 ⟨x, H1, I1, r1, q1⟩ => ?_)
  obtain ⟨c, rfl, q1⟩ := q1
  cases r1
  refine wpAny_truthy_bool ?_
  cases c with
  | false => exact hb pins s1 σ H1 Q I1 q1
  | true => exact ⟨.bl true, H1, I1, rfl, q1⟩
theorem pe_not (ha : PE X a ta) : PE X (.UnaryOp .Not a pos) (tNotV ta) := by
  intro pins s σ H Q I h
  refine UnaryOp_ (thn (ha pins s σ H _ I h) fun v s1 ⟨x, H1, I1, r1, q1⟩ => ?_)
  obtain ⟨c, rfl, q1⟩ := q1
  cases r1
  exact not_of (wpAny_truthy_bool ⟨.bl (!c), H1, I1, rfl, q1⟩)
def tIf (t : TT) (ta tb : TE) : TE := fun σ H Q => t σ H fun c H1 => if c = true then ta σ H1 Q else tb σ H1 Q
theorem pe_ifExp {c : Expr} (hc : PT X c tA) (ha : PE X a ta) (hb : PE X b tb) : PE X (.IfExp c a b pos) (tIf tA ta tb) := by
  intro pins s σ H Q I h
  refine wpAny_IfExp (thn (hc pins s σ H _ I h) fun d s1 ⟨H1, I1, q1⟩ => ?_)
  cases d with
  | true => exact ha pins s1 σ H1 Q I1 q1
  | false => exact hb pins s1 σ H1 Q I1 q1
end
end L2

namespace L2
open PySem PySem.Spec PyProof.Rows

def SqL (K : PySem.W.Frag) (H : Hp) (a : Addr) (xs : List V) : Prop :=
  Rd H a (.lst xs) ∨
    ∃ (o : Obj) (its : Array Value) (n : Nat), K.lookup a = some o ∧ o.cls = .type "list" ∧ o.dict = none ∧ o.data = .seq its n ∧ its.size ≤ sizeLine ∧ Vals xs its.toList
def SqT (K : PySem.W.Frag) (H : Hp) (a : Addr) (xs : List V) : Prop :=
  Rd H a (.tup xs) ∨
    ∃ (o : Obj) (its : Array Value) (n : Nat), K.lookup a = some o ∧ o.cls = .type "tuple" ∧ o.data = .seq its n ∧ its.size ≤ sizeLine ∧ Vals xs its.toList
def absV : Value → Option V
  | .none => some .non
  | .bool b => some (.bl b)
  | .int i _ => some (.int i)
  | .str x _ => some (.str x)
  | .bytes b _ => some (.byt b)
  | .float b _ => some (.flt b)
  | .ref a => some (.ref a)
  | .type n => some (.ty n)
  | _ => none
theorem RelV.abs {x : V} {u : Value} (r : RelV x u) : absV u = some x := by
  cases x with
  | non => cases r; rfl
  | bl _ => cases r; rfl
  | int _ => obtain ⟨t, rfl⟩ := r; rfl
  | str _ => obtain ⟨t, rfl⟩ := r; rfl
  | byt _ => obtain ⟨t, rfl⟩ := r; rfl
  | flt _ => obtain ⟨t, rfl⟩ := r; rfl
  | ref _ => cases r; rfl
  | ty _ => cases r; rfl
theorem RelV.inj {x y : V} {u : Value} (r : RelV x u) (q : RelV y u) : x = y := Option.some.inj (r.abs.symm.trans q.abs)
theorem Vals.inj : ∀ {xs ys : List V} {us : List Value}, Vals xs us → Vals ys us → xs = ys
  | _, _, _, .nil, .nil => rfl
  | _, _, _, .cons r t, .cons r' t' => by rw [r.inj r', Vals.inj t t']
section
variable {X : Cx} {pins : List (Addr × Obj)} {σ : St} {H : Hp} {s : Shared} {a : Addr} {xs ys : List V}
theorem SqL.of {K : PySem.W.Frag} (h : H a = some (.lst xs)) : SqL K H a xs := .inl (.inl h)
theorem SqT.of {K : PySem.W.Frag} (h : H a = some (.tup xs)) : SqT K H a xs := .inl (.inl h)
theorem Inv.list (I : Inv X pins σ H s) (h : SqL X.K H a xs) : ∃ its : List Value, Vals xs its ∧ PlainL s.heap a its.toArray ∧ xs.length ≤ sizeLine := by
  rcases h with h | ⟨o, its, n, hk, hc, hd, hs, hz, r⟩
  · obtain ⟨z, its, n, r, e⟩ := h.ok I.hok
    exact ⟨its, r, ⟨_, n, e, rfl, rfl, rfl⟩, z⟩
  · refine ⟨its.toList, r, ⟨o, n, I.kIn a o hk, hc, hd, by simpa using hs⟩, ?_⟩
    have e := r.length
    simp only [Array.length_toList] at e
    omega
theorem Inv.tuple (I : Inv X pins σ H s) (h : SqT X.K H a xs) : ∃ its : List Value, Vals xs its ∧ IsTup s.heap a its.toArray ∧ xs.length ≤ sizeLine := by
  rcases h with h | ⟨o, its, n, hk, hc, hs, hz, r⟩
  · obtain ⟨z, its, r, p, _⟩ := h.ok I.hok
    exact ⟨its, r, p, z⟩
  · refine ⟨its.toList, r, ⟨o, I.kIn a o hk, hc, n, by simpa using hs⟩, ?_⟩
    have e := r.length
    simp only [Array.length_toList] at e
    omega
theorem Inv.list_inj (I : Inv X pins σ H s) (h : SqL X.K H a xs) (h' : SqL X.K H a ys) : xs = ys := by
  obtain ⟨its, r, ⟨o, n, e, _, _, d⟩, _⟩ := I.list h
  obtain ⟨its', r', ⟨o', n', e', _, _, d'⟩, _⟩ := I.list h'
  rw [e] at e'; cases e'
  rw [d] at d'
  injection d' with d1 _
  have : its = its' := by simpa using congrArg Array.toList d1
  subst this
  exact r.inj r'
theorem Inv.tuple_inj (I : Inv X pins σ H s) (h : SqT X.K H a xs) (h' : SqT X.K H a ys) : xs = ys := by
  obtain ⟨its, r, ⟨o, e, _, n, d⟩, _⟩ := I.tuple h
  obtain ⟨its', r', ⟨o', e', _, n', d'⟩, _⟩ := I.tuple h'
  rw [e] at e'; cases e'
  rw [d] at d'
  injection d' with d1 _
  have : its = its' := by simpa using congrArg Array.toList d1
  subst this
  exact r.inj r'
end

abbrev Cx.wish (X : Cx) (E : Value → Shared → Prop) : Cx := { X with xe := E }
abbrev Cx.nox (X : Cx) : Cx := X.wish fun _ _ => False
theorem Cx.Ok.wish {X : Cx} (ok : X.Ok) (E : Value → Shared → Prop) : (X.wish E).Ok :=
  ⟨ok.mod, ok.kind, ok.glob, ok.blt, ok.above, ok.inj, ok.has, ok.cab, ok.hd, ok.frames, ok.stk, ok.exf, ok.bs, ok.bsz, ok.noex, ok.exfs, ok.funs, ok.frf⟩
theorem Cx.Ok.unwish {X : Cx} {E : Value → Shared → Prop} (ok : (X.wish E).Ok) : X.Ok :=
  ⟨ok.mod, ok.kind, ok.glob, ok.blt, ok.above, ok.inj, ok.has, ok.cab, ok.hd, ok.frames, ok.stk, ok.exf, ok.bs, ok.bsz, ok.noex, ok.exfs, ok.funs, ok.frf⟩
section
variable {X : Cx} {pins : List (Addr × Obj)} {σ : St} {H : Hp} {s : Shared} {E : Value → Shared → Prop}
theorem Inv.wish (I : Inv X pins σ H s) (E : Value → Shared → Prop) : Inv (X.wish E) pins σ H s := ⟨I.ok.wish E, I.os, I.bare, I.base, I.loc, I.cell, I.free, I.freeC, I.pin, I.hok, I.len⟩
theorem Inv.unwish (I : Inv (X.wish E) pins σ H s) : Inv X pins σ H s := ⟨I.ok.unwish, I.os, I.bare, I.base, I.loc, I.cell, I.free, I.freeC, I.pin, I.hok, I.len⟩
theorem SP.unwish {D : Ends} {f : Flow} {s' : Shared} (h : SP (X.wish E) pins D f s') : SP X pins D f s' := by
  cases f with
  | next => obtain ⟨σ', H', I, q⟩ := h; exact ⟨σ', H', I.unwish, q⟩
  | brk => obtain ⟨σ', H', I, q⟩ := h; exact ⟨σ', H', I.unwish, q⟩
  | cont => obtain ⟨σ', H', I, q⟩ := h; exact ⟨σ', H', I.unwish, q⟩
  | ret u => obtain ⟨v, σ', H', I, r, q⟩ := h; exact ⟨v, σ', H', I.unwish, r, q⟩
theorem PE.nox {e : Expr} {t : TE} (h : PE X.nox e t) : PE X e t := fun pins s σ H Q I hw =>
  wpAny_mono (h pins s σ H Q (I.wish _) hw) (fun _ _ ⟨v, H', I', r, q⟩ => ⟨v, H', I'.unwish, r, q⟩) fun _ _ z => False.elim z
theorem PT.nox {e : Expr} {t : TT} (h : PT X.nox e t) : PT X e t := fun pins s σ H Q I hw =>
  wpAny_mono (h pins s σ H Q (I.wish _) hw) (fun _ _ ⟨H', I', q⟩ => ⟨H', I'.unwish, q⟩) fun _ _ z => False.elim z
theorem PSs.nox {st : List Stmt} {t : TS} (h : PSs X.nox st t) : PSs X st t := fun pins s σ H D I hw =>
  wpAny_mono (h pins s σ H D (I.wish _) hw) (fun _ _ q => q.unwish) fun _ _ z => False.elim z
end

section
variable {X : Cx} {st : Stmt} {rest : List Stmt} {t u : TS} {e : Expr} {te : TE} {pos : Pos}
def tNext : TS := fun D σ H => D.nx σ H
def tSeq (t u : TS) : TS := fun D σ H => t { D with nx := u D } σ H
theorem pss_nil : PSs X [] tNext := fun _ _ σ H _ I h => wpAny_execs_nil ⟨σ, H, I, h⟩
theorem pss_cons (h1 : PS X st t) (h2 : PSs X rest u) : PSs X (st :: rest) (tSeq t u) := by
  intro pins s σ H D I h
  refine wpAny_execs_cons (thn (h1 pins s σ H { D with nx := u D } I h) fun f s1 q => ?_)
  cases f with
  | next =>
    obtain ⟨σ', H', I', q⟩ := q
    exact h2 pins s1 σ' H' D I' q
  | ret v => exact q
  | brk => exact q
  | cont => exact q
theorem pss_one (h1 : PS X st t) : PSs X [st] t := by
  intro pins s σ H D I h
  refine wpAny_execs_cons (thn (h1 pins s σ H D I h) fun f s1 q => ?_)
  cases f with
  | next => exact wpAny_execs_nil q
  | ret v => exact q
  | brk => exact q
  | cont => exact q
theorem Inv.quiet {pins : List (Addr × Obj)} {σ : St} {H : Hp} {s : Shared} (I : Inv X pins σ H s) : interactive X.env = false := by simp [interactive, I.ok.kind]
def tDrop (te : TE) : TS := fun D σ H => te σ H fun _ H1 => D.nx σ H1
theorem ps_expr (he : PE X e te) (hs : swapsWith e none pos.line X.env = pure false := by rfl) : PS X (.Expr e pos) (tDrop te) := by
  intro pins s σ H D I h
  exact wpAny_Expr_any (thn (he pins s σ H _ I h) fun v s1 ⟨x, H1, I1, r1, q1⟩ => ⟨σ, H1, I1, q1⟩) I.quiet hs
def tRet (te : TE) : TS := fun D σ H => te σ H D.rt
theorem ps_ret (he : PE X e te) : PS X (.Return (some e) pos) (tRet te) := by
  intro pins s σ H D I h
  exact wpAny_Return_some (thn (he pins s σ H _ I h) fun v s1 ⟨x, H1, I1, r1, q1⟩ => ⟨x, σ, H1, I1, r1, q1⟩)
def tIfS (c : TT) (t u : TS) : TS := fun D σ H => c σ H fun b H1 => if b = true then t D σ H1 else u D σ H1
theorem ps_if {c : Expr} {a b : List Stmt} {tc : TT} (hc : PT X c tc) (ha : PSs X a t) (hb : PSs X b u) : PS X (.If c a b pos) (tIfS tc t u) := by
  intro pins s σ H D I h
  refine wpAny_If (thn (hc pins s σ H _ I h) fun d s1 ⟨H1, I1, q1⟩ => ?_)
  cases d with
  | true => exact ha pins s1 σ H1 D I1 q1
  | false => exact hb pins s1 σ H1 D I1 q1
def tNever : TS := fun _ _ _ => False
theorem ps_never : PS X st tNever := fun _ _ _ _ _ _ h => h.elim
theorem pss_never {sts : List Stmt} : PSs X sts tNever := fun _ _ _ _ _ _ h => h.elim
end

abbrev TG := V → St → Hp → (St → Hp → Prop) → Prop
abbrev TGs := List V → St → Hp → (St → Hp → Prop) → Prop
def PG (X : Cx) (target : Expr) (t : TG) : Prop :=
  ∀ (pins : List (Addr × Obj)) (s : Shared) (σ : St) (H : Hp) (v : V) (u : Value) (Q : St → Hp → Prop), Inv X pins σ H s → RelV v u → t v σ H Q →
    wpAny (model X.prog X.w) X.A (assign target X.env u) (fun _ s' => ∃ σ' H', Inv X pins σ' H' s' ∧ Q σ' H') X.xe s
def PGs (X : Cx) (ts : List Expr) (t : TGs) : Prop :=
  ∀ (pins : List (Addr × Obj)) (s : Shared) (σ : St) (H : Hp) (vs : List V) (us : List Value) (Q : St → Hp → Prop), Inv X pins σ H s → Vals vs us → t vs σ H Q →
    wpAny (model X.prog X.w) X.A (assignInOrder ((assignEach ts X.env).map (·.2)) us) (fun _ s' => ∃ σ' H', Inv X pins σ' H' s' ∧ Q σ' H') X.xe s
abbrev TSet := V → V → V → Hp → (Hp → Prop) → Prop
def PSet (X : Cx) (t : TSet) : Prop :=
  ∀ (pins : List (Addr × Obj)) (s : Shared) (σ : St) (H : Hp) (o i v : V) (ov iv u : Value) (Q : Hp → Prop), Inv X pins σ H s → RelV o ov → RelV i iv → RelV v u → t o i v H Q →
    wpAny (model X.prog X.w) X.A (setItem ov iv u) (fun _ s' => ∃ H', Inv X pins σ H' s' ∧ Q H') X.xe s
section
variable {X : Cx} {pos : Pos}
def gName (i : Nat) : TG := fun v σ H Q => Q (σ.set i (some v)) H
theorem pg_name {i : Nat} {x : Str} (hN : X.N.Nodup) (hi : X.N[i]? = some x) (hx : Loc X.env.scope x) (hf : X.fn x = true ∨ X.env.scope.names.lookup x = some .local := by first | exact .inl rfl | exact .inr rfl | assumption) : PG X (.Name x pos) (gName i) := by
  intro pins s σ H v u Q I r h
  exact wpAny_assign_Name (store_ok I hN hi hx r (fun s' I' => ⟨_, H, I', h⟩) hf)
def gNil : TGs := fun vs σ H Q => vs = [] ∧ Q σ H
def gCons (t : TG) (u : TGs) : TGs := fun vs σ H Q => ∃ v r, vs = v :: r ∧ t v σ H fun σ' H' => u r σ' H' Q
theorem pgs_nil : PGs X [] gNil := by
  intro pins s σ H vs us Q I r h
  obtain ⟨e, h⟩ := h
  subst e
  cases r
  exact assignInOrder_nil ⟨σ, H, I, h⟩
theorem pgs_cons {e : Expr} {es : List Expr} {t : TG} {u : TGs} (h1 : PG X e t) (h2 : PGs X es u)
    (hs : (assignEach (e :: es) X.env).map (·.2) = assign e X.env :: (assignEach es X.env).map (·.2) := by rfl) : PGs X (e :: es) (gCons t u) := by
  intro pins s σ H vs us Q I r h
  obtain ⟨v, vr, e1, h⟩ := h
  subst e1
  cases r with
  | cons r rr =>
    rw [hs]
    refine assignInOrder_cons (thn (h1 pins s σ H _ _ _ I r h) fun _ s1 ⟨σ1, H1, I1, q1⟩ => ?_)
    exact h2 pins s1 σ1 H1 _ _ Q I1 rr q1
def gTup (K : PySem.W.Frag) (n : Nat) (t : TGs) : TG := fun v σ H Q => ∃ a xs, v = .ref a ∧ SqT K H a xs ∧ xs.length = n ∧ t xs σ H Q
theorem pg_tup {es : List Expr} {k : Nat} {t : TGs} {n : Nat} (hc : X.calm = true) (h : PGs X es t)
    (hn : (assignEach es X.env).length = n := by rfl) (hst : (assignEach es X.env).findIdx? (·.1) = none := by rfl) : PG X (.Tuple es k pos) (gTup X.K n t) := by
  intro pins s σ H v u Q I r hw
  obtain ⟨a, xs, e1, hq, hl, hw⟩ := hw
  subst e1
  cases r
  obtain ⟨its, rv, ht, hz⟩ := I.tuple hq
  refine assign_Tuple_tuple (I.ok.hd hc) ht (by simp [hn, ← hl, rv.length]) hst fun h' hx => ?_
  have I1 : Inv X pins σ H { s with heap := h' } := I.kept (t' := s.toks) fun b o e => hx b o (Nat.ne_of_lt (Heap.lt_size e)) e
  exact h pins _ σ H xs _ Q I1 (by simpa using rv) hw
def gSub (to ti : TE) (t : TSet) : TG := fun v σ H Q => to σ H fun o H1 => ti σ H1 fun i H2 => t o i v H2 fun H3 => Q σ H3
theorem pg_sub {o i : Expr} {to ti : TE} {t : TSet} (ho : PE X o to) (hi : PE X i ti) (hs : PSet X t)
    (ha : ∀ v, assign (.Subscript o i pos) X.env v = (do
      let ov ← holding [v] (eval o X.env)
      let iv ← holding [v, ov] (eval i X.env)
      standAt pos
      holding [v, ov, iv] (setItem ov iv v)
      release [v, ov, iv] []) := by intro _; rfl) : PG X (.Subscript o i pos) (gSub to ti t) := by
  intro pins s σ H v u Q I r h
  rw [ha]
  refine wpAny_bind (wpAny_holding (thn (ho pins s σ H _ I h) fun ov s1 ⟨x, H1, I1, r1, q1⟩ => ?_))
  refine wpAny_bind (wpAny_holding (thn (hi pins s1 σ H1 _ I1 q1) fun iv s2 ⟨y, H2, I2, r2, q2⟩ => ?_))
  refine wpAny_bind (wpAny_standAt (wpAny_bind (wpAny_holding (thn (hs pins s2 σ H2 x y v ov iv u _ I2 r1 r2 r q2) fun _ s3 ⟨H3, I3, q3⟩ => ?_))))
  exact wpAny_release ⟨σ, H3, I3, q3⟩
def tAsg (te : TE) (g : TG) : TS := fun D σ H => te σ H fun x H1 => g x σ H1 D.nx
theorem ps_asg {tg e : Expr} {te : TE} {g : TG} (he : PE X e te) (hg : PG X tg g) (hs : swapsWithSole [tg] e pos.line X.env = pure false := by rfl) (hw : swappedStores [tg] e X.env = pure none := by rfl)
    (h1 : (assignEach [tg] X.env).map (·.2) = [assign tg X.env] := by rfl) : PS X (.Assign [tg] e pos) (tAsg te g) := by
  intro pins s σ H D I h
  refine wpAny_Assign_stores (thn (he pins s σ H _ I h) fun v s1 ⟨x, H1, I1, r1, q1⟩ => ?_) hs hw
  rw [h1]
  exact thn (hg pins s1 σ H1 x v _ I1 r1 q1) fun _ s2 q => q
theorem ps_set {i : Nat} {x : Str} {e : Expr} {te : TE} {pos' : Pos} (hN : X.N.Nodup) (hi : X.N[i]? = some x) (hx : Loc X.env.scope x) (he : PE X e te) (hs : swapsWith e (some (.Name x pos')) pos.line X.env = pure false := by rfl) (hf : X.fn x = true ∨ X.env.scope.names.lookup x = some .local := by first | exact .inl rfl | exact .inr rfl | assumption) :
    PS X (.Assign [.Name x pos'] e pos) (tAsg te (gName i)) := by
  intro pins s σ H D I h
  refine wpAny_Assign_Name (thn (he pins s σ H _ I h) fun v s1 ⟨y, H1, I1, r1, q1⟩ => ?_) hs
  exact store_ok I1 hN hi hx r1 (fun s2 I2 => ⟨_, H1, I2, q1⟩) hf
end

section
variable {X : Cx} {pos : Pos}
def tWhile (c : TT) (tb : TS) : TS := fun D σ H => ∃ W : Nat → St → Hp → Prop, (∃ m, W m σ H) ∧ ∀ m σ H, W m σ H →
  c σ H fun b H1 => if b = true then ∃ N : St → Hp → Prop, (∀ σ' H', N σ' H' → ∃ m', m' < m ∧ W m' σ' H') ∧ tb { D with nx := N, ct := N, bk := D.nx } σ H1 else D.nx σ H1
theorem ps_while {c : Expr} {body : List Stmt} {tc : TT} {tb : TS} (hp : PassesOwn (model X.prog X.w) X.A X.env X.xe) (hc : PT X c tc) (hb : PSs X body tb) : PS X (.While c body [] pos) (tWhile tc tb) := by
  intro pins s σ H D I h
  obtain ⟨W, ⟨m0, w0⟩, turn⟩ := h
  refine wpAny_While (codeAny_whileLoop (fun n s' => ∃ σ' H', Inv X pins σ' H' s' ∧ W n σ' H') ?_ m0 ⟨σ, H, I, w0⟩)
  rintro n s1 ⟨σ1, H1, I1, w1⟩
  refine wpAny_passesOwn hp (thn (hc pins s1 σ1 H1 _ I1 (turn n σ1 H1 w1)) fun b s2 ⟨H2, I2, q2⟩ => ?_)
  cases b with
  | true =>
    obtain ⟨N, hN, q2⟩ := q2
    rw [if_pos rfl]
    refine wpAny_passesOwn hp (thn (hb pins s2 σ1 H2 _ I2 q2) fun f s3 q3 => ?_)
    cases f with
    | next =>
      obtain ⟨σ3, H3, I3, n3⟩ := q3
      obtain ⟨m', hm, w3⟩ := hN σ3 H3 n3
      exact ⟨m', hm, σ3, H3, I3, w3⟩
    | cont =>
      obtain ⟨σ3, H3, I3, n3⟩ := q3
      obtain ⟨m', hm, w3⟩ := hN σ3 H3 n3
      exact ⟨m', hm, σ3, H3, I3, w3⟩
    | brk => exact q3
    | ret v => exact q3
  | false =>
    rw [if_neg Bool.false_ne_true]
    exact wpAny_execs_nil ⟨σ1, H2, I2, q2⟩
end

structure It where
  go : Nat → Hp → Prop
  yld : Nat → Hp → V → Hp → Prop
  stop : Nat → Hp → Prop
def FpOk (X : Cx) (pins : List (Addr × Obj)) (H : Hp) (b : Addr) : Prop :=
  H b = none ∧ b ≠ X.env.locals ∧ b ∉ X.fs ∧ (b ∈ X.ex ∨ X.s₀.heap.objs.size ≤ b) ∧ (∀ x c, X.env.cells.lookup x = some c → c ≠ b) ∧ ∀ p ∈ X.pn ++ pins, p.1 ≠ b
theorem Inv.fpOk {X : Cx} {pins : List (Addr × Obj)} {σ : St} {H H' : Hp} {s : Shared} {b : Addr} (I : Inv X pins σ H s) (hb : s.heap.objs.size ≤ b) (hn : H' b = none) : FpOk X pins H' b := by
  refine ⟨hn, Nat.ne_of_gt (Nat.lt_of_lt_of_le I.lt hb), I.nofs hb, .inr (Nat.le_trans I.sz hb), fun x c e z => ?_, fun p hp z => ?_⟩
  · obtain ⟨v, q⟩ := I.cell x c e
    exact absurd (Nat.lt_of_lt_of_le q.lt (by rw [z]; exact hb)) (Nat.lt_irrefl _)
  · exact absurd (Nat.lt_of_lt_of_le (Heap.lt_size (I.pin p hp).1) (by rw [z]; exact hb)) (Nat.lt_irrefl _)
structure Turn (P : Program) (w : World) (K : PySem.W.Frag) (tg : Expr) (J : It) (fp : List Addr) (it : Addr) (tn : Nat → Heap → Prop) : Prop where
  mem : it ∈ fp
  obj : ∀ i h, tn i h → ∀ b ∈ fp, ∃ o, h.get? b = some o ∧ ∀ v, o.data ≠ .cell v
  keep : ∀ i h h', tn i h → (∀ b ∈ fp, ∀ o, h.get? b = some o → h'.get? b = some o) → tn i h'
  item : ∀ (X : Cx), X.prog = P → X.w = w → X.K = K → X.calm = true → ∀ (i : Nat) (pins : List (Addr × Obj)) (s : Shared) (σ : St) (H : Hp) (E : Value → Shared → Prop), Inv X pins σ H s → (∀ b ∈ fp, FpOk X pins H b) → tn i s.heap → J.go i H →
    wpAny (model P w) X.A (pyNext (.ref it)) (fun r s1 => ∃ u, r = some u ∧
      wpAny (model P w) X.A (letOwnedTupleGo tg (.ref it) u) (fun _ s2 => ∃ x H', Inv X pins σ H' s2 ∧ RelV x u ∧ J.yld i H x H' ∧ tn (i + 1) s2.heap ∧ ∀ b ∈ fp, H' b = none) E s1) E s
  done : ∀ (X : Cx), X.prog = P → X.w = w → X.K = K → X.calm = true → ∀ (i : Nat) (pins : List (Addr × Obj)) (s : Shared) (σ : St) (H : Hp) (E : Value → Shared → Prop), Inv X pins σ H s → (∀ b ∈ fp, FpOk X pins H b) → tn i s.heap → J.stop i H →
    wpAny (model P w) X.A (pyNext (.ref it)) (fun r s1 => r = none ∧ Inv X pins σ H s1) E s
  self : ∀ (A : Around) (i : Nat) (s : Shared) (Q : Value → Shared → Prop) (E : Value → Shared → Prop), tn i s.heap → Q (.ref it) s → wpAny (model P w) A (pyIter (.ref it)) Q E s
abbrev TI := St → Hp → (It → Hp → Prop) → Prop
def PIE (X : Cx) (pins : List (Addr × Obj)) (σ : St) (tg : Expr) (R : It → Hp → Prop) (itv : Value) (s2 : Shared) : Prop :=
  ∃ (it : Addr) (fp : List Addr) (tn : Nat → Heap → Prop) (J : It) (H' : Hp), itv = .ref it ∧ Inv X pins σ H' s2 ∧ Turn X.prog X.w X.K tg J fp it tn ∧ tn 0 s2.heap ∧ (∀ b ∈ fp, FpOk X pins H' b) ∧ R J H'
def PI (X : Cx) (tg iter : Expr) (wi : TI) : Prop :=
  ∀ (pins : List (Addr × Obj)) (s : Shared) (σ : St) (H : Hp) (R : It → Hp → Prop), Inv X pins σ H s → wi σ H R →
    wpAny (model X.prog X.w) X.A (eval iter X.env) (fun v s1 => wpAny (model X.prog X.w) X.A (pyIter v) (PIE X pins σ tg R) X.xe s1) X.xe s

theorem go_of {M : Model} {A : Around} {E : Value → Shared → Prop} {s : Shared} {tg : Expr} {it : Addr} {u : Value} {o : Obj} {n : String} {vs : Array Value} {Q : Unit → Shared → Prop} (ho : s.heap.get? it = some o) (hc : o.cls = .type n) (hd : o.data = .fields vs)
    (hn : ["enumerate", "zip", "dict_itemiterator", "dict_reverseitemiterator", "odict_iterator", "itertools.zip_longest", "itertools.pairwise"].contains n = false) (hQ : Q () s) : wpAny M A (letOwnedTupleGo tg (.ref it) u) Q E s := by
  unfold letOwnedTupleGo
  cases tg <;> first
    | exact wpAny_pure hQ
    | (cases u <;> first
        | exact wpAny_pure hQ
        | (refine wpAny_bind (wpAny_load ho ?_)
           rw [hc, hd]
           show wpAny M A (if (["enumerate", "zip", "dict_itemiterator", "dict_reverseitemiterator", "odict_iterator", "itertools.zip_longest", "itertools.pairwise"].contains n && vs[0]? == some (rawInt _)) = true then _ else _) Q E s
           rw [if_neg (by intro h; rw [hn, Bool.false_and] at h; cases h)]
           exact wpAny_pure hQ))

def Itl (K : PySem.W.Frag) (a : Addr) : It :=
  ⟨fun i H => ∃ xs x, SqL K H a xs ∧ xs[i]? = some x, fun i H x H' => H' = H ∧ ∀ xs, SqL K H a xs → xs[i]? = some x, fun i H => ∃ xs, SqL K H a xs ∧ xs.length ≤ i⟩
def Itt (K : PySem.W.Frag) (a : Addr) : It :=
  ⟨fun i H => ∃ xs x, SqT K H a xs ∧ xs[i]? = some x, fun i H x H' => H' = H ∧ ∀ xs, SqT K H a xs → xs[i]? = some x, fun i H => ∃ xs, SqT K H a xs ∧ xs.length ≤ i⟩
def Itr (lo : Int) (n : Nat) : It := ⟨fun i _ => i < n, fun i H x H' => H' = H ∧ x = .int (lo + i), fun i _ => n ≤ i⟩
theorem turn_list {P : Program} {w : World} {K : PySem.W.Frag} {tg : Expr} (a it : Addr) : Turn P w K tg (Itl K a) [it] it (fun i h => h.IsListIter it a i) where
  mem := by simp
  obj := fun i h st b hb => by
    have e : b = it := by simpa using hb
    subst e
    obtain ⟨o, e, c, d⟩ := st
    exact ⟨o, e, fun v z => by rw [d] at z; cases z⟩
  keep := fun i h h' st k => st.at fun o e => k it (by simp) o e
  item := by
    intro X hP hw hK hc i pins s σ H E I hf st hg
    subst hP hw hK
    obtain ⟨xs, x, hq, hx⟩ := hg
    obtain ⟨its, rv, p, hz⟩ := I.list hq
    obtain ⟨u, hu, ru⟩ := rv.get hx
    obtain ⟨f0, f1, f2, f3, f4, f5⟩ := hf it (by simp)
    refine wpAny_pyNext_list_item st p.isList (x := u) (by simpa using hu) fun h' st' sb => ?_
    have I1 : Inv X pins σ H { s with heap := h' } := I.turned (t' := s.toks) (fun b o hb e => (sb.2 b hb).trans e) f0 f1 f3 f4 f5
    obtain ⟨o, e, c, d⟩ := id st'
    exact ⟨u, rfl, go_of (s := { s with heap := h' }) e c d (by decide) ⟨x, H, I1, ru, ⟨rfl, fun ys hy => by rw [I.list_inj hy hq]; exact hx⟩, st', fun b hb => (hf b hb).1⟩⟩
  done := by
    intro X hP hw hK hc i pins s σ H E I hf st hg
    subst hP hw hK
    obtain ⟨xs, hq, hx⟩ := hg
    obtain ⟨its, rv, p, hz⟩ := I.list hq
    obtain ⟨f0, f1, f2, f3, f4, f5⟩ := hf it (by simp)
    have hl := rv.length
    exact wpAny_pyNext_list_end (I.ok.hd hc) st p.isList (by simp; omega) fun h' eb => ⟨rfl, I.turned (t' := s.toks) (fun b o hb e => eb b o hb e) f0 f1 f3 f4 f5⟩
  self := fun _ _ _ _ _ st h => wpAny_pyIter_listiter st h
theorem turn_tuple {P : Program} {w : World} {K : PySem.W.Frag} {tg : Expr} (a it : Addr) : Turn P w K tg (Itt K a) [it] it (fun i h => h.IsTupleIter it a i) where
  mem := by simp
  obj := fun i h st b hb => by
    have e : b = it := by simpa using hb
    subst e
    obtain ⟨o, e, c, d⟩ := st
    exact ⟨o, e, fun v z => by rw [d] at z; cases z⟩
  keep := fun i h h' st k => st.at fun o e => k it (by simp) o e
  item := by
    intro X hP hw hK hc i pins s σ H E I hf st hg
    subst hP hw hK
    obtain ⟨xs, x, hq, hx⟩ := hg
    obtain ⟨its, rv, p, hz⟩ := I.tuple hq
    obtain ⟨u, hu, ru⟩ := rv.get hx
    obtain ⟨f0, f1, f2, f3, f4, f5⟩ := hf it (by simp)
    refine wpAny_pyNext_tuple_item st (show s.heap.IsTuple a its.toArray from p) (x := u) (by simpa using hu) fun h' st' sb => ?_
    have I1 : Inv X pins σ H { s with heap := h' } := I.turned (t' := s.toks) (fun b o hb e => (sb.2 b hb).trans e) f0 f1 f3 f4 f5
    obtain ⟨o, e, c, d⟩ := id st'
    exact ⟨u, rfl, go_of (s := { s with heap := h' }) e c d (by decide) ⟨x, H, I1, ru, ⟨rfl, fun ys hy => by rw [I.tuple_inj hy hq]; exact hx⟩, st', fun b hb => (hf b hb).1⟩⟩
  done := by
    intro X hP hw hK hc i pins s σ H E I hf st hg
    subst hP hw hK
    obtain ⟨xs, hq, hx⟩ := hg
    obtain ⟨its, rv, p, hz⟩ := I.tuple hq
    obtain ⟨f0, f1, f2, f3, f4, f5⟩ := hf it (by simp)
    have hl := rv.length
    exact wpAny_pyNext_tuple_end (I.ok.hd hc) st (show s.heap.IsTuple a its.toArray from p) (by simp; omega) fun h' eb => ⟨rfl, I.turned (t' := s.toks) (fun b o hb e => eb b o hb e) f0 f1 f3 f4 f5⟩
  self := fun _ _ _ _ _ st h => wpAny_pyIter_tupleiter st h
theorem turn_range {P : Program} {w : World} {K : PySem.W.Frag} {tg : Expr} (it : Addr) (lo : Int) (n : Nat) : Turn P w K tg (Itr lo n) [it] it (fun i h => IsRangeIter h it (lo + (i : Nat) * 1) ((n : Int) - (i : Nat)) 1) where
  mem := by simp
  obj := fun i h st b hb => by
    have e : b = it := by simpa using hb
    subst e
    exact ⟨_, st, fun v z => by
      have z' : Data.fields _ = Data.cell v := z
      cases z'⟩
  keep := fun i h h' st k => k it (by simp) _ st
  item := by
    intro X hP hw hK hc i pins s σ H E I hf st hg
    subst hP hw hK
    obtain ⟨f0, f1, f2, f3, f4, f5⟩ := hf it (by simp)
    have W := Walks.range (prog := X.prog) (w := X.w) (I.ok.hd hc) it lo 1 n
    refine W.item i s _ _ hg st fun v h' tk hv st' kk => ?_
    obtain ⟨t, rfl⟩ := hv
    have I1 : Inv X pins σ H { s with heap := h', toks := tk } := I.turned (fun b o hb e => kk b o (by simpa using hb) e) f0 f1 f3 f4 f5
    refine ⟨_, rfl, go_of (s := { s with heap := h', toks := tk }) (n := "range_iterator") st' rfl rfl (by decide) ⟨.int (lo + i), H, I1, ⟨t, ?_⟩, ⟨rfl, rfl⟩, st', fun b hb => (hf b hb).1⟩⟩
    rw [Int.mul_one]
  done := by
    intro X hP hw hK hc i pins s σ H E I hf st hg
    subst hP hw hK
    obtain ⟨f0, f1, f2, f3, f4, f5⟩ := hf it (by simp)
    exact wpAny_pyNext_range_end (I.ok.hd hc) st (by have : n ≤ i := hg; omega) fun h' eb => ⟨rfl, I.turned (t' := s.toks) (fun b o hb e => eb b o hb e) f0 f1 f3 f4 f5⟩
  self := fun _ _ _ _ _ st h => wpAny_pyIter_rangeiter st h
end L2

namespace L2
open PySem PySem.Spec PyProof.Rows
section
variable {X : Cx} {tg : Expr}
def iList (K : PySem.W.Frag) (tl : TE) : TI := fun σ H R => tl σ H fun x H1 => ∃ a, x = .ref a ∧ (∃ xs, SqL K H1 a xs) ∧ R (Itl K a) H1
def iTup (K : PySem.W.Frag) (tl : TE) : TI := fun σ H R => tl σ H fun x H1 => ∃ a, x = .ref a ∧ (∃ xs, SqT K H1 a xs) ∧ R (Itt K a) H1
theorem pi_list {l : Expr} {tl : TE} (hl : PE X l tl) : PI X tg l (iList X.K tl) := by
  intro pins s σ H R I h
  refine thn (hl pins s σ H _ I h) fun v s1 ⟨x, H1, I1, r1, q1⟩ => ?_
  obtain ⟨a, e, ⟨xs, hq⟩, q⟩ := q1
  subst e
  cases r1
  obtain ⟨its, rv, p, hz⟩ := I1.list hq
  refine wpAny_pyIter_list p.isList ?_
  refine ⟨s1.heap.objs.size, [s1.heap.objs.size], _, _, H1, rfl, I1.kept (t' := s1.toks) fun b o e => Heap.get?_push_of_some _ e, turn_list a _, ⟨_, Heap.get?_push_size _ rfl, rfl, rfl⟩, fun b hb => ?_, q⟩
  have e : b = s1.heap.objs.size := by simpa using hb
  subst e
  exact I1.fpOk (Nat.le_refl _) (I1.hok.fresh (Nat.le_refl _))
theorem pi_tup {l : Expr} {tl : TE} (hl : PE X l tl) : PI X tg l (iTup X.K tl) := by
  intro pins s σ H R I h
  refine thn (hl pins s σ H _ I h) fun v s1 ⟨x, H1, I1, r1, q1⟩ => ?_
  obtain ⟨a, e, ⟨xs, hq⟩, q⟩ := q1
  subst e
  cases r1
  obtain ⟨its, rv, p, hz⟩ := I1.tuple hq
  refine wpAny_pyIter_tuple (show s1.heap.IsTuple a its.toArray from p) ?_
  refine ⟨s1.heap.objs.size, [s1.heap.objs.size], _, _, H1, rfl, I1.kept (t' := s1.toks) fun b o e => Heap.get?_push_of_some _ e, turn_tuple a _, ⟨_, Heap.get?_push_size _ rfl, rfl, rfl⟩, fun b hb => ?_, q⟩
  have e : b = s1.heap.objs.size := by simpa using hb
  subst e
  exact I1.fpOk (Nat.le_refl _) (I1.hok.fresh (Nat.le_refl _))
theorem range_it {pins : List (Addr × Obj)} {σ : St} {H : Hp} {s : Shared} {R : It → Hp → Prop} {E : Value → Shared → Prop} {lo hi : Int} {t u v : Tok} {tk : Nat} (I : Inv X pins σ H s) (h1 : -(2 ^ 62) ≤ lo) (h2 : lo < 2 ^ 62) (h3 : -(2 ^ 62) ≤ hi) (h4 : hi < 2 ^ 62)
    (q : R (Itr lo (hi - lo).toNat) H) : wpAny (model X.prog X.w) X.A (pyIter (.ref s.heap.objs.size)) (PIE X pins σ tg R) E { s with heap := s.heap.push { cls := .type "range", data := .fields #[.int lo t, .int hi u, .int 1 v] }, toks := tk } := by
  refine wpAny_pyIter_range (IsRange.new ..) (small_one h1 h2 h3 h4) ?_
  have I1 : Inv X pins σ H { s with heap := s.heap.push { cls := .type "range", data := .fields #[.int lo t, .int hi u, .int 1 v] }, toks := tk } := I.kept fun b o e => Heap.get?_push_of_some _ e
  refine ⟨(s.heap.push { cls := .type "range", data := .fields #[.int lo t, .int hi u, .int 1 v] }).objs.size, [(s.heap.push { cls := .type "range", data := .fields #[.int lo t, .int hi u, .int 1 v] }).objs.size], _, _, H, rfl,
    I1.kept (t' := tk) fun b o e => Heap.get?_push_of_some _ e, turn_range _ lo (hi - lo).toNat, ?_, fun b hb => ?_, q⟩
  · have e1 : lo + ((0 : Nat) : Int) * 1 = lo := by simp
    have e2 : (((hi - lo).toNat : Nat) : Int) - ((0 : Nat) : Int) = Builtin.Range.rangeSize lo hi 1 := by rw [rangeSize_one]; split <;> omega
    show IsRangeIter _ _ (lo + ((0 : Nat) : Int) * 1) ((((hi - lo).toNat : Nat) : Int) - ((0 : Nat) : Int)) 1
    rw [e1, e2]
    exact Heap.get?_push_size _ rfl
  · have e : b = (s.heap.push { cls := .type "range", data := .fields #[.int lo t, .int hi u, .int 1 v] }).objs.size := by simpa using hb
    subst e
    exact I1.fpOk (Nat.le_refl _) (I1.hok.fresh (Nat.le_refl _))
def iRng1 (ta : TA) : TI := fun σ H R => ta σ H fun vs H1 => ∃ j : Int, vs = [.int j] ∧ -(2 ^ 62) ≤ j ∧ j < 2 ^ 62 ∧ R (Itr 0 j.toNat) H1
theorem pi_range1 {a : Expr} {ta : TA} {p pos : Pos} (hg : Gl X "range") (hm : X.mg "range" = none) (ha : PA X [a] ta) (hs : starEach [a] X.env = [(false, eval a X.env)] := by rfl) : PI X tg (.Call (.Name "range" p) [a] [] pos) (iRng1 ta) := by
  intro pins s σ H R I h
  refine Call_ (ld_blt I hg hm boot_range (PyProof.Rows.callWith_type1 (thn (ha pos pins s σ H _ I h) fun us s1 ⟨vs, H1, I1, r1, q1⟩ => ?_) hs rfl))
  obtain ⟨j, e, q1, q2, q⟩ := q1
  subst e
  cases r1 with
  | cons r rr =>
    cases rr
    obtain ⟨t, rfl⟩ := r
    exact call_range_1 (range_it I1 (by omega) (by omega) q1 q2 (by simpa using q))

def tFor (wi : TI) (g : TG) (tb : TS) : TS := fun D σ H => wi σ H fun J H1 => ∃ W : Nat → Nat → St → Hp → Prop, (∃ m, W 0 m σ H1) ∧ ∀ i m σ H, W i m σ H →
  (J.stop i H ∧ D.nx σ H) ∨ (J.go i H ∧ ∃ N : St → Hp → Prop, (∀ σ' H', N σ' H' → ∃ m', m' < m ∧ W (i + 1) m' σ' H') ∧ ∀ x H', J.yld i H x H' → g x σ H' fun σ2 H2 => tb { D with nx := N, ct := N, bk := D.nx } σ2 H2)
def pinsAt (fp : List Addr) (h : Heap) : List (Addr × Obj) := fp.filterMap fun b => (h.get? b).map fun o => (b, o)
theorem mem_pinsAt {fp : List Addr} {h : Heap} {b : Addr} {o : Obj} (hb : b ∈ fp) (e : h.get? b = some o) : (b, o) ∈ pinsAt fp h := List.mem_filterMap.mpr ⟨b, hb, by rw [e]; rfl⟩
theorem of_pinsAt {fp : List Addr} {h : Heap} {p : Addr × Obj} (hp : p ∈ pinsAt fp h) : p.1 ∈ fp ∧ h.get? p.1 = some p.2 := by
  obtain ⟨b, hb, e⟩ := List.mem_filterMap.mp hp
  cases q : h.get? b with
  | none => rw [q] at e; cases e
  | some o =>
    rw [q] at e
    have e' : (b, o) = p := Option.some.inj e
    subst e'
    exact ⟨hb, q⟩
theorem Inv.pinned {pins : List (Addr × Obj)} {σ : St} {H : Hp} {s : Shared} {fp : List Addr} (I : Inv X pins σ H s) (hf : ∀ b ∈ fp, FpOk X pins H b) (ho : ∀ b ∈ fp, ∃ o, s.heap.get? b = some o ∧ ∀ v, o.data ≠ .cell v) : Inv X (pins ++ pinsAt fp s.heap) σ H s :=
  I.pins_of fun p hp => (List.mem_append.mp hp).elim (fun z => I.pin p (List.mem_append_right _ z)) fun z => by
    obtain ⟨hb, e⟩ := of_pinsAt z
    obtain ⟨f0, f1, f2, _⟩ := hf p.1 hb
    obtain ⟨o, e', d⟩ := ho p.1 hb
    rw [e] at e'; cases e'
    exact ⟨e, f0, f1, f2, d⟩
theorem Inv.unpinned {pins pl : List (Addr × Obj)} {σ : St} {H : Hp} {s : Shared} (I : Inv X (pins ++ pl) σ H s) : Inv X pins σ H s := I.pins_of fun p hp => I.pin p (List.mem_append_right _ (List.mem_append_left _ hp))
theorem ps_for {iter : Expr} {body : List Stmt} {wi : TI} {g : TG} {tb : TS} {pos : Pos} (hp : PassesOwn (model X.prog X.w) X.A X.env X.xe) (hc : X.calm = true) (hi : PI X tg iter wi) (hg : PG X tg g) (hb : PSs X body tb)
    (hs : ∀ x, foldedSetIterable iter X.env x = pure x := by intro _; rfl) : PS X (.For tg iter body [] pos) (tFor wi g tb) := by
  intro pins s σ H D I h
  refine wpAny_For (thn (hi pins s σ H _ I h) fun v s1 h1 => thn h1 fun itv s2 h2 => ?_) hs
  obtain ⟨it, fp, tn, J, H2, e, I2, T, st2, f2, W, ⟨m0, w0⟩, turn⟩ := h2
  subst e
  -- what stays true of the iterator's objects through the loop
  have stat : ∀ {H' : Hp}, (∀ b ∈ fp, H' b = none) → ∀ b ∈ fp, FpOk X pins H' b := fun hn b hb => ⟨hn b hb, (f2 b hb).2⟩
  refine codeAny_forLoop_any (fun n s' => ∃ i σ' H', Inv X pins σ' H' s' ∧ tn i s'.heap ∧ (∀ b ∈ fp, H' b = none) ∧ W i n σ' H') ?_ m0 ⟨0, σ, H2, I2, st2, fun b hb => (f2 b hb).1, w0⟩
  rintro n s3 ⟨i, σ3, H3, I3, st3, fr3, w3⟩
  rcases turn i n σ3 H3 w3 with ⟨stop, qn⟩ | ⟨go, N, hN, step⟩
  · refine wpAny_passesOwn hp (thn (T.done X rfl rfl rfl hc i pins s3 σ3 H3 X.xe I3 (stat fr3) st3 stop) fun r s4 ⟨hr, I4⟩ => ?_)
    subst hr
    exact wpAny_execs_nil ⟨σ3, H3, I4, qn⟩
  · refine wpAny_passesOwn hp (thn (T.item X rfl rfl rfl hc i pins s3 σ3 H3 X.xe I3 (stat fr3) st3 go) fun r s4 ⟨u, hr, h4⟩ => ?_)
    subst hr
    refine wpAny_passesOwn hp (thn h4 fun _ s5 ⟨x, H5, I5, r5, y5, st5, fr5⟩ => ?_)
    have I5' := I5.pinned (stat fr5) (T.obj _ _ st5)
    refine wpAny_passesOwn hp (thn (hg _ s5 σ3 H5 x u _ I5' r5 (step x H5 y5)) fun _ s6 ⟨σ6, H6, I6, q6⟩ => ?_)
    refine wpAny_passesOwn hp (thn (hb _ s6 σ6 H6 _ I6 q6) fun f s7 q7 => ?_)
    have again : ∀ {σ7 : St} {H7 : Hp}, Inv X (pins ++ pinsAt fp s5.heap) σ7 H7 s7 → N σ7 H7 → ∃ m, m < n ∧ ∃ i σ' H', Inv X pins σ' H' s7 ∧ tn i s7.heap ∧ (∀ b ∈ fp, H' b = none) ∧ W i m σ' H' := fun {σ7 H7} I7 n7 => by
      obtain ⟨m', hm, w7⟩ := hN σ7 H7 n7
      refine ⟨m', hm, i + 1, σ7, H7, I7.unpinned, T.keep _ _ _ st5 fun b hb o e => (I7.pin (b, o) (List.mem_append_right _ (List.mem_append_right _ (mem_pinsAt hb e)))).1, fun b hb => ?_, w7⟩
      obtain ⟨o, e, d⟩ := T.obj _ _ st5 b hb
      exact (I7.pin (b, o) (List.mem_append_right _ (List.mem_append_right _ (mem_pinsAt hb e)))).2.1
    cases f with
    | next => obtain ⟨σ7, H7, I7, n7⟩ := q7; exact again I7 n7
    | cont => obtain ⟨σ7, H7, I7, n7⟩ := q7; exact again I7 n7
    | brk => obtain ⟨σ7, H7, I7, q7⟩ := q7; exact ⟨σ7, H7, I7.unpinned, q7⟩
    | ret v => obtain ⟨x7, σ7, H7, I7, r7, q7⟩ := q7; exact ⟨x7, σ7, H7, I7.unpinned, r7, q7⟩
end

theorem for_list {K : PySem.W.Frag} {a : Addr} {xs : List V} {g : TG} {tb : TS} {D : Ends} {σ : St} {H : Hp} (Pv : Nat → St → Hp → Prop) (h0 : Pv 0 σ H) (hl : ∀ i σ H, i ≤ xs.length → Pv i σ H → SqL K H a xs)
    (hs : ∀ i x σ H, xs[i]? = some x → Pv i σ H → g x σ H fun σ2 H2 => tb { D with nx := Pv (i + 1), ct := Pv (i + 1), bk := D.nx } σ2 H2) (hd : ∀ σ H, Pv xs.length σ H → D.nx σ H) :
    ∃ W : Nat → Nat → St → Hp → Prop, (∃ m, W 0 m σ H) ∧ ∀ i m σ H, W i m σ H →
      ((Itl K a).stop i H ∧ D.nx σ H) ∨ ((Itl K a).go i H ∧ ∃ N : St → Hp → Prop, (∀ σ' H', N σ' H' → ∃ m', m' < m ∧ W (i + 1) m' σ' H') ∧ ∀ x H', (Itl K a).yld i H x H' → g x σ H' fun σ2 H2 => tb { D with nx := N, ct := N, bk := D.nx } σ2 H2) := by
  refine ⟨fun i m σ H => m = xs.length - i ∧ i ≤ xs.length ∧ Pv i σ H, ⟨xs.length, by simp, Nat.zero_le _, h0⟩, ?_⟩
  rintro i m σ H ⟨rfl, hi, p⟩
  have q := hl i σ H hi p
  by_cases hlt : i < xs.length
  · refine .inr ⟨⟨xs, xs[i], q, by simp [hlt]⟩, Pv (i + 1), fun σ' H' p' => ⟨xs.length - (i + 1), by omega, rfl, hlt, p'⟩, fun x H' y => ?_⟩
    obtain ⟨e, y⟩ := y
    subst e
    exact hs i x σ _ (y xs q) p
  · have e : i = xs.length := by omega
    subst e
    exact .inl ⟨⟨xs, q, Nat.le_refl _⟩, hd σ H p⟩
theorem for_range {lo : Int} {n : Nat} {g : TG} {tb : TS} {D : Ends} {σ : St} {H : Hp} (Pv : Nat → St → Hp → Prop) (h0 : Pv 0 σ H)
    (hs : ∀ i σ H, i < n → Pv i σ H → g (.int (lo + i)) σ H fun σ2 H2 => tb { D with nx := Pv (i + 1), ct := Pv (i + 1), bk := D.nx } σ2 H2) (hd : ∀ σ H, Pv n σ H → D.nx σ H) :
    ∃ W : Nat → Nat → St → Hp → Prop, (∃ m, W 0 m σ H) ∧ ∀ i m σ H, W i m σ H →
      ((Itr lo n).stop i H ∧ D.nx σ H) ∨ ((Itr lo n).go i H ∧ ∃ N : St → Hp → Prop, (∀ σ' H', N σ' H' → ∃ m', m' < m ∧ W (i + 1) m' σ' H') ∧ ∀ x H', (Itr lo n).yld i H x H' → g x σ H' fun σ2 H2 => tb { D with nx := N, ct := N, bk := D.nx } σ2 H2) := by
  refine ⟨fun i m σ H => m = n - i ∧ i ≤ n ∧ Pv i σ H, ⟨n, by simp, Nat.zero_le _, h0⟩, ?_⟩
  rintro i m σ H ⟨rfl, hi, p⟩
  by_cases hlt : i < n
  · refine .inr ⟨hlt, Pv (i + 1), fun σ' H' p' => ⟨n - (i + 1), by omega, rfl, hlt, p'⟩, fun x H' y => ?_⟩
    obtain ⟨e, y⟩ := y
    subst e y
    exact hs i σ _ hlt p
  · have e : i = n := by omega
    subst e
    exact .inl ⟨Nat.le_refl _, hd σ H p⟩
end L2

namespace L2
open PySem PySem.Spec PyProof.Rows

abbrev R2 := V → V → Hp → VK → Prop
def OpR (X : Cx) (f : Value → Value → Sem Value) (r : R2) : Prop :=
  ∀ (pins : List (Addr × Obj)) (s : Shared) (σ : St) (H : Hp) (x y : V) (v u : Value) (Q : VK), Inv X pins σ H s → RelV x v → RelV y u → r x y H Q →
    wpAny (model X.prog X.w) X.A (f v u) (EP X pins σ Q) X.xe s
def UnR (X : Cx) (f : Value → Sem Value) (r : V → Hp → VK → Prop) : Prop :=
  ∀ (pins : List (Addr × Obj)) (s : Shared) (σ : St) (H : Hp) (x : V) (v : Value) (Q : VK), Inv X pins σ H s → RelV x v → r x H Q →
    wpAny (model X.prog X.w) X.A (f v) (EP X pins σ Q) X.xe s
def CallR (X : Cx) (f : Value) (r : List V → Hp → VK → Prop) : Prop :=
  ∀ (pins : List (Addr × Obj)) (s : Shared) (σ : St) (H : Hp) (xs : List V) (us : List Value) (Q : VK), Inv X pins σ H s → Vals xs us → r xs H Q →
    wpAny (model X.prog X.w) X.A (call f us) (EP X pins σ Q) X.xe s

def tOp (r : R2) (ta tb : TE) : TE := fun σ H Q => ta σ H fun x H1 => tb σ H1 fun y H2 => r x y H2 Q
def tUn (r : V → Hp → VK → Prop) (ta : TE) : TE := fun σ H Q => ta σ H fun x H1 => r x H1 Q
def rI (C : Int → Int → Prop) (g : Int → Int → V) : R2 := fun x y H Q => ∃ i j, x = .int i ∧ y = .int j ∧ C i j ∧ Q (g i j) H
def rI0 (g : Int → Int → V) : R2 := fun x y H Q => ∃ i j, x = .int i ∧ y = .int j ∧ Q (g i j) H
def rU (g : Int → V) : V → Hp → VK → Prop := fun x H Q => ∃ i, x = .int i ∧ Q (g i) H

section
variable {X : Cx} {a b c : Expr} {ta tb tc : TE} {pos : Pos}

theorem binT (ha : PE X a ta) (hb : PE X b tb) {pins : List (Addr × Obj)} {s : Shared} {σ : St} {H : Hp} {R : V → V → Hp → Prop} (I : Inv X pins σ H s)
    (h : ta σ H fun x H1 => tb σ H1 fun y H2 => R x y H2) {Q : Value → Shared → Prop} {f : Value → Value → Sem Value}
    (hf : ∀ v u s2 x y H2, Inv X pins σ H2 s2 → RelV x v → RelV y u → R x y H2 → wpAny (model X.prog X.w) X.A (f v u) Q X.xe s2) :
    wpAny (model X.prog X.w) X.A (eval a X.env) (fun v s₁ => wpAny (model X.prog X.w) X.A (eval b X.env) (fun u s₂ => wpAny (model X.prog X.w) X.A (f v u) Q X.xe s₂) X.xe s₁) X.xe s := by
  refine thn (ha pins s σ H _ I h) fun v s1 ⟨x, H1, I1, r1, q1⟩ => ?_
  refine thn (hb pins s1 σ H1 _ I1 q1) fun u s2 ⟨y, H2, I2, r2, q2⟩ => ?_
  exact hf v u s2 x y H2 I2 r1 r2 q2

theorem pe_op {op : Operator} {r : R2} (ho : OpR X (binaryOp op) r) (ha : PE X a ta) (hb : PE X b tb) : PE X (.BinOp a op b pos) (tOp r ta tb) := by
  intro pins s σ H Q I h
  exact wpAny_BinOp (binT ha hb I h fun v u s2 x y H2 I2 rx ry q => ho pins s2 σ H2 x y v u Q I2 rx ry q)
theorem pe_un {op : UnaryOp} {r : V → Hp → VK → Prop} (ho : UnR X (unaryOp op) r) (ha : PE X a ta) : PE X (.UnaryOp op a pos) (tUn r ta) := by
  intro pins s σ H Q I h
  exact UnaryOp_ (thn (ha pins s σ H _ I h) fun v s1 ⟨x, H1, I1, r1, q1⟩ => ho pins s1 σ H1 x v Q I1 r1 q1)

theorem opI {f : Value → Value → Sem Value} {C : Int → Int → Prop} {g : Int → Int → Int}
    (rule : ∀ (i j : Int) (t u : Tok) (s : Shared) (Q : Value → Shared → Prop) (E : Value → Shared → Prop), C i j → Q (.int (g i j) s.toks) { s with toks := s.toks + 1 } → wpAny (model X.prog X.w) X.A (f (.int i t) (.int j u)) Q E s) :
    OpR X f (rI C fun i j => .int (g i j)) := by
  intro pins s σ H x y v u Q I rx ry h
  obtain ⟨i, j, rfl, rfl, hc, q⟩ := h
  obtain ⟨t, rfl⟩ := rx
  obtain ⟨t', rfl⟩ := ry
  exact rule i j t t' s _ _ hc ⟨.int (g i j), H, I.tok _, ⟨_, rfl⟩, q⟩
theorem opI0 {f : Value → Value → Sem Value} {g : Int → Int → Int}
    (rule : ∀ (i j : Int) (t u : Tok) (s : Shared) (Q : Value → Shared → Prop) (E : Value → Shared → Prop), Q (.int (g i j) s.toks) { s with toks := s.toks + 1 } → wpAny (model X.prog X.w) X.A (f (.int i t) (.int j u)) Q E s) :
    OpR X f (rI0 fun i j => .int (g i j)) := by
  intro pins s σ H x y v u Q I rx ry h
  obtain ⟨i, j, rfl, rfl, q⟩ := h
  obtain ⟨t, rfl⟩ := rx
  obtain ⟨t', rfl⟩ := ry
  exact rule i j t t' s _ _ ⟨.int (g i j), H, I.tok _, ⟨_, rfl⟩, q⟩
theorem opB0 {f : Value → Value → Sem Value} {g : Int → Int → Bool}
    (rule : ∀ (i j : Int) (t u : Tok) (s : Shared) (Q : Value → Shared → Prop) (E : Value → Shared → Prop), Q (.bool (g i j)) s → wpAny (model X.prog X.w) X.A (f (.int i t) (.int j u)) Q E s) :
    OpR X f (rI0 fun i j => .bl (g i j)) := by
  intro pins s σ H x y v u Q I rx ry h
  obtain ⟨i, j, rfl, rfl, q⟩ := h
  obtain ⟨t, rfl⟩ := rx
  obtain ⟨t', rfl⟩ := ry
  exact rule i j t t' s _ _ ⟨.bl (g i j), H, I, rfl, q⟩

def CPow (i j : Int) : Prop := 0 ≤ j ∧ j ≤ 1000000 ∧ i.natAbs < 2 ^ 64
def CMul (i j : Int) : Prop := (-(2 ^ 64) < i ∧ i < 2 ^ 64) ∨ (-(2 ^ 64) < j ∧ j < 2 ^ 64)
theorem CMul.ok {i j : Int} (h : CMul i j) : IntMulOk i j := by
  rcases h with ⟨h1, h2⟩ | ⟨h1, h2⟩
  · exact .of_left (intBits_le_64 h1 h2)
  · exact .of_right (intBits_le_64 h1 h2)

theorem op_add : OpR X (binaryOp .Add) (rI0 fun i j => .int (i + j)) := opI0 fun _ _ _ _ _ _ _ q => add_int q
theorem op_sub : OpR X (binaryOp .Sub) (rI0 fun i j => .int (i - j)) := opI0 fun _ _ _ _ _ _ _ q => sub_int q
theorem op_mul : OpR X (binaryOp .Mult) (rI CMul fun i j => .int (i * j)) := opI fun _ _ _ _ _ _ _ hc q => mul_int q hc.ok
theorem op_modN : OpR X (binaryOp .Mod) (rI (fun _ j => j ≠ 0) fun i j => .int (i.fmod j)) := opI fun _ _ _ _ _ _ _ hc q => mod_int' hc q
theorem op_pow : OpR X (binaryOp .Pow) (rI CPow fun i j => .int (i ^ j.toNat)) := opI fun _ _ _ _ _ _ _ hc q => pow_int_small hc.1 hc.2.1 hc.2.2 q


theorem unI {f : Value → Sem Value} {g : Int → Int}
    (rule : ∀ (i : Int) (t : Tok) (s : Shared) (Q : Value → Shared → Prop) (E : Value → Shared → Prop), Q (.int (g i) s.toks) { s with toks := s.toks + 1 } → wpAny (model X.prog X.w) X.A (f (.int i t)) Q E s) :
    UnR X f (rU fun i => .int (g i)) := by
  intro pins s σ H x v Q I rx h
  obtain ⟨i, rfl, q⟩ := h
  obtain ⟨t, rfl⟩ := rx
  exact rule i t s _ _ ⟨.int (g i), H, I.tok _, ⟨_, rfl⟩, q⟩
theorem un_neg : UnR X (unaryOp .USub) (rU fun i => .int (-i)) := unI fun _ _ _ _ _ q => neg_int q

end

def scal : V → V → Bool
  | .non, .non => true | .non, .int _ => true | .int _, .non => true | .non, .bl _ => true | .bl _, .non => true | .non, .str _ => true | .str _, .non => true
  | .int _, .int _ => true | .bl _, .bl _ => true | .str _, .str _ => true | .byt _, .byt _ => true
  | .int _, .str _ => true | .str _, .int _ => true | .bl _, .str _ => true | .str _, .bl _ => true
  | _, _ => false
def rEq : R2 := fun x y H Q => scal x y = true ∧ Q (.bl (decide (x = y))) H

theorem dec_int {i j : Int} : decide (V.int i = V.int j) = (i == j) := by
  rw [Bool.eq_iff_iff]
  simp
theorem dec_bl {i j : Bool} : decide (V.bl i = V.bl j) = (i == j) := by
  rw [Bool.eq_iff_iff]
  simp
theorem dec_str {i j : Str} : decide (V.str i = V.str j) = (i == j) := by
  rw [Bool.eq_iff_iff]
  simp
theorem dec_byt {i j : Array UInt8} : decide (V.byt i = V.byt j) = (i.toList == j.toList) := by
  rw [Bool.eq_iff_iff]
  cases i
  cases j
  simp

section
variable {X : Cx} {a b c : Expr} {ta tb tc : TE} {pos : Pos}
theorem fin_bl {pins : List (Addr × Obj)} {σ : St} {H : Hp} {s : Shared} {Q : VK} {k k' : Bool} (I : Inv X pins σ H s) (q : Q (.bl k) H) (e : k = k') : EP X pins σ Q (.bool k') s := by
  subst e
  exact ⟨.bl k, H, I, rfl, q⟩
theorem op_eq : OpR X (compareOp .Eq) rEq := by
  intro pins s σ H x y v u Q I rx ry h
  obtain ⟨hs, q⟩ := h
  cases x with
  | non =>
    cases rx
    cases y with
    | non => cases ry; exact PySem.EqNone.eq_none_none (fin_bl I q (by simp))
    | bl j => cases ry; exact PySem.EqNone.eq_none_bool (fin_bl I q (by simp))
    | int j => obtain ⟨t', rfl⟩ := ry; exact PySem.EqNone.eq_none_int (fin_bl I q (by simp))
    | str j => obtain ⟨t', rfl⟩ := ry; exact PySem.EqNone.eq_none_str (fin_bl I q (by simp))
    | _ => exact absurd (show false = true from hs) Bool.false_ne_true
  | bl i =>
    cases rx
    cases y with
    | non => cases ry; exact PySem.EqNone.eq_bool_none (fin_bl I q (by simp))
    | bl j => cases ry; exact eq_bool (fin_bl I q dec_bl)
    | str j => obtain ⟨t', rfl⟩ := ry; exact PySem.EqMixed.eq_bool_str (fin_bl I q (by simp))
    | _ => exact absurd (show false = true from hs) Bool.false_ne_true
  | int i =>
    obtain ⟨t, rfl⟩ := rx
    cases y with
    | non => cases ry; exact PySem.EqNone.eq_int_none (fin_bl I q (by simp))
    | int j => obtain ⟨t', rfl⟩ := ry; exact eq_int (fin_bl I q dec_int)
    | str j => obtain ⟨t', rfl⟩ := ry; exact PySem.EqMixed.eq_int_str (fin_bl I q (by simp))
    | _ => exact absurd (show false = true from hs) Bool.false_ne_true
  | str i =>
    obtain ⟨t, rfl⟩ := rx
    cases y with
    | non => cases ry; exact PySem.EqNone.eq_str_none (fin_bl I q (by simp))
    | bl j => cases ry; exact PySem.EqMixed.eq_str_bool (fin_bl I q (by simp))
    | int j => obtain ⟨t', rfl⟩ := ry; exact PySem.EqMixed.eq_str_int (fin_bl I q (by simp))
    | str j => obtain ⟨t', rfl⟩ := ry; exact eq_str (fin_bl I q dec_str)
    | _ => exact absurd (show false = true from hs) Bool.false_ne_true
  | byt i =>
    obtain ⟨t, rfl⟩ := rx
    cases y with
    | byt j => obtain ⟨t', rfl⟩ := ry; exact PySem.W.eq_bytes (fin_bl I q dec_byt)
    | _ => exact absurd (show false = true from hs) Bool.false_ne_true
  | _ => cases y <;> exact absurd (show false = true from hs) Bool.false_ne_true

theorem op_lt : OpR X (compareOp .Lt) (rI0 fun i j => .bl (decide (i < j))) := opB0 fun _ _ _ _ _ _ _ q => lt_int q
theorem op_le : OpR X (compareOp .LtE) (rI0 fun i j => .bl (decide (i ≤ j))) := opB0 fun _ _ _ _ _ _ _ q => le_int q
theorem op_gt : OpR X (compareOp .Gt) (rI0 fun i j => .bl (decide (j < i))) := opB0 fun _ _ _ _ _ _ _ q => gt_int q

theorem op_isN : OpR X (compareOp .Is) (fun x y H Q => y = .non ∧ Q (.bl (decide (x = .non))) H) := by
  intro pins s σ H x y v u Q I rx ry h
  obtain ⟨rfl, q⟩ := h
  cases ry
  refine is_none_gen (fin_bl I q ?_)
  cases x <;> first
    | (cases rx; rfl)
    | (obtain ⟨t, rfl⟩ := rx; rfl)
theorem op_notN : OpR X (compareOp .IsNot) (fun x y H Q => y = .non ∧ Q (.bl (!decide (x = .non))) H) := by
  intro pins s σ H x y v u Q I rx ry h
  obtain ⟨rfl, q⟩ := h
  cases ry
  refine isnot_none_gen (fin_bl I q ?_)
  cases x <;> first
    | (cases rx; rfl)
    | (obtain ⟨t, rfl⟩ := rx; rfl)


theorem OpR.or {f : Value → Value → Sem Value} {r r' : R2} (h : OpR X f r) (h' : OpR X f r') : OpR X f (fun x y H Q => r x y H Q ∨ r' x y H Q) := by
  intro pins s σ H x y v u Q I rx ry q
  rcases q with q | q
  · exact h pins s σ H x y v u Q I rx ry q
  · exact h' pins s σ H x y v u Q I rx ry q

theorem nomark (b : Expr) {op : CmpOp} (h : op ≠ .In := by decide) (h2 : op ≠ .NotIn := by decide) : behindInMarks op b = false := by
  have e1 : (op == CmpOp.In) = false := by cases op <;> first | rfl | exact absurd rfl h
  have e2 : (op == CmpOp.NotIn) = false := by cases op <;> first | rfl | exact absurd rfl h2
  cases b <;> simp [behindInMarks, e1, e2]
theorem pe_cmpR {op : CmpOp} {r : R2} (ho : OpR X (compareOp op) r) (ha : PE X a ta) (hb : PE X b tb) (hm : behindInMarks op b = false) : PE X (.Compare a [op] [b] pos) (tOp r ta tb) := by
  intro pins s σ H Q I h
  exact wpAny_Compare1 (binT ha hb I h fun v u s2 x y H2 I2 rx ry q => ho pins s2 σ H2 x y v u Q I2 rx ry q) hm
def tTest (t : TE) : TT := fun σ H Q => t σ H fun x H' => ∃ k, x = .bl k ∧ Q k H'
theorem pt_cmpR {op : CmpOp} {r : R2} (ho : OpR X (compareOp op) r) (ha : PE X a ta) (hb : PE X b tb) (hm : behindInMarks op b = false) : PT X (.Compare a [op] [b] pos) (tTest (tOp r ta tb)) := by
  intro pins s σ H Q I h
  refine wpAny_isTrue_Compare1 (thn (ha pins s σ H _ I h) fun v s1 ⟨x, H1, I1, r1, q1⟩ => thn (hb pins s1 σ H1 _ I1 q1) fun u s2 ⟨y, H2, I2, r2, q2⟩ =>
    thn (ho pins s2 σ H2 x y v u _ I2 r1 r2 q2) fun c s3 ⟨z, H3, I3, r3, k, e, q3⟩ => ?_) hm
  subst e
  cases r3
  exact wpAny_truthy_bool ⟨H3, I3, q3⟩

theorem line63 : (sizeLine : Nat) < 2 ^ 63 := by rw [sizeLine_eq]; decide



theorem vals1 {x : V} {us : List Value} (r : Vals [x] us) : ∃ u, us = [u] ∧ RelV x u := by
  cases r with
  | cons r1 r2 => cases r2; exact ⟨_, rfl, r1⟩
def LenV (K : PySem.W.Frag) (x : V) (H : Hp) (n : Nat) : Prop :=
  match x with
  | .str y => y.length ≤ sizeLine ∧ n = y.length
  | .byt y => y.size ≤ sizeLine ∧ n = y.size
  | .ref p => (∃ xs, SqL K H p xs ∧ n = xs.length) ∨ ∃ xs, SqT K H p xs ∧ n = xs.length
  | _ => False
theorem call_len : CallR X (.builtin "len") (fun xs H Q => ∃ x n, xs = [x] ∧ LenV X.K x H n ∧ Q (.int n) H) := by
  intro pins s σ H xs us Q I r h
  obtain ⟨x, n, rfl, e, q⟩ := h
  obtain ⟨u, rfl, rx⟩ := vals1 r
  have hl := line63
  have hs : sizeLine = 16777216 := sizeLine_eq
  cases x with
  | str y =>
    obtain ⟨t, rfl⟩ := rx
    obtain ⟨hy, e'⟩ : y.length ≤ sizeLine ∧ n = y.length := e
    subst e'
    exact len_str (by omega) ⟨.int _, H, I.tok _, ⟨_, rfl⟩, q⟩
  | byt y =>
    obtain ⟨t, rfl⟩ := rx
    obtain ⟨hy, e'⟩ : y.size ≤ sizeLine ∧ n = y.size := e
    subst e'
    exact PySem.W.len_bytes (by omega) ⟨.int _, H, I.tok _, ⟨_, rfl⟩, q⟩
  | ref p =>
    cases rx
    have e' : (∃ xs, SqL X.K H p xs ∧ n = xs.length) ∨ ∃ xs, SqT X.K H p xs ∧ n = xs.length := e
    rcases e' with ⟨xs, hx, e'⟩ | ⟨xs, hx, e'⟩
    · subst e'
      obtain ⟨its, r', pl, hz⟩ := I.list hx
      have hlen := r'.length
      exact Calls.call_len_list pl.isList (by simp only [List.size_toArray]; omega) ⟨.int xs.length, H, I.tok _, ⟨_, by simp only [List.size_toArray]; rw [hlen]⟩, q⟩
    · subst e'
      obtain ⟨its, r', pl, hz⟩ := I.tuple hx
      have hlen := r'.length
      exact len_tuple pl (by simp only [List.size_toArray]; omega) ⟨.int xs.length, H, I.tok _, ⟨_, by simp only [List.size_toArray]; rw [hlen]⟩, q⟩
  | _ => exact (show False from e).elim
end
end L2

namespace L2
open PySem PySem.Spec PyProof.Rows

structure ObjM (h : Heap) (x dx C : Addr) (mA : Str → Option Value) : Prop where
  obj : h.get? x = some (PySem.W.instObj C dx)
  ns : h.Ns1 dx mA
  ne : dx ≠ x

theorem lookIn_ns {h : Heap} {dx : Addr} {mA : Str → Option Value} (n : h.Ns1 dx mA) : ∃ od, h.get? dx = some od ∧ ∀ name, PySem.W.lookIn name od = some (mA name) := by
  obtain ⟨o, es, ep, ho, hd, hk, _, hm⟩ := n
  refine ⟨o, ho, fun name => ?_⟩
  have e := hm name
  unfold nsFind findBy at e
  rw [← Array.find?_toList] at e
  unfold PySem.W.lookIn
  rw [hd]
  dsimp only
  split
  · rename_i y q
    rw [q] at e
    exact congrArg some e
  · rename_i q
    rw [q] at e
    have a : es.toList.any (·.refKey) = false := by
      rw [List.any_eq_false]
      intro y hy
      obtain ⟨z, t, hkey⟩ := hk y (Array.mem_toList_iff.mp hy)
      simp [DictEntry.refKey, hkey]
    have a' : ¬ es.toList.any (·.refKey) = true := by rw [a]; exact Bool.false_ne_true
    rw [if_neg a']
    exact congrArg some e

theorem ObjM.look {h : Heap} {x dx C : Addr} {mA : Str → Option Value} (I : ObjM h x dx C mA) : ∃ od, PySem.W.InstAt h x (PySem.W.instObj C dx) C (some od) ∧ ∀ name, PySem.W.lookIn name od = some (mA name) :=
  let ⟨od, ho, hl⟩ := lookIn_ns I.ns
  ⟨od, ⟨I.obj, rfl, rfl, ho⟩, hl⟩

section
variable {prog : Program} {w : World} {A : Around} {E : Value → Shared → Prop} {s : Shared} {K : PySem.W.Frag} {x dx C f : Addr} {mA : Str → Option Value} {name : Str} {v : Value}

theorem get_map {expr : Bool} {Q : Value → Shared → Prop} (X : K.In s.heap) (I : ObjM s.heap x dx C mA) (hg : PySem.W.plainGet K C name = true) (hh : PySem.W.hasDictIn K C = true)
    (ha : PySem.W.findIn K (.ref C) name = some none) (hv : mA name = some v) (hv' : PySem.W.handedIn v = true) (h : Q v { s with toks := s.toks + 1 }) :
    wpAny (model prog w) A (getAttr (.ref x) name expr) Q E s := by
  obtain ⟨od, J, hl⟩ := I.look
  exact PySem.W.get_value X J (PySem.W.plainGet_of hg).1 (PySem.W.findObj_own hh ha rfl (by rw [hl, hv])) hv' h


theorem get_meth {pl : Sem Bool} {Q : Value × List Value → Shared → Prop} (X : K.In s.heap) (I : ObjM s.heap x dx C mA) (hg : PySem.W.plainGet K C name = true)
    (hf : PySem.W.findIn K (.ref C) name = some (some (.ref f))) (ht : PySem.W.isFn K (.ref f) = true) (hv : mA name = none) (h : Q (.ref f, [.ref x]) s) :
    wpAny (model prog w) A (getMethod (.ref x) name pl) Q E s := by
  obtain ⟨od, J, hl⟩ := I.look
  exact PySem.W.method_fn X J (PySem.W.plainGet_of hg).1 (PySem.W.plainGet_of hg).2 hf (beq_iff_eq.mp ht) (by show (PySem.W.lookIn name od).map (·.isSome) = some false; rw [hl, hv]; rfl) h

theorem set_map {ns : List Str} {Q : Unit → Shared → Prop} (X : K.In s.heap) (I : ObjM s.heap x dx C mA)
    (hs : PySem.W.findIn K (.ref C) "__setattr__" = some (some (.builtin "object.__setattr__"))) (hp : PySem.W.plainOver K C = true) (ht : PySem.W.takerIn K C name = some none) (hh : PySem.W.hasDictIn K C = true)
    (hw : PySem.Within mA ns) (hsz : ns.length ≤ sizeLine)
    (h : ∀ h', ObjM h' x dx C (fun y => if y = name then some v else mA y) → Heap.SameBut dx s.heap h' → Q () { s with heap := h', toks := s.toks + 2 }) :
    wpAny (model prog w) A (setAttr (.ref x) name v) Q E s := by
  obtain ⟨od, J, hl⟩ := I.look
  refine PySem.W.set_plain X J hs (PySem.W.osa_open (s := { s with toks := s.toks + 1 }) (r := none) X J hp ht fun b => ?_)
  obtain ⟨cd, hc, hd'⟩ := PySem.W.any_some hh
  have hx : s.heap.get? x = some ⟨.ref C, some dx, .plain, #[]⟩ := I.obj
  refine wpAny_bind (wpAny_pure (wpAny_bind (wpAny_bind (wpAny_loadPart hx (wpAny_bind (PySem.W.Looks.here (s := { s with toks := s.toks + 1 }) (PySem.W.looks_clsIn X hc) ?_))))))
  rw [hd']
  refine wpAny_pure (a := some dx) (wpAny_bind (wpAny_pure (wpAny_bind ?_)))
  refine wpAny_nsSet1 (s := { s with toks := s.toks + 1 }) I.ns fun h' hn2 hs2 => ?_
  obtain ⟨oD, esD, epD, hoD, hdD, hcD⟩ := hn2.count (PySem.Within.cons name v hw)
  refine wpAny_bind (wpAny_lookBehind hoD (by rw [hdD]; exact pastItsLine_dict (Nat.le_trans hcD (by rw [List.length_cons]; omega))) ?_)
  exact wpAny_pure (h _ ⟨(hs2.2 _ (Ne.symm I.ne)).trans I.obj, hn2, I.ne⟩ hs2)

theorem make_map {R : Result → Shared → Prop} {vs : List Value} {kw : List (Str × Value)} (X : K.In s.heap) (hm : PySem.W.makesIn K C = true)
    (hi : PySem.W.findIn K (.ref C) "__init__" = some (some (.ref f))) (hf : PySem.W.typeIn K (.ref f) = some (.type "function"))
    (h : codeAny (model prog w) (A.under (.builtin "type.__call__" ⟨.ref C :: vs, kw⟩)) (.call (.ref f) ⟨.ref (s.heap.objs.size + 1) :: vs, kw⟩) (PySem.W.InitBack (s.heap.objs.size + 1) R)
      { s with heap := (s.heap.push PySem.W.emptyDict).push (PySem.W.instObj C s.heap.objs.size) }) :
    codeAny (model prog w) A (.call (.ref C) ⟨vs, kw⟩) R s := by
  obtain ⟨hh, g, d, t, os⟩ := s
  exact PySem.W.make_core (PySem.W.makes_of X hm) (PySem.W.looks_findIn X hi) (fun self => PySem.W.bind_fn X self hf) (.inl rfl) h
theorem make_map0 {R : Result → Shared → Prop} (X : K.In s.heap) (hm : PySem.W.makesIn K C = true)
    (hi : PySem.W.findIn K (.ref C) "__init__" = some (some (.builtin "object.__init__")))
    (hb : ∀ self, PySem.W.Looks (model prog w) s.heap (bindSpecial (.builtin "object.__init__") self) (.builtin "object.__init__", [self]))
    (h : codeAny (model prog w) (A.under (.builtin "type.__call__" ⟨[.ref C], []⟩)) (.call (.builtin "object.__init__") ⟨[.ref (s.heap.objs.size + 1)], []⟩) (PySem.W.InitBack (s.heap.objs.size + 1) R)
      { s with heap := (s.heap.push PySem.W.emptyDict).push (PySem.W.instObj C s.heap.objs.size) }) :
    codeAny (model prog w) A (.call (.ref C) ⟨[], []⟩) R s := by
  obtain ⟨hh, g, d, t, os⟩ := s
  exact PySem.W.make_core (PySem.W.makes_of X hm) (PySem.W.looks_findIn X hi) hb (.inr ⟨rfl, rfl⟩) h
end

def putF (f : Str) (v : V) : List (Str × V) → List (Str × V)
  | [] => [(f, v)]
  | (g, x) :: r => if g = f then (g, v) :: r else (g, x) :: putF f v r
theorem lookup_putF (f g : Str) (v : V) : ∀ fs : List (Str × V), (putF f v fs).lookup g = if g = f then some v else fs.lookup g
  | [] => by
    show List.lookup g [(f, v)] = _
    by_cases h : g = f
    · have hb : (g == f) = true := beq_iff_eq.mpr h
      simp only [List.lookup, hb, if_pos h]
    · have hb : (g == f) = false := beq_eq_false_iff_ne.mpr h
      simp only [List.lookup, hb, if_neg h]
  | (k, x) :: r => by
    have ih := lookup_putF f g v r
    rw [show putF f v ((k, x) :: r) = (if k = f then (k, v) :: r else (k, x) :: putF f v r) from rfl]
    by_cases hk : k = f
    · rw [if_pos hk]
      by_cases h : g = k
      · have hb : (g == k) = true := beq_iff_eq.mpr h
        simp only [List.lookup, hb, if_pos (h.trans hk)]
      · have hb : (g == k) = false := beq_eq_false_iff_ne.mpr h
        simp only [List.lookup, hb, if_neg (fun e : g = f => h (e.trans hk.symm))]
    · rw [if_neg hk]
      by_cases h : g = k
      · have hb : (g == k) = true := beq_iff_eq.mpr h
        simp only [List.lookup, hb, if_neg (fun e : g = f => hk (h.symm.trans e))]
      · have hb : (g == k) = false := beq_eq_false_iff_ne.mpr h
        simp only [List.lookup, hb]
        exact ih
theorem keys_putF (f : Str) (v : V) : ∀ fs : List (Str × V), f ∈ (putF f v fs).map (·.1) ∧ ∀ g, g ∈ fs.map (·.1) → g ∈ (putF f v fs).map (·.1)
  | [] => ⟨by simp [putF], fun g h => by simp at h⟩
  | (k, x) :: r => by
    obtain ⟨i1, i2⟩ := keys_putF f v r
    rw [show putF f v ((k, x) :: r) = (if k = f then (k, v) :: r else (k, x) :: putF f v r) from rfl]
    by_cases hk : k = f
    · rw [if_pos hk]
      subst hk
      exact ⟨by simp, fun g h => by simpa using h⟩
    · rw [if_neg hk]
      refine ⟨?_, fun g h => ?_⟩
      · rw [List.map_cons]
        exact List.mem_cons_of_mem _ i1
      · rw [List.map_cons] at h ⊢
        rcases List.mem_cons.mp h with e | e
        · exact List.mem_cons.mpr (.inl e)
        · exact List.mem_cons_of_mem _ (i2 g e)
theorem length_putF (f : Str) (v : V) : ∀ fs : List (Str × V), (putF f v fs).length ≤ fs.length + 1
  | [] => by simp [putF]
  | (k, x) :: r => by
    have ih := length_putF f v r
    rw [show putF f v ((k, x) :: r) = (if k = f then (k, v) :: r else (k, x) :: putF f v r) from rfl]
    by_cases hk : k = f
    · rw [if_pos hk, List.length_cons, List.length_cons]; omega
    · rw [if_neg hk, List.length_cons, List.length_cons]; omega

theorem RelO.some_of {v : V} {o : Option Value} (r : RelO (some v) o) : ∃ u, o = some u ∧ RelV v u := by
  cases o with
  | none => exact (show False from r).elim
  | some u => exact ⟨u, rfl, r⟩
theorem RelO.none_of {o : Option Value} (r : RelO none o) : o = none := by
  cases o with
  | none => rfl
  | some u => exact (show False from r).elim
theorem handed_of {v : V} {u : Value} (r : RelV v u) : PySem.W.handedIn u = true := by
  cases v with
  | non => cases (show u = Value.none from r); rfl
  | bl b => cases (show u = Value.bool b from r); rfl
  | int i => obtain ⟨t, e⟩ := (show ∃ t, u = Value.int i t from r); cases e; rfl
  | str x => obtain ⟨t, e⟩ := (show ∃ t, u = Value.str x t from r); cases e; rfl
  | byt b => obtain ⟨t, e⟩ := (show ∃ t, u = Value.bytes b t from r); cases e; rfl
  | flt b => obtain ⟨t, e⟩ := (show ∃ t, u = Value.float b t from r); cases e; rfl
  | ref a => cases (show u = Value.ref a from r); rfl
  | ty n => cases (show u = Value.type n from r); rfl

section
variable {P : Program} {w : World} {H H' : Hp} {h h' : Heap} {a C dx : Addr} {fs fs' : List (Str × V)}
theorem ins_get (hok : HOk P w H h) (e : H a = some (.ins C dx fs)) : ∃ mA, ObjM h a dx C mA ∧ (∀ f, RelO (fs.lookup f) (mA f)) ∧ PySem.Within mA (fs.map (·.1)) ∧ fs.length ≤ 1000 ∧ H dx = some (.own a) := by
  obtain ⟨d, z, ne, ob, mA, n, r, q⟩ := (show ObjOk P w H h a (.ins C dx fs) from hok a _ e)
  exact ⟨mA, ⟨ob, n, ne⟩, r, q, z, d⟩
end

structure Cls (K : PySem.W.Frag) (C : Addr) : Prop where
  pg : PySem.W.plainGet K C Str.empty = true
  hd : PySem.W.hasDictIn K C = true
  po : PySem.W.plainOver K C = true
  sa : PySem.W.findIn K (.ref C) "__setattr__" = some (some (.builtin "object.__setattr__"))
theorem Cls.get {K : PySem.W.Frag} {C : Addr} (c : Cls K C) (f : Str) : PySem.W.plainGet K C f = true := c.pg
def NoAttr (K : PySem.W.Frag) (C : Addr) (f : Str) : Prop := PySem.W.findIn K (.ref C) f = some none
theorem NoAttr.taker {K : PySem.W.Frag} {C : Addr} {f : Str} (n : NoAttr K C f) : PySem.W.takerIn K C f = some none := by
  unfold PySem.W.takerIn
  rw [show PySem.W.findIn K (.ref C) f = some none from n]
  rfl
structure Con (K : PySem.W.Frag) (C : Addr) (f : Str) (v : V) (u : Value) : Prop where
  at_ : PySem.W.findIn K (.ref C) f = some (some u)
  rel : RelV v u
  get : PySem.W.specialIn K u "__get__" = some none
  cp : PySem.W.copiedNames.contains f = false
structure Meth (K : PySem.W.Frag) (C : Addr) (m : Str) (f : Addr) : Prop where
  at_ : PySem.W.findIn K (.ref C) m = some (some (.ref f))
  fn : PySem.W.isFn K (.ref f) = true
  kp : PySem.W.keepIn K (.ref f) = true

section
variable {X : Cx} {pins : List (Addr × Obj)} {σ : St} {H : Hp} {s : Shared} {a C dx : Addr} {fs : List (Str × V)} {f : Str} {v : V} {A : Around} {E : Value → Shared → Prop}

theorem getattr_ok {b : Bool} {Q : Value → Shared → Prop} (I : Inv X pins σ H s) (e : H a = some (.ins C dx fs)) (c : Cls X.K C) (n : NoAttr X.K C f) (l : fs.lookup f = some v)
    (h : ∀ u s', Inv X pins σ H s' → RelV v u → Q u s') : wpAny (model X.prog X.w) A (getAttr (.ref a) f b) Q E s := by
  obtain ⟨mA, O, r, _, _, _⟩ := ins_get I.hok e
  obtain ⟨u, hu, ru⟩ := RelO.some_of (v := v) (o := mA f) (by rw [← l]; exact r f)
  exact get_map I.kIn O (c.get f) c.hd n hu (handed_of ru) (h u _ (I.tok _) ru)


theorem getmeth_ok {m : Str} {g : Addr} {pl : Sem Bool} {Q : Value × List Value → Shared → Prop} (I : Inv X pins σ H s) (e : H a = some (.ins C dx fs)) (c : Cls X.K C) (k : Meth X.K C m g) (l : fs.lookup m = none)
    (h : Q (.ref g, [.ref a]) s) : wpAny (model X.prog X.w) A (getMethod (.ref a) m pl) Q E s := by
  obtain ⟨mA, O, r, _, _, _⟩ := ins_get I.hok e
  have hn : mA m = none := RelO.none_of (by rw [← l]; exact r m)
  exact get_meth I.kIn O (c.get m) k.at_ k.fn hn h

theorem setattr_ok {y : V} {u : Value} {Q : Unit → Shared → Prop} (I : Inv X pins σ H s) (e : H a = some (.ins C dx fs)) (c : Cls X.K C) (n : NoAttr X.K C f) (hl : fs.length < 1000) (ry : RelV y u)
    (h : ∀ s', Inv X pins σ (upd H a (.ins C dx (putF f y fs))) s' → Q () s') : wpAny (model X.prog X.w) A (setAttr (.ref a) f u) Q E s := by
  obtain ⟨mA, O, r, wi, _, ho⟩ := ins_get I.hok e
  have hz : (fs.map (·.1)).length ≤ sizeLine := by rw [List.length_map, sizeLine_eq]; omega
  refine set_map I.kIn O c.sa c.po n.taker c.hd wi hz fun h' O' sb => h _ ?_
  have hd : ∃ o, h'.get? dx = some o := let ⟨o, _, _, e', _⟩ := O'.ns; ⟨o, e'⟩
  refine I.write (x := a) (e := dx) (by rw [e]; exact True.intro) (.inr ho) (fun b q hb z => (sb.2 b hb).trans z) hd ?_
  refine ⟨by rw [upd_ne O.ne]; exact ho, ?_, O.ne, O'.obj, _, O'.ns, fun g => ?_, fun g hg => ?_⟩
  · have := length_putF f y fs; omega
  · show RelO ((putF f y fs).lookup g) (if g = f then some u else mA g)
    rw [lookup_putF]
    by_cases q : g = f
    · rw [if_pos q, if_pos q]; exact ry
    · rw [if_neg q, if_neg q]; exact r g
  · by_cases q : g = f
    · rw [q]; exact (keys_putF f y fs).1
    · refine (keys_putF f y fs).2 g (wi g fun z => hg ?_)
      show (if g = f then some u else mA g) = none
      rw [if_neg q]; exact z

theorem Inv.made (I : Inv X pins σ H s) : Inv X pins σ (upd (upd H s.heap.objs.size (.own (s.heap.objs.size + 1))) (s.heap.objs.size + 1) (.ins C s.heap.objs.size []))
    { s with heap := (s.heap.push PySem.W.emptyDict).push (PySem.W.instObj C s.heap.objs.size) } := by
  have e1 : (s.heap.push PySem.W.emptyDict).get? s.heap.objs.size = some PySem.W.emptyDict := Heap.get?_push_size s.heap rfl
  have e2 : ((s.heap.push PySem.W.emptyDict).push (PySem.W.instObj C s.heap.objs.size)).get? (s.heap.objs.size + 1) = some (PySem.W.instObj C s.heap.objs.size) := by
    have := Heap.get?_push_size (s.heap.push PySem.W.emptyDict) (o := PySem.W.instObj C s.heap.objs.size) rfl
    rwa [Heap.size_push] at this
  have e3 : (s.heap.push PySem.W.emptyDict).Ns s.heap.objs.size (fun _ => none) := ⟨PySem.W.emptyDict, #[], _, e1, rfl, (fun e he => absurd he (by simp)), fun _ => rfl⟩
  have I1 := I.laid (a := s.heap.objs.size) (o := .own (s.heap.objs.size + 1)) (h' := s.heap.push PySem.W.emptyDict) (t' := s.toks) (fun b u q => Heap.get?_push_of_some _ q) (Nat.le_refl _) ⟨_, e1⟩
  refine I1.laid (a := s.heap.objs.size + 1) (o := .ins C s.heap.objs.size []) (t' := s.toks) (fun b u q => Heap.get?_push_of_some _ q) (Nat.le_of_eq (Heap.size_push _ _)) ?_
  have ne : s.heap.objs.size ≠ s.heap.objs.size + 1 := Nat.ne_of_lt (Nat.lt_succ_self _)
  refine ⟨by rw [upd_ne ne, upd_same], Nat.zero_le _, ne, e2, fun _ => none, (Heap.Ns1.of_empty e3).at fun o q => Heap.get?_push_of_some _ q, fun _ => True.intro, fun y hy => absurd rfl hy⟩

theorem attr_of {prog : Program} {w : World} {env : Env} {e : Expr} {f : Str} {pos : Pos} {s : Shared} {Q : Value → Shared → Prop} (hb : attributeBase e f env (eval e env) = eval e env)
    (h : wpAny (model prog w) A (eval e env) (fun o s₁ => wpAny (model prog w) A (getAttr o f true) Q E s₁) E s) : wpAny (model prog w) A (eval (.Attribute e f pos) env) Q E s :=
  Attribute_any_ h (by rw [arm_eval_Attribute, hb])
end

def tFld (K : PySem.W.Frag) (ta : TE) (f : Str) : TE := fun σ H Q => ta σ H fun x H1 => ∃ a C dx fs v, x = .ref a ∧ H1 a = some (.ins C dx fs) ∧ Cls K C ∧ NoAttr K C f ∧ fs.lookup f = some v ∧ Q v H1
def sFld (K : PySem.W.Frag) (ta tv : TE) (f : Str) : TS := fun D σ H => tv σ H fun y H1 => ta σ H1 fun x H2 => ∃ a C dx fs, x = .ref a ∧ H2 a = some (.ins C dx fs) ∧ Cls K C ∧ NoAttr K C f ∧ fs.length < 1000 ∧
  D.nx σ (upd H2 a (.ins C dx (putF f y fs)))

section
variable {X : Cx} {o e value : Expr} {f : Str} {pos pos' tpos : Pos} {ta tv : TE}
theorem pe_fld (he : PE X e ta) (hb : attributeBase e f X.env (eval e X.env) = eval e X.env) : PE X (.Attribute e f pos) (tFld X.K ta f) := by
  intro pins s σ H Q I h
  refine attr_of hb (thn (he pins s σ H _ I h) fun u s1 ⟨x, H1, I1, rx, a, C, dx, fs, v, ex, ea, c, n, l, q⟩ => ?_)
  subst ex
  obtain rfl : u = Value.ref a := rx
  exact getattr_ok I1 ea c n l fun u' s2 I2 ru => ⟨v, H1, I2, ru, q⟩
theorem ps_fld (ha : PE X o ta) (hv : PE X value tv) (hs : swapsWith value (some (.Attribute o f pos')) pos.line X.env = pure false) : PS X (.Assign [.Attribute o f pos'] value pos) (sFld X.K ta tv f) := by
  intro pins s σ H D I h
  refine plainObj_wpAny_Assign_Attribute (thn (hv pins s σ H _ I h) fun u s1 ⟨y, H1, I1, ry, q⟩ => thn (ha pins s1 σ H1 _ I1 q) fun ov s2 ⟨x, H2, I2, rx, a, C, dx, fs, ex, ea, c, n, l, q2⟩ => ?_) hs
  subst ex
  obtain rfl : ov = Value.ref a := rx
  exact setattr_ok I2 ea c n l ry fun s3 I3 => ⟨σ, _, I3, q2⟩

end

section
variable {X : Cx} {pins : List (Addr × Obj)} {σ : St} {H : Hp} {s : Shared} {A : Around} {E : Value → Shared → Prop} {Q : Value → Shared → Prop} {c : Value} {b : Bool}
inductive TyOf (K : PySem.W.Frag) (H : Hp) : V → Value → Prop where
  | non : TyOf K H .non (.type "NoneType")
  | bl (x : Bool) : TyOf K H (.bl x) (.type "bool")
  | int (i : Int) : TyOf K H (.int i) (.type "int")
  | str (x : Str) : TyOf K H (.str x) (.type "str")
  | flt (x : UInt64) : TyOf K H (.flt x) (.type "float")
  | lst {a : Addr} {xs : List V} (e : H a = some (.lst xs)) : TyOf K H (.ref a) (.type "list")
  | frz {a : Addr} {o : Obj} {xs : List V} (e : H a = some (.frz o (.lst xs))) : TyOf K H (.ref a) (.type "list")
  | tup {a : Addr} {xs : List V} (e : H a = some (.tup xs)) : TyOf K H (.ref a) (.type "tuple")
  | dK {a : Addr} {kvs : List (Key × V)} (e : H a = some (.dK kvs)) : TyOf K H (.ref a) (.type "dict")
  | dT {a : Addr} {kvs : List (List Key × V)} (e : H a = some (.dT kvs)) : TyOf K H (.ref a) (.type "dict")
  | ins {a C dx : Addr} {fs : List (Str × V)} (e : H a = some (.ins C dx fs)) (cl : Cls K C) (ha : PySem.W.findIn K (.ref C) "__class__" = some (some (.builtin "object.__class__")))
      (hn : PySem.W.specialIn K (.builtin "object.__class__") "__get__" = some (some (.builtin "getset_descriptor.__get__"))) (htk : PySem.W.takesIn K (.builtin "object.__class__") = some true)
      (hm : PySem.W.mroIn K C (.type "object") = some true) : TyOf K H (.ref a) (.ref C)
theorem isinst_ok {x : V} {u t : Value} (I : Inv X pins σ H s) (rx : RelV x u) (ty : TyOf X.K H x t) (e : PySem.W.kitOne X.K t c = some b) (h : ∀ tk, Q (.bool b) { s with toks := tk }) :
    wpAny (model X.prog X.w) A (call (.builtin "isinstance") [u, c]) Q E s := by
  cases ty with
  | non => cases (show u = Value.none from rx); exact PySem.W.kia_one PySem.W.kitx_none I.kIn True.intro e (fun z => nomatch z) h
  | bl y => cases (show u = Value.bool y from rx); exact PySem.W.kia_one PySem.W.kitx_bool I.kIn True.intro e (fun z => nomatch z) h
  | int i => obtain ⟨t, q⟩ := (show ∃ t, u = Value.int i t from rx); cases q; exact PySem.W.kia_one PySem.W.kitx_int I.kIn True.intro e (fun z => nomatch z) h
  | str y => obtain ⟨t, q⟩ := (show ∃ t, u = Value.str y t from rx); cases q; exact PySem.W.kia_one PySem.W.kitx_str I.kIn True.intro e (fun z => nomatch z) h
  | flt y => obtain ⟨t, q⟩ := (show ∃ t, u = Value.float y t from rx); cases q; exact PySem.W.kia_one PySem.W.kitx_float I.kIn True.intro e (fun z => nomatch z) h
  | @lst a xs ea =>
    cases (show u = Value.ref a from rx)
    obtain ⟨_, _, n, _, h1⟩ := (show ObjOk X.prog X.w H s.heap a (.lst xs) from I.hok a _ ea)
    exact PySem.W.kia_one PySem.W.kitx_list I.kIn ⟨_, h1, rfl⟩ e (fun z => nomatch z) h
  | @frz a ob xs ea =>
    cases (show u = Value.ref a from rx)
    obtain ⟨_, _, _, n, _, h1⟩ := (show ObjOk X.prog X.w H s.heap a (.frz ob (.lst xs)) from I.hok a _ ea)
    exact PySem.W.kia_one PySem.W.kitx_list I.kIn ⟨_, h1, rfl⟩ e (fun z => nomatch z) h
  | @tup a xs ea =>
    cases (show u = Value.ref a from rx)
    obtain ⟨_, _, _, p, _⟩ := (show ObjOk X.prog X.w H s.heap a (.tup xs) from I.hok a _ ea)
    obtain ⟨o, h1, h2, _⟩ := p
    exact PySem.W.kia_one PySem.W.kitx_tuple I.kIn ⟨o, h1, h2⟩ e (fun z => nomatch z) h
  | @dK a kvs ea =>
    cases (show u = Value.ref a from rx)
    obtain ⟨_, _, vs, _, p⟩ := (show ObjOk X.prog X.w H s.heap a (.dK kvs) from I.hok a _ ea)
    obtain ⟨o, es, ep, h1, h2, _⟩ := p
    exact PySem.W.kia_one PySem.W.kitx_dict I.kIn ⟨o, h1, h2.1⟩ e (fun z => nomatch z) h
  | @dT a kvs ea =>
    cases (show u = Value.ref a from rx)
    obtain ⟨_, _, xs, _, o, es, ep, h1, h2, _⟩ := (show ObjOk X.prog X.w H s.heap a (.dT kvs) from I.hok a _ ea)
    exact PySem.W.kia_one PySem.W.kitx_dict I.kIn ⟨o, h1, h2.1⟩ e (fun z => nomatch z) h
  | @ins a C dx fs ea cl ha hn htk hm =>
    cases (show u = Value.ref a from rx)
    obtain ⟨mA, O, _⟩ := ins_get I.hok ea
    obtain ⟨od, J, _⟩ := O.look
    exact PySem.W.kia_one (PySem.W.kitx_own (cl.get _) cl.hd ha hn htk hm) I.kIn J e (fun z => nomatch z) h
end
end L2

namespace L2
open PySem PySem.Spec PyProof.Rows

structure Room (k : Nat) (A : Around) : Prop where
  hd : A.handled = none
  dp : A.depth + 3 * k + 5 < recursionLimit
  un : A.units + 16 * k + 200 < cLine
theorem Room.mono {j k : Nat} {A : Around} (r : Room k A) (h : j ≤ k) : Room j A := ⟨r.hd, by have := r.dp; omega, by have := r.un; omega⟩
theorem Room.deeper {k : Nat} {A : Around} (r : Room (k + 1) A) (env : Env) : Room k (A.deeper env) :=
  ⟨r.hd, by have := r.dp; show A.depth + 1 + 3 * k + 5 < _; omega, by have := r.un; show A.units + 3 + 16 * k + 200 < _; omega⟩
theorem Room.in1 {k : Nat} {A : Around} (r : Room (k + 1) A) : Room k A.in1 :=
  ⟨r.hd, by have := r.dp; show A.depth + 3 * k + 5 < _; omega, by have := r.un; show A.units + 1 + 16 * k + 200 < _; omega⟩
theorem make_depth {A : Around} {C : Addr} {us : List Value} {kw : List (Str × Value)} : (A.under (.builtin "type.__call__" ⟨.ref C :: us, kw⟩)).depth = A.depth + 1 := by
  first | rfl | simp [Around.under, Code.weight, Code.isCreation, Code.isGuard, Code.isCaller, Code.frames, Code.isFrame, guardIds]
theorem make_units {A : Around} {C : Addr} {us : List Value} {kw : List (Str × Value)} : (A.under (.builtin "type.__call__" ⟨.ref C :: us, kw⟩)).units = A.units + 1 := by
  first | rfl | simp [Around.under, Code.cUnits, Code.frames, Code.isFrame]
theorem Room.make {k : Nat} {A : Around} (r : Room (k + 1) A) (C : Addr) (us : List Value) (kw : List (Str × Value)) : Room k (A.under (.builtin "type.__call__" ⟨.ref C :: us, kw⟩)) :=
  ⟨r.hd, by have := r.dp; rw [make_depth]; omega, by have := r.un; rw [make_units]; omega⟩
theorem Room.depth {k : Nat} {A : Around} (r : Room k A) : A.depth < recursionLimit := by have := r.dp; omega
theorem Room.units {k : Nat} {A : Around} (r : Room k A) : A.units + 64 < cLine := by have := r.un; omega

def tNil : TA := fun _ H Q => Q [] H
def tCons (ta : TE) (tr : TA) : TA := fun σ H Q => ta σ H fun x H1 => tr σ H1 fun xs H2 => Q (x :: xs) H2
section
variable {X : Cx} {e : Expr} {es : List Expr} {te : TE} {t : TA} {pos : Pos}
theorem pa_nil : PA X [] tNil := fun _ _ _ _ H Q I h => Calls.spliced_nil ⟨[], H, I, .nil, h⟩
theorem pa_cons (ha : PE X e te) (hr : PA X es t) (hs : starEach (e :: es) X.env = (false, eval e X.env) :: starEach es X.env := by rfl) : PA X (e :: es) (tCons te t) := by
  intro pos pins s σ H Q I h
  rw [hs]
  show wpAny _ _ (spliced ((false, eval e X.env) :: backTo pos (starEach es X.env))) _ _ s
  refine Calls.spliced_cons (thn (ha pins s σ H _ I h) fun u s1 ⟨x, H1, I1, r1, q1⟩ => ?_)
  exact thn (hr pos pins s1 σ H1 _ I1 q1) fun us s2 ⟨xs, H2, I2, r2, q2⟩ => ⟨x :: xs, H2, I2, .cons r1 r2, q2⟩

def tTup (t : TA) : TE := fun σ H Q => t σ H fun xs H1 => xs.length ≤ sizeLine ∧ ∀ p, H1 p = none → Q (.ref p) (upd H1 p (.tup xs))
def tLst (t : TA) : TE := fun σ H Q => t σ H fun xs H1 => xs.length ≤ sizeLine ∧ ∀ p, H1 p = none → Q (.ref p) (upd H1 p (.lst xs))
theorem pe_tup {x1} (h : PA X es t) : PE X (.Tuple es x1 pos) (tTup t) := by
  intro pins s σ H Q I hq
  refine wpAny_Tuple_spliced (thn (h pos pins s σ H _ I hq) fun us s1 ⟨xs, H1, I1, r, z, q⟩ => ⟨by rw [← r.length]; exact z, ?_⟩)
  have hf : H1 s1.heap.objs.size = none := I1.hok.fresh (Nat.le_refl _)
  refine ⟨.ref s1.heap.objs.size, upd H1 s1.heap.objs.size (.tup xs), I1.laid (t' := s1.toks) (fun b u e => Heap.get?_push_of_some _ e) (Nat.le_refl _) ?_, rfl, q _ hf⟩
  exact ⟨z, us, r, ⟨_, Heap.get?_push_size _ rfl, rfl, _, rfl⟩, fun _ => ⟨_, Heap.get?_push_size _ rfl, rfl⟩⟩
theorem pe_lst (h : PA X es t) : PE X (.List es pos) (tLst t) := by
  intro pins s σ H Q I hq
  refine wpAny_List_spliced (thn (h pos pins s σ H _ I hq) fun us s1 ⟨xs, H1, I1, r, z, q⟩ => ⟨by rw [← r.length]; exact z, ?_⟩)
  have hf : H1 s1.heap.objs.size = none := I1.hok.fresh (Nat.le_refl _)
  refine ⟨.ref s1.heap.objs.size, upd H1 s1.heap.objs.size (.lst xs), I1.laid (t' := s1.toks) (fun b u e => Heap.get?_push_of_some _ e) (Nat.le_refl _) ?_, rfl, q _ hf⟩
  exact ⟨z, us, 0, r, Heap.get?_push_size _ rfl⟩
end

abbrev Sp := List V → Hp → VK → XK → Prop
abbrev CXT := List Env → Hp → Shared → XK → Value → Shared → Prop

structure Env0 (P : Program) (w : World) (K : PySem.W.Frag) (mg : Str → Option Value) (base : Heap) (A : Around) (outer : List Env) (s : Shared) (H : Hp) : Prop where
  frames : A.frames = some outer
  mod : Mod K mg base
  bs : ∀ b o, base.get? b = some o → s.heap.get? b = some o ∧ H b = none
  bsz : base.objs.size ≤ s.heap.objs.size
  funs : s.heap.FunFrames base outer
  frf : ∀ b ∈ frs outer, H b = none
  hok : HOk P w H s.heap
  bare : AllBare s.gens
def CE (outer : List Env) (P : Program) (w : World) (H : Hp) (s : Shared) (Q : VK) (u : Value) (s' : Shared) : Prop :=
  ∃ v H', s'.os = s.os ∧ AllBare s'.gens ∧ Un (frs outer) [] H H' s.heap s'.heap ∧ HOk P w H' s'.heap ∧ RelV v u ∧ Q v H'
def CR (CX : CXT) (outer : List Env) (P : Program) (w : World) (H : Hp) (s : Shared) (Q : VK) (E : XK) (r : Result) (s' : Shared) : Prop :=
  match r with
  | .ok (.ret u) => CE outer P w H s Q u s'
  | .ok _ => False
  | .error e => CX outer H s E e s'
structure FnOk (P : Program) (w : World) (K : PySem.W.Frag) (mg : Str → Option Value) (base : Heap) (CX : CXT) (k : Nat) (f : Addr) (fd : FuncData) (ps : List Str) (sp : Sp) : Prop where
  len : ∀ vs H Q E, sp vs H Q E → vs.length = ps.length
  run : ∀ (A : Around) (outer : List Env) (s : Shared) (H : Hp) (args : Args) (us : List Value) (vs : List V) (Q : VK) (E : XK), Room k A → Env0 P w K mg base A outer s H → BindsTo s fd args (ps.zip us) → Vals vs us → sp vs H Q E →
    codeAny (model P w) A (.call (.ref f) args) (CR CX outer P w H s Q E) s
theorem FnOk.mono {P : Program} {w : World} {K : PySem.W.Frag} {mg : Str → Option Value} {base : Heap} {CX : CXT} {j k : Nat} {f : Addr} {fd : FuncData} {ps : List Str} {sp : Sp} (F : FnOk P w K mg base CX j f fd ps sp) (h : j ≤ k) :
    FnOk P w K mg base CX k f fd ps sp := ⟨F.len, fun A outer s H args us vs Q E hr => F.run A outer s H args us vs Q E (hr.mono h)⟩
theorem FnOk.imp {P : Program} {w : World} {K : PySem.W.Frag} {mg : Str → Option Value} {base : Heap} {CX : CXT} {k : Nat} {f : Addr} {fd : FuncData} {ps : List Str} {sp sp' : Sp} (F : FnOk P w K mg base CX k f fd ps sp)
    (h : ∀ vs H Q E, sp' vs H Q E → sp vs H Q E) : FnOk P w K mg base CX k f fd ps sp' :=
  ⟨fun vs H Q E q => F.len vs H Q E (h _ _ _ _ q), fun A outer s H args us vs Q E hr he hb hv hs => F.run A outer s H args us vs Q E hr he hb hv (h _ _ _ _ hs)⟩

theorem Env0.make {P : Program} {w : World} {K : PySem.W.Frag} {mg : Str → Option Value} {base : Heap} {A : Around} {outer : List Env} {s : Shared} {H : Hp} (e : Env0 P w K mg base A outer s H) (C : Addr) (us : List Value) (kw : List (Str × Value)) :
    Env0 P w K mg base (A.under (.builtin "type.__call__" ⟨.ref C :: us, kw⟩)) outer s H := ⟨by first | exact e.frames | (simpa [Around.under, Code.envs, Code.isFrame, pushEnvs] using e.frames), e.mod, e.bs, e.bsz, e.funs, e.frf, e.hok, e.bare⟩
theorem Env0.in1 {P : Program} {w : World} {K : PySem.W.Frag} {mg : Str → Option Value} {base : Heap} {A : Around} {outer : List Env} {s : Shared} {H : Hp} (e : Env0 P w K mg base A outer s H) :
    Env0 P w K mg base A.in1 outer s H := ⟨e.frames, e.mod, e.bs, e.bsz, e.funs, e.frf, e.hok, e.bare⟩

section
variable {X : Cx} {pins : List (Addr × Obj)} {σ : St} {H : Hp} {s s' : Shared}
theorem Inv.env0 (I : Inv X pins σ H s) : Env0 X.prog X.w X.K X.mg X.base X.A X.stack s H :=
  ⟨I.ok.frames, I.ok.mod, I.bs, Nat.le_trans I.ok.bsz I.sz, I.stack, I.stkFree, I.hok, I.bare⟩
theorem Inv.after {Q : VK} {u : Value} (I : Inv X pins σ H s) (h : CE X.stack X.prog X.w H s Q u s') : EP X pins σ Q u s' := by
  obtain ⟨v, H', os, bare, un, hok, r, q⟩ := h
  obtain ⟨hh, g, d, t, os'⟩ := s'
  obtain rfl : os' = s.os := os
  exact ⟨v, H', I.call (h' := hh) (g' := g) (d' := d) (t' := t) (ch := []) un hok bare (fun b z => absurd z (by simp)), r, q⟩
end

def tCall (sp : Sp) (dvs : List V) (E : XK) (t : TA) : TE := fun σ H Q => t σ H fun vs H1 => sp (vs ++ dvs) H1 Q E
def tMeth (C : Addr) (m : Str) (sp : Sp) (dvs : List V) (E : XK) (ta : TE) (t : TA) : TE := fun σ H Q => ta σ H fun x H1 => ∃ a dx fs, x = .ref a ∧ H1 a = some (.ins C dx fs) ∧ fs.lookup m = none ∧
  t σ H1 fun vs H2 => sp (x :: (vs ++ dvs)) H2 Q E
def tMake (C : Addr) (sp : Sp) (dvs : List V) (E : XK) (t : TA) : TE := fun σ H Q => t σ H fun vs H1 => ∀ x dx, H1 x = none → H1 dx = none → dx ≠ x →
  sp (.ref x :: (vs ++ dvs)) (upd (upd H1 dx (.own x)) x (.ins C dx [])) (fun v H2 => v = .non ∧ Q (.ref x) H2) E

def Binds (K : PySem.W.Frag) (fd : FuncData) (ps : List Str) (ds : List Value) : Prop :=
  ∀ (s : Shared) (us : List Value), K.In s.heap → (us ++ ds).length = ps.length → BindsTo s fd ⟨us, []⟩ (ps.zip (us ++ ds))
theorem Binds.all {K : PySem.W.Frag} {fd : FuncData} {ps : List Str} (h : ∀ us : List Value, us.length = ps.length → bindArgs fd ⟨us, []⟩ = pure (ps.zip us)) : Binds K fd ps [] := fun s us _ hl => by
  rw [List.append_nil] at hl ⊢
  exact .of_eq (h us hl)

def Passes (CX : CXT) (X : Cx) (E : XK) : Prop := ∀ (pins : List (Addr × Obj)) (σ : St) (H : Hp) (s : Shared) (e : Value) (s' : Shared), Inv X pins σ H s → CX X.stack H s E e s' → X.xe e s'

section
variable {X : Cx} {CX : CXT} {k : Nat} {f C : Addr} {fd : FuncData} {ps : List Str} {sp : Sp} {dvs : List V} {ds : List Value} {E : XK} {x m : Str} {p pos apos : Pos} {e o : Expr} {es : List Expr} {ta : TE} {t : TA}

theorem run_fn {pins : List (Addr × Obj)} {σ : St} {H : Hp} {s : Shared} {Q : VK} {us : List Value} {vs : List V} (F : FnOk X.prog X.w X.K X.mg X.base CX k f fd ps sp) (hr : Room k X.A) (hb : Binds X.K fd ps ds) (hd : Vals dvs ds) (hx : Passes CX X E)
    (I : Inv X pins σ H s) (r : Vals vs us) (h : sp (vs ++ dvs) H Q E) : wpAny (model X.prog X.w) X.A (call (.ref f) us) (EP X pins σ Q) X.xe s := by
  have r2 : Vals (vs ++ dvs) (us ++ ds) := r.append hd
  have hl : (us ++ ds).length = ps.length := by rw [← r2.length]; exact F.len _ _ _ _ h
  refine wpAny_call (codeAny_mono (F.run X.A X.stack s H ⟨us, []⟩ (us ++ ds) (vs ++ dvs) Q E hr I.env0 (hb s us I.kIn hl) r2 h) fun r s' hq => ?_)
  cases r with
  | error e => exact hx pins σ H s e s' I hq
  | ok fl =>
    cases fl with
    | ret u => exact I.after hq
    | next => exact False.elim hq
    | brk => exact False.elim hq
    | cont => exact False.elim hq

theorem pe_call (F : FnOk X.prog X.w X.K X.mg X.base CX k f fd ps sp) (hr : Room k X.A) (hg : Gl X x) (hm : X.mg x = some (.ref f)) (hk : PySem.W.keepIn X.K (.ref f) = true) (hb : Binds X.K fd ps ds) (hd : Vals dvs ds) (hx : Passes CX X E)
    (ha : PA X (e :: es) t) (hdb : (x == ("__debug__" : Str)) = false := by decide) (he : starEach (e :: es) X.env = (false, eval e X.env) :: starEach es X.env := by rfl) (hpl : (backTo pos (starEach es X.env)).any (·.1) = false := by rfl) :
    PE X (.Call (.Name x p) (e :: es) [] pos) (tCall sp dvs E t) := by
  intro pins s σ H Q I h
  refine wpAny_Call_Name_kw (ld_glob I hg hm ?_ hdb)
  refine PySem.W.callWith_K (h₀ := X.base) I.ok.mod.kin hk (thn (ha pos pins s σ H _ I h) fun us s1 ⟨vs, H1, I1, r, q⟩ => ⟨I1.kIn, ?_⟩) he hpl
  exact run_fn F hr hb hd hx I1 r q

theorem pe_meth {pl : Sem Bool} (he : PE X o ta) (c : Cls X.K C) (hm : Meth X.K C m f) (F : FnOk X.prog X.w X.K X.mg X.base CX k f fd ps sp) (hr : Room k X.A) (hb : Binds X.K fd ps ds) (hd : Vals dvs ds) (hx : Passes CX X E) (ha : PA X (e :: es) t)
    (hst : starEach (e :: es) X.env = (false, eval e X.env) :: starEach es X.env := by rfl) (hpl : (backTo pos (starEach es X.env)).any (·.1) = false := by rfl)
    (ht : eval (.Call (.Attribute o m apos) (e :: es) [] pos) X.env = (do
      let ov ← eval o X.env
      standAt apos.atName
      let (f, first) ← holding [ov] (getMethod ov m pl)
      callWith pos f first (backTo pos (starEach (e :: es) X.env)) (backToKw pos (keywordEach [] X.env))) := by rfl) :
    PE X (.Call (.Attribute o m apos) (e :: es) [] pos) (tMeth C m sp dvs E ta t) := by
  intro pins s σ H Q I h
  refine PySem.W.methodCall_KW (pl := pl) (thn (he pins s σ H _ I h) fun u s1 ⟨x, H1, I1, rx, a, dx, fs, ex, ea, l, q⟩ => ?_) ht
  subst ex
  obtain rfl : u = Value.ref a := rx
  refine getmeth_ok I1 ea c hm l ?_
  refine PySem.W.callWith_K (first := [.ref a]) (h₀ := X.base) I.ok.mod.kin hm.kp (thn (ha pos pins s1 σ H1 _ I1 q) fun us s2 ⟨vs, H2, I2, r, q2⟩ => ⟨I2.kIn, ?_⟩) hst hpl
  exact run_fn (us := .ref a :: us) (vs := .ref a :: vs) F hr hb hd hx I2 (.cons rfl r) q2
theorem pe_meth0 {pl : Sem Bool} (he : PE X o ta) (c : Cls X.K C) (hm : Meth X.K C m f) (F : FnOk X.prog X.w X.K X.mg X.base CX k f fd ps sp) (hr : Room k X.A) (hb : Binds X.K fd ps ds) (hd : Vals dvs ds) (hx : Passes CX X E)
    (ht : eval (.Call (.Attribute o m apos) [] [] pos) X.env = (do
      let ov ← eval o X.env
      standAt apos.atName
      let (f, first) ← holding [ov] (getMethod ov m pl)
      callWith pos f first (backTo pos (starEach [] X.env)) (backToKw pos (keywordEach [] X.env))) := by rfl) :
    PE X (.Call (.Attribute o m apos) [] [] pos) (tMeth C m sp dvs E ta tNil) := by
  intro pins s σ H Q I h
  refine PySem.W.methodCall_KW (pl := pl) (thn (he pins s σ H _ I h) fun u s1 ⟨x, H1, I1, rx, a, dx, fs, ex, ea, l, q⟩ => ?_) ht
  subst ex
  obtain rfl : u = Value.ref a := rx
  refine getmeth_ok I1 ea c hm l ?_
  exact PySem.W.callWith_K0 (first := [.ref a]) I1.kIn hm.kp (run_fn (us := [.ref a]) (vs := [.ref a]) F hr hb hd hx I1 (.cons rfl .nil) q)

structure Mk (K : PySem.W.Frag) (C f : Addr) : Prop where
  makes : PySem.W.makesIn K C = true
  init : PySem.W.findIn K (.ref C) "__init__" = some (some (.ref f))
  fn : PySem.W.isFn K (.ref f) = true
  kp : PySem.W.keepIn K (.ref C) = true

theorem run_make {pins : List (Addr × Obj)} {σ : St} {H : Hp} {s : Shared} {Q : VK} {us : List Value} {vs : List V} (M : Mk X.K C f) (F : FnOk X.prog X.w X.K X.mg X.base CX k f fd ps sp) (hr : Room (k + 1) X.A) (hb : Binds X.K fd ps ds) (hd : Vals dvs ds)
    (hx : Passes CX X E) (I : Inv X pins σ H s) (r : Vals vs us)
    (h : ∀ x dx, H x = none → H dx = none → dx ≠ x → sp (.ref x :: (vs ++ dvs)) (upd (upd H dx (.own x)) x (.ins C dx [])) (fun v H2 => v = .non ∧ Q (.ref x) H2) E) :
    wpAny (model X.prog X.w) X.A (call (.ref C) us) (EP X pins σ Q) X.xe s := by
  have hq := h (s.heap.objs.size + 1) s.heap.objs.size (I.hok.fresh (Nat.le_succ _)) (I.hok.fresh (Nat.le_refl _)) (Nat.ne_of_lt (Nat.lt_succ_self _))
  have I2 := Inv.made (C := C) I
  have r2 : Vals (V.ref (s.heap.objs.size + 1) :: (vs ++ dvs)) (Value.ref (s.heap.objs.size + 1) :: (us ++ ds)) := .cons rfl (r.append hd)
  have hl : (Value.ref (s.heap.objs.size + 1) :: us ++ ds).length = ps.length := by
    have e := r2.length
    rw [F.len _ _ _ _ hq] at e
    exact e.symm
  refine wpAny_call (make_map (f := f) I.kIn M.makes M.init (beq_iff_eq.mp M.fn) (codeAny_mono (F.run _ X.stack _ _ ⟨Value.ref (s.heap.objs.size + 1) :: us, []⟩ (Value.ref (s.heap.objs.size + 1) :: (us ++ ds)) _ _ E (hr.make C us [])
    (I2.env0.make C us []) (hb _ (Value.ref (s.heap.objs.size + 1) :: us) I2.kIn hl) r2 hq) fun r s' hq' => ?_))
  cases r with
  | error e => exact hx pins σ _ _ e s' I2 hq'
  | ok fl =>
    cases fl with
    | ret u =>
      obtain ⟨v, H', I3, rv, ev, q3⟩ := I2.after hq'
      subst ev
      exact ⟨rv, ⟨V.ref (s.heap.objs.size + 1), H', I3, rfl, q3⟩⟩
    | next => exact False.elim hq'
    | brk => exact False.elim hq'
    | cont => exact False.elim hq'
theorem pe_make (M : Mk X.K C f) (F : FnOk X.prog X.w X.K X.mg X.base CX k f fd ps sp) (hr : Room (k + 1) X.A) (hg : Gl X x) (hm : X.mg x = some (.ref C)) (hb : Binds X.K fd ps ds) (hd : Vals dvs ds) (hx : Passes CX X E)
    (ha : PA X (e :: es) t) (hdb : (x == ("__debug__" : Str)) = false := by decide) (he : starEach (e :: es) X.env = (false, eval e X.env) :: starEach es X.env := by rfl) (hpl : (backTo pos (starEach es X.env)).any (·.1) = false := by rfl) :
    PE X (.Call (.Name x p) (e :: es) [] pos) (tMake C sp dvs E t) := by
  intro pins s σ H Q I h
  refine wpAny_Call_Name_kw (ld_glob I hg hm ?_ hdb)
  refine PySem.W.callWith_K (h₀ := X.base) I.ok.mod.kin M.kp (thn (ha pos pins s σ H _ I h) fun us s1 ⟨vs, H1, I1, r, q⟩ => ⟨I1.kIn, ?_⟩) he hpl
  exact run_make M F hr hb hd hx I1 r q
end

section
variable {X : Cx} {CX : CXT} {k : Nat} {f C : Addr} {fd : FuncData} {ps ks : List Str} {sp : Sp} {E : XK} {x m : Str} {p pos apos kpos : Pos} {e o : Expr} {es : List Expr} {kws : List Keyword} {te ta : TE} {t tk : TA} {nm : Option Str}

structure KBinds (K : PySem.W.Frag) (fd : FuncData) (ps ks : List Str) (g : List Value → List Value → List Value) (gV : List V → List V → List V) : Prop where
  to : ∀ (s : Shared) (us ws : List Value), K.In s.heap → (g us ws).length = ps.length → BindsTo s fd ⟨us, ks.zip ws⟩ (ps.zip (g us ws))
  rel : ∀ {vs : List V} {us : List Value} {zs : List V} {ws : List Value}, Vals vs us → Vals zs ws → Vals (gV vs zs) (g us ws)
variable {g : List Value → List Value → List Value} {gV : List V → List V → List V}
end

structure FnScope (N P : List Str) (sc : Scope) : Prop where
  kind : sc.kind = .function
  co : sc.isCoroutine = false
  gen : sc.isGenerator = false
  nd : N.Nodup
  pre : N.take P.length = P
  par : ∀ x ∈ P, sc.names.lookup x = some .local ∨ sc.names.lookup x = some .cell
  nofree : ∀ y ∈ sc.names, y.2 ≠ .free

theorem bindL_out {kindOf : Str → Option NameKind} {x : Str} : ∀ {binds : List (Str × Value)} {m : Str → Option Value}, (∀ v, (x, v) ∉ binds) → bindL kindOf binds m x = m x
  | [], _, _ => rfl
  | (n, v) :: r, m, h => by
    unfold bindL
    rw [bindL_out fun w hw => h w (List.mem_cons_of_mem _ hw)]
    split
    · have : x ≠ n := by rintro rfl; exact h v List.mem_cons_self
      simp [this]
    · rfl
theorem bindC_out {kindOf : Str → Option NameKind} {x : Str} : ∀ {binds : List (Str × Value)} {m : Str → Option Value}, (∀ v, (x, v) ∉ binds) → bindC kindOf binds m x = m x
  | [], _, _ => rfl
  | (n, v) :: r, m, h => by
    unfold bindC
    rw [bindC_out fun w hw => h w (List.mem_cons_of_mem _ hw)]
    split
    · rfl
    · have : x ≠ n := by rintro rfl; exact h v List.mem_cons_self
      simp [this]
theorem bindL_get {kindOf : Str → Option NameKind} {x : Str} {v : Value} : ∀ {P : List Str} {vs : List Value} {i : Nat} {m : Str → Option Value}, P.Nodup → P[i]? = some x → vs[i]? = some v → kindOf x = some .local →
    bindL kindOf (P.zip vs) m x = some v
  | [], _, _, _, _, h, _, _ => by simp at h
  | _ :: _, [], _, _, _, _, h, _ => by simp at h
  | p :: P, w :: vs, 0, m, nd, h1, h2, hk => by
    simp at h1 h2; subst h1; subst h2
    show bindL kindOf ((p, w) :: P.zip vs) m p = _
    unfold bindL
    rw [bindL_out fun v hv => (List.nodup_cons.mp nd).1 (List.of_mem_zip hv).1, if_pos hk]
    simp
  | p :: P, w :: vs, i + 1, m, nd, h1, h2, hk => by
    show bindL kindOf ((p, w) :: P.zip vs) m x = _
    unfold bindL
    exact bindL_get (i := i) (List.nodup_cons.mp nd).2 (by simpa using h1) (by simpa using h2) hk
theorem bindC_get {kindOf : Str → Option NameKind} {x : Str} {v : Value} : ∀ {P : List Str} {vs : List Value} {i : Nat} {m : Str → Option Value}, P.Nodup → P[i]? = some x → vs[i]? = some v → kindOf x ≠ some .local →
    bindC kindOf (P.zip vs) m x = some v
  | [], _, _, _, _, h, _, _ => by simp at h
  | _ :: _, [], _, _, _, _, h, _ => by simp at h
  | p :: P, w :: vs, 0, m, nd, h1, h2, hk => by
    simp at h1 h2; subst h1; subst h2
    show bindC kindOf ((p, w) :: P.zip vs) m p = _
    unfold bindC
    rw [bindC_out fun v hv => (List.nodup_cons.mp nd).1 (List.of_mem_zip hv).1, if_neg hk]
    simp
  | p :: P, w :: vs, i + 1, m, nd, h1, h2, hk => by
    show bindC kindOf ((p, w) :: P.zip vs) m x = _
    unfold bindC
    exact bindC_get (i := i) (List.nodup_cons.mp nd).2 (by simpa using h1) (by simpa using h2) hk

def start (N : List Str) (vs : List V) : St := vs.map some ++ List.replicate (N.length - vs.length) none

def cxOf (CX : CXT) (P : Program) (w : World) (K : PySem.W.Frag) (mg : Str → Option Value) (base : Heap) (N : List Str) (qual : Str) (scope : Scope) (f : Addr) (cd : Value) (A : Around) (outer : List Env) (s : Shared) (H : Hp) (E : XK) : Cx where
  prog := P
  w := w
  K := K
  mg := mg
  base := base
  A := A.deeper (envOfC qual scope s.heap.objs.size f cd)
  N := N
  s₀ := s
  H₀ := H
  env := envOfC qual scope s.heap.objs.size f cd
  outer := outer
  stack := envOfC qual scope s.heap.objs.size f cd :: outer
  ex := []
  calm := true
  fn := fun _ => true
  pn := []
  xe := fun e s' => wpAny (model P w) (A.deeper (envOfC qual scope s.heap.objs.size f cd)) (leaving (envOfC qual scope s.heap.objs.size f cd) e) (fun _ s'' => CX outer H s E e s'') (fun e' s'' => CX outer H s E e' s'') s'

theorem cell_has {sc : Scope} {n : Nat} {x : Str} (h : sc.names.lookup x = some .cell) : ∃ c, (cellsFrom n sc.names []).lookup x = some c := by
  have q := PySem.W.cellsFrom_some sc.names n [] (.inl h)
  exact Option.isSome_iff_exists.mp q

theorem inv_start {CX : CXT} {P : Program} {w : World} {K : PySem.W.Frag} {mg : Str → Option Value} {base : Heap} {N ps : List Str} {qual : Str} {scope : Scope} {f : Addr} {cd : Value} {A : Around} {outer : List Env} {s s1 : Shared} {H : Hp} {E : XK} {us : List Value} {vs : List V}
    (S : FnScope N ps scope) (hd : A.handled = none) (e0 : Env0 P w K mg base A outer s H) (hl : vs.length = ps.length) (r : Vals vs us)
    (x : InCallC s s.heap.objs.size (bindL (envOfC qual scope s.heap.objs.size f cd).kindOf (ps.zip us) fun _ => none) (cellsFrom (s.heap.objs.size + 1) scope.names []) (bindC (envOfC qual scope s.heap.objs.size f cd).kindOf (ps.zip us) fun _ => none) s1) :
    Inv (cxOf CX P w K mg base N qual scope f cd A outer s H E) [] (start N vs) H s1 := by
  have hpl : ps.length ≤ N.length := by have := congrArg List.length S.pre; rw [List.length_take] at this; omega
  obtain ⟨h1, tk, rfl, hk⟩ := x.done
  have noA : ∀ b : Addr, b ∉ (cxOf CX P w K mg base N qual scope f cd A outer s H E).ex := fun b z => absurd (show b ∈ ([] : List Addr) from z) (by simp)
  refine ⟨⟨e0.mod, S.kind, rfl, rfl, Nat.le_refl _, fun y z c h1 h2 => ?_, fun y hy => ?_, fun y c _ h => ?_, fun _ => hd, Around.frames_deeper e0.frames, .inr ⟨rfl, rfl⟩, fun b z => absurd z (noA b), e0.bs, e0.bsz, fun b _ _ => noA b, fun b z => absurd z (noA b), e0.funs, e0.frf⟩,
    rfl, e0.bare, Un.kept hk, ⟨_, x.toInCall.ns, fun i y v h1 h2 h3 => ?_⟩, fun y c h => ⟨_, x.cell y c h⟩, e0.hok.fresh (Nat.le_refl _), fun y c h => ?_, fun p hp => absurd (show p ∈ ([] : List (Addr × Obj)) from hp) (by simp), e0.hok.kept hk, ?_⟩
  · exact name_of_addr x.apart (PySem.mem_of_lookup h1) (PySem.mem_of_lookup h2)
  · have hy : scope.names.lookup y = some .cell ∨ scope.names.lookup y = some .free := hy
    rcases hy with hy | hy
    · exact cell_has hy
    · exact absurd rfl (S.nofree _ (PySem.mem_of_lookup hy))
  · exact Nat.le_of_lt (x.above y c (PySem.mem_of_lookup h))
  · have hi : i < vs.length := by
      unfold start at h2
      by_cases hi : i < vs.length
      · exact hi
      · rw [List.getElem?_append_right (by simpa using hi)] at h2
        rw [List.getElem?_replicate] at h2
        split at h2 <;> cases h2
    have ha : vs[i]? = some v := by
      unfold start at h2
      rw [List.getElem?_append_left (by simpa using hi), List.getElem?_map] at h2
      cases e : vs[i]? with
      | none => rw [e] at h2; cases h2
      | some a => rw [e] at h2; cases h2; rfl
    obtain ⟨u, hu, rv⟩ := r.get ha
    have hp : ps[i]? = some y := by
      rw [← S.pre, List.getElem?_take_of_lt (by omega)]; exact h1
    have ndP : ps.Nodup := by rw [← S.pre]; exact S.nd.sublist (List.take_sublist _ _)
    refine ⟨u, rv, ?_⟩
    rcases S.par y (List.mem_of_getElem? hp) with k | k
    · exact .inl ⟨k, bindL_get ndP hp hu k⟩
    · obtain ⟨c, e⟩ := cell_has (n := s.heap.objs.size + 1) k
      refine .inr ⟨.inl k, c, e, ?_⟩
      have q := x.cell y c e
      rw [bindC_get ndP hp hu (by show scope.names.lookup y ≠ _; rw [k]; decide)] at q
      exact q
  · exact e0.hok.fresh (Nat.le_of_lt (x.above y c (PySem.mem_of_lookup h)))
  · unfold start
    show _ = N.length
    rw [List.length_append, List.length_map, List.length_replicate]
    omega

theorem fn_of {CX : CXT} {P : Program} {w : World} {K : PySem.W.Frag} {mg : Str → Option Value} {base : Heap} {k : Nat} {f : Addr} {name qual : Str} {params : Arguments} {body : List Stmt} {scope : Scope} {dV kV doc pm cdv ct oc : Value} {an od : Option Addr}
    {osl : Array (Option Value)} {N ps : List Str} {sp : Sp} (lk : K.lookup f = some ⟨oc, od, .func (PySem.W.fnOf name qual params body scope dV kV doc pm an cdv ct), osl⟩) (hcd : PySem.W.codeIn K cdv qual = true) (S : FnScope N ps scope)
    (len : ∀ vs H Q E, sp vs H Q E → vs.length = ps.length)
    (hbody : ∀ (A : Around) (outer : List Env) (s : Shared) (H : Hp) (vs : List V) (Q : VK) (E : XK), Room k (A.deeper (envOfC qual scope s.heap.objs.size f cdv)) → sp vs H Q E →
      ∃ t, PSs (cxOf CX P w K mg base N qual scope f cdv A outer s H E) body t ∧ t { nx := fun _ H' => Q .non H', rt := Q } (start N vs) H) :
    FnOk P w K mg base CX (k + 1) f (PySem.W.fnOf name qual params body scope dV kV doc pm an cdv ct) ps sp := by
  refine ⟨len, fun A outer s H args us vs Q E hr e0 hb r hsp => ?_⟩
  have hl := len _ _ _ _ hsp
  have KX : K.In s.heap := e0.mod.kin.keeps fun b o e => (e0.bs b o e).1
  have lim : s.heap.NoLimit := e0.mod.nolimit.keeps fun b o e => (e0.bs b o e).1
  have hkind : ∀ y ∈ ps.zip us, scope.names.lookup y.1 = some .local ∨ (scope.names.lookup y.1 = some .cell ∧ ((cellsFrom (s.heap.objs.size + 1) scope.names []).lookup y.1).isSome = true) := fun ⟨n, v⟩ hy => by
    rcases S.par n (List.of_mem_zip hy).1 with q | q
    · exact .inl q
    · exact .inr ⟨q, PySem.W.cellsFrom_some _ _ _ (.inl q)⟩
  refine codeAny_call_function hr.depth (KX _ _ lk) rfl S.co S.gen rfl (PySem.W.codeRec_of KX hcd) (hb _ _ _ _ ?_)
  refine wpAny_newFunctionEnv_cells S.kind hkind fun env he s1 x => ?_
  subst he
  refine ⟨lim.keeps x.toInCall.keep, codeAny_func ?_⟩
  obtain ⟨t, ht, hq⟩ := hbody A outer s H vs Q E (hr.deeper _) hsp
  have I : Inv (cxOf CX P w K mg base N qual scope f cdv A outer s H E) [] (start N vs) H s1 := inv_start S hr.hd e0 hl r x
  refine wpAny_mono (ht [] s1 (start N vs) H _ I hq) (fun fl s' hs => ?_) fun e s' hs => hs
  have fin : ∀ {σ' : St} {H' : Hp} {v : V} {u : Value}, Inv (cxOf CX P w K mg base N qual scope f cdv A outer s H E) [] σ' H' s' → RelV v u → Q v H' → CE outer P w H s Q u s' :=
    fun {σ' H' v u} J rv q => ⟨v, H', J.os, J.bare, J.base, J.hok, rv, q⟩
  cases fl with
  | ret u =>
    obtain ⟨v, σ', H', J, rv, q⟩ := hs
    exact fin J rv q
  | next =>
    obtain ⟨σ', H', J, q⟩ := hs
    exact fin (v := V.non) (u := Value.none) J rfl q
  | brk =>
    obtain ⟨_, _, _, q⟩ := hs
    exact False.elim q
  | cont =>
    obtain ⟨_, _, _, q⟩ := hs
    exact False.elim q
end L2

namespace L2
open PySem PySem.Spec PyProof.Rows
section
variable {X : Cx} {x : Str} {p pos : Pos} {e : Expr} {es : List Expr} {t : TA} {id T : String} {r : List V → Hp → VK → Prop}

def tCB (r : List V → Hp → VK → Prop) (t : TA) : TE := fun σ H Q => t σ H fun vs H1 => r vs H1 Q
theorem pe_callB (hc : CallR X (.builtin id) r) (hg : Gl X x) (hm : X.mg x = none) (hv : bootBuiltins x = some (.builtin id)) (ha : PA X (e :: es) t) (hn : x ≠ "__name__" := by decide) (hdb : (x == ("__debug__" : Str)) = false := by decide)
    (he : starEach (e :: es) X.env = (false, eval e X.env) :: starEach es X.env := by rfl) (hpl : (backTo pos (starEach es X.env)).any (·.1) = false := by rfl) : PE X (.Call (.Name x p) (e :: es) [] pos) (tCB r t) := by
  intro pins s σ H Q I h
  refine wpAny_Call_Name_kw (ld_blt I hg hm hv ?_ hn hdb)
  exact PyProof.Rows.callWith_builtin1 (thn (ha pos pins s σ H _ I h) fun us s1 ⟨vs, H1, I1, r1, q1⟩ => hc pins s1 σ H1 vs us Q I1 r1 q1) he hpl
theorem pe_callTy (hc : CallR X (.type T) r) (hg : Gl X x) (hm : X.mg x = none) (hv : bootBuiltins x = some (.type T)) (ha : PA X (e :: es) t) (hn : x ≠ "__name__" := by decide) (hdb : (x == ("__debug__" : Str)) = false := by decide)
    (he : starEach (e :: es) X.env = (false, eval e X.env) :: starEach es X.env := by rfl) (hpl : (backTo pos (starEach es X.env)).any (·.1) = false := by rfl) : PE X (.Call (.Name x p) (e :: es) [] pos) (tCB r t) := by
  intro pins s σ H Q I h
  refine wpAny_Call_Name_kw (ld_blt I hg hm hv ?_ hn hdb)
  exact PyProof.Rows.callWith_type1 (thn (ha pos pins s σ H _ I h) fun us s1 ⟨vs, H1, I1, r1, q1⟩ => hc pins s1 σ H1 vs us Q I1 r1 q1) he hpl
end
end L2

namespace HT
open PySem PyProof.Rows



section
open PySem.SeqAt
open PySem.AutoSeq1 (wpAny_loadPart')
open PySem.MeetsSeq PySem.MeetsSeq2 PySem.MeetsSeq3

end

section
variable {prog : Program} {w : World} {A : Around} {E : Value → Shared → Prop} {s : Shared}


theorem cat_tup {t b : Addr} {vs ws : List Value} {Q : Value → Shared → Prop} (ht : IsTup s.heap t vs.toArray) (hb : IsTup s.heap b ws.toArray) (hv : vs ≠ [])
    (h1 : ws = [] → Q (.ref t) s) (h2 : ws ≠ [] → Q (.ref s.heap.objs.size) { s with heap := s.heap.push { cls := .type "tuple", data := .seq (vs ++ ws).toArray } })
    (hsz : vs.length + ws.length ≤ sizeLine) : wpAny (model prog w) A (binaryOp .Add (.ref t) (.ref b)) Q E s := by
  obtain ⟨⟨cls, dd, data, sl⟩, ho, hc, n, hd⟩ := id ht
  obtain ⟨⟨cls2, dd2, data2, sl2⟩, ho2, hc2, n2, hd2⟩ := id hb
  simp only at hc hd hc2 hd2
  subst hc hd hc2 hd2
  have e : vs.toArray ++ ws.toArray = (vs ++ ws).toArray := by simp
  by_cases hw : ws = []
  · exact concat_meets ⟨_, ho, rfl⟩ ⟨_, ho2, rfl⟩ noFill_tuple_add seq_tuple_add PySem.F.slot_tuple_add PySem.F.entry_tuple_add (PySem.F.args_tuple_add_2 _ _)
      (tuple_addW1 t b vs.toArray ws.toArray n n2 dd dd2 sl sl2 (by simpa using hv) (by simp [hw])) ⟨ho, ho2, h1 hw⟩
  · refine concat_meets ⟨_, ho, rfl⟩ ⟨_, ho2, rfl⟩ noFill_tuple_add seq_tuple_add PySem.F.slot_tuple_add PySem.F.entry_tuple_add (PySem.F.args_tuple_add_2 _ _)
      (tuple_addW2 t b vs.toArray ws.toArray n n2 dd dd2 sl sl2 (by simpa using hv) (by simpa using hw) (by rw [List.size_toArray, List.size_toArray]; exact hsz)) ⟨ho, ho2, ?_⟩
    rw [e]
    exact h2 hw

def sIx (n d : Nat) : Option Int → Nat
  | none => d
  | some v => if v < 0 then (v + (n : Int)).toNat else min v.toNat n
theorem sIx_none (n d : Nat) : sIx n d none = d := rfl
theorem sIx_nat (n d k : Nat) : sIx n d (some (k : Int)) = min k n := by
  show (if (k : Int) < 0 then ((k : Int) + (n : Int)).toNat else min (k : Int).toNat n) = min k n
  rw [if_neg (by omega), Int.toNat_natCast]
theorem sIx_le (n d : Nat) (hd : d ≤ n) (o : Option Int) : sIx n d o ≤ n := by
  cases o with
  | none => exact hd
  | some v =>
    show (if v < 0 then (v + (n : Int)).toNat else min v.toNat n) ≤ n
    by_cases hv : v < 0
    · rw [if_pos hv]; omega
    · rw [if_neg hv]; exact Nat.min_le_right _ _
theorem clip_eq (v : Int) (n d : Nat) : (if v < 0 then max (v + (n : Int)) 0 else min v (n : Int)) = ((sIx n d (some v) : Nat) : Int) := by
  show (if v < 0 then max (v + (n : Int)) 0 else min v (n : Int)) = (((if v < 0 then (v + (n : Int)).toNat else min v.toNat n) : Nat) : Int)
  by_cases hv : v < 0
  · simp only [if_pos hv]; omega
  · simp only [if_neg hv]; omega
theorem adjust_gen (lo hi : Option Int) (n : Nat) : Builtin.Slice.sliceAdjust lo hi 1 (n : Int) = (((sIx n 0 lo : Nat) : Int), ((sIx n n hi : Nat) : Int)) := by
  have h1 : ¬ ((1 : Int) < 0) := by omega
  unfold Builtin.Slice.sliceAdjust
  simp only [h1, if_false]
  refine Prod.ext ?_ ?_
  · cases lo with
    | none => rfl
    | some v => exact clip_eq v n 0
  · cases hi with
    | none => rfl
    | some v => exact clip_eq v n n
theorem places_gen (i j : Nat) : Builtin.Slice.slicePlaces (i : Int) (j : Int) 1 = j - i := by
  unfold Builtin.Slice.slicePlaces
  have h1 : (1 : Int) > 0 := by omega
  simp only [h1, if_true, Int.ediv_one]
  split <;> omega
theorem slicePart_ {v : Value} {o : Option Int} {Q : Option Int → Shared → Prop} (p : IsPart v o) (h : Q o s) : wpAny (model prog w) A (Builtin.Slice.slicePartIndex v) Q E s := by
  cases p with
  | none => exact slicePart_none h
  | int i t => exact slicePart_int h
theorem sliceApplied_gen {sl : Addr} {vl vu : Value} {lo hi : Option Int} {n : Nat} {Q : Int × Int × Nat → Shared → Prop} (hs : s.heap.IsSliceOf sl vl vu .none) (pl : IsPart vl lo) (pu : IsPart vu hi)
    (h : Q (((sIx n 0 lo : Nat) : Int), 1, sIx n n hi - sIx n 0 lo) s) : wpAny (model prog w) A (Builtin.Slice.sliceApplied (.ref sl) (pure (n : Int))) Q E s := by
  obtain ⟨os, hos, hcs, hds⟩ := id hs
  unfold Builtin.Slice.sliceApplied Builtin.Slice.sliceFields
  refine wpAny_bind (wpAny_bind (wpAny_field hos hds (x := vl) rfl (wpAny_bind (wpAny_field hos hds (x := vu) rfl (wpAny_bind (wpAny_field hos hds (x := .none) rfl (wpAny_pure ?_)))))))
  refine wpAny_bind (slicePart_none ?_)
  show wpAny _ _ (if ((1 : Int) == 0) = true then _ else _) _ _ s
  rw [if_neg (by decide)]
  refine wpAny_bind (slicePart_ pl (wpAny_bind (slicePart_ pu (wpAny_bind (wpAny_pure ?_)))))
  show wpAny _ _ (match Builtin.Slice.sliceAdjust lo hi 1 (n : Int) with | (lo, hi) => pure (lo, (1 : Int), Builtin.Slice.slicePlaces lo hi 1)) _ _ s
  rw [adjust_gen lo hi n]
  show wpAny _ _ (pure (((sIx n 0 lo : Nat) : Int), (1 : Int), Builtin.Slice.slicePlaces ((sIx n 0 lo : Nat) : Int) ((sIx n n hi : Nat) : Int) 1)) _ _ s
  rw [places_gen]
  exact wpAny_pure h
theorem pick_gen (xs : Array Value) (i k : Nat) : ((List.range k).filterMap fun (m : Nat) => xs[((i : Int) + (m : Int) * 1).toNat]?).toArray = ((xs.toList.drop i).take k).toArray := by
  have e : (fun (m : Nat) => xs[((i : Int) + (m : Int) * 1).toNat]?) = fun m => xs[i + m]? := by
    funext m
    have : ((i : Int) + (m : Int) * 1).toNat = i + m := by omega
    rw [this]
  rw [e]
  have := pick_run xs i k
  rw [List.filterMap_map] at this
  have e2 : ((fun x => xs[x]?) ∘ fun x => i + x) = fun m => xs[i + m]? := rfl
  rw [e2] at this
  rw [this]

theorem getItem_tuple_cut {t sl : Addr} {items : Array Value} {vl vu : Value} {lo hi : Option Int} {Q : Value → Shared → Prop} (ht : IsTup s.heap t items) (hs : s.heap.IsSliceOf sl vl vu .none) (pl : IsPart vl lo) (pu : IsPart vu hi)
    (hw : ¬ (sIx items.size 0 lo = 0 ∧ sIx items.size items.size hi = items.size))
    (h : Q (.ref s.heap.objs.size) { s with heap := s.heap.push { cls := .type "tuple", data := .seq ((items.toList.drop (sIx items.size 0 lo)).take (sIx items.size items.size hi - sIx items.size 0 lo)).toArray } })
    (hsz : items.size ≤ sizeLine) : wpAny (model prog w) A (getItem (.ref t) (.ref sl)) Q E s := by
  have htake : sizeOk (.seq ((items.toList.drop (sIx items.size 0 lo)).take (sIx items.size items.size hi - sIx items.size 0 lo)).toArray) := by
    show ((items.toList.drop (sIx items.size 0 lo)).take (sIx items.size items.size hi - sIx items.size 0 lo)).toArray.size ≤ sizeLine
    rw [List.size_toArray, List.length_take, List.length_drop, Array.length_toList]
    omega
  have hj : sIx items.size items.size hi ≤ items.size := sIx_le _ _ (Nat.le_refl _) hi
  obtain ⟨os, hos, hcs, hds⟩ := id hs
  have hTs : s.TypeIs (.ref sl) "slice" := ⟨os, hos, hcs⟩
  unfold getItem
  try with_reducible refine wpAny_holding ?_
  first | refine wpAny_bind (wpAny_pure ?_) | skip
  refine wpAny_bind (wpAny_sequenceKey ht.typeIs (by decide) ?_)
  refine wpAny_bind (wpAny_callSpecial?_slot (name := Str.ofString "__getitem__") ht.typeIs PyProof.Rows.slot_tuple_getitem
    (wpAny_call_entry PyProof.Rows.slot_tuple_getitem ht.typeIs entry_tuple_getitem ?_ (args_tuple_getitem _ _)))
  show wpAny _ _ (Builtin.Tuple.tupleItemsOf (.ref t) >>= _) _ _ s
  refine wpAny_bind (tupleItemsOf_ ht ?_)
  refine wpAny_bind (wpAny_typeOf hTs ?_)
  rw [if_pos (by decide)]
  refine wpAny_bind (sliceApplied_gen hs pl pu ?_)
  have hno : ¬ ((((sIx items.size 0 lo : Nat) : Int) == 0 && (1 : Int) == 1 && (sIx items.size items.size hi - sIx items.size 0 lo) == items.size) = true) := by
    intro q
    rw [Bool.and_eq_true, Bool.and_eq_true] at q
    have q1 : ((sIx items.size 0 lo : Nat) : Int) = 0 := eq_of_beq q.1.1
    have q2 : sIx items.size items.size hi - sIx items.size 0 lo = items.size := eq_of_beq q.2
    exact hw ⟨by omega, by omega⟩
  show wpAny _ _ (if (((sIx items.size 0 lo : Nat) : Int) == 0 && (1 : Int) == 1 && (sIx items.size items.size hi - sIx items.size 0 lo) == items.size) = true then _ else _) _ _ s
  rw [if_neg hno, pick_gen]
  first
    | exact wpAny_bind (m := Builtin.Tuple.tupleExact _) (wpAny_newObj_type (wpAny_pure ⟨_, rfl, wpAny_pure h⟩) htake)
    | exact wpAny_bind (m := Builtin.Tuple.tupleExact _) (wpAny_newObj_type (wpAny_bind (wpAny_pure (wpAny_pure ⟨_, rfl, wpAny_pure h⟩))) htake)
    | exact wpAny_bind (wpAny_bind (m := Builtin.Tuple.tupleExact _) (wpAny_newObj_type (wpAny_pure (wpAny_pure ⟨_, rfl, wpAny_pure h⟩)) htake))
    | exact wpAny_bind (wpAny_bind (m := Builtin.Tuple.tupleExact _) (wpAny_newObj_type (wpAny_pure ⟨_, rfl, wpAny_pure h⟩) htake))
end
end HT

namespace L2
open PySem PySem.Spec PyProof.Rows

abbrev TO := St → Hp → (Option Int → Hp → Prop) → Prop
def PO (X : Cx) (e : Option Expr) (t : TO) : Prop :=
  ∀ (pins : List (Addr × Obj)) (s : Shared) (σ : St) (H : Hp) (Q : Option Int → Hp → Prop), Inv X pins σ H s → t σ H Q →
    wpAny (model X.prog X.w) X.A (evalPart e X.env) (fun u s' => ∃ o H', Inv X pins σ H' s' ∧ IsPart u o ∧ Q o H') X.xe s
def tNoPart : TO := fun _ H Q => Q none H
def tPart (t : TE) : TO := fun σ H Q => t σ H fun x H1 => ∃ i, x = .int i ∧ Q (some i) H1


section
variable {X : Cx} {e : Expr} {te : TE} {lo hi : Option Expr} {tl th : TO} {pos p2 : Pos}

theorem po_none : PO X none tNoPart := by
  intro pins s σ H Q I h
  rw [evalPart_none]
  exact wpAny_pure ⟨none, H, I, .none, h⟩
theorem po_some (h : PE X e te) : PO X (some e) (tPart te) := by
  intro pins s σ H Q I hw
  rw [evalPart_some]
  refine thn (h pins s σ H _ I hw) fun u s1 ⟨x, H1, I1, r1, q1⟩ => ?_
  obtain ⟨i, rfl, q⟩ := q1
  obtain ⟨t, rfl⟩ := r1
  exact ⟨some i, H1, I1, .int i t, q⟩

def SlR (X : Cx) (r : V → Option Int → Option Int → Hp → VK → Prop) : Prop :=
  ∀ (pins : List (Addr × Obj)) (s : Shared) (σ : St) (H : Hp) (x : V) (v vl vu : Value) (lo hi : Option Int) (sl : Addr) (Q : VK), Inv X pins σ H s → RelV x v → s.heap.IsSliceOf sl vl vu .none → IsPart vl lo → IsPart vu hi → r x lo hi H Q →
    ∃ T id, typeLookup (.type T) "__getitem__" = pure (some (.builtin id)) ∧ s.TypeIs v T ∧ wpAny (model X.prog X.w) X.A (getItem v (.ref sl)) (EP X pins σ Q) X.xe s
theorem SlR.or {r r' : V → Option Int → Option Int → Hp → VK → Prop} (h : SlR X r) (h' : SlR X r') : SlR X (fun x lo hi H Q => r x lo hi H Q ∨ r' x lo hi H Q) := by
  intro pins s σ H x v vl vu lo hi sl Q I rx hs pl pu q
  rcases q with q | q
  · exact h pins s σ H x v vl vu lo hi sl Q I rx hs pl pu q
  · exact h' pins s σ H x v vl vu lo hi sl Q I rx hs pl pu q
def tSl (r : V → Option Int → Option Int → Hp → VK → Prop) (te : TE) (tl th : TO) : TE := fun σ H Q => te σ H fun x H1 => tl σ H1 fun l H2 => th σ H2 fun u H3 => r x l u H3 Q
theorem pe_slice {r : V → Option Int → Option Int → Hp → VK → Prop} (hr : SlR X r) (he : PE X e te) (hl : PO X lo tl) (hu : PO X hi th) : PE X (.Subscript e (.Slice lo hi none p2) pos) (tSl r te tl th) := by
  intro pins s σ H Q I h
  refine Subscript_ (thn (he pins s σ H _ I h) fun v s1 ⟨x, H1, I1, r1, q1⟩ => ?_)
  refine wpAny_Slice (thn (hl pins s1 σ H1 _ I1 q1) fun vl s2 ⟨l, H2, I2, pl, q2⟩ => thn (hu pins s2 σ H2 _ I2 q2) fun vu s3 ⟨u, H3, I3, pu, q3⟩ => ?_)
  rw [evalPart_none]
  refine wpAny_pure ?_
  have I4 : Inv X pins σ H3 { s3 with heap := s3.heap.push { cls := .type "slice", data := .fields #[vl, vu, .none] } } := I3.kept (t' := s3.toks) fun b ob q => Heap.get?_push_of_some _ q
  obtain ⟨T, id, hT, ht, hg⟩ := hr pins { s3 with heap := s3.heap.push { cls := .type "slice", data := .fields #[vl, vu, .none] } } σ H3 x v vl vu l u s3.heap.objs.size Q I4 r1 (Heap.IsSliceOf.new ..) pl pu q3
  show wpAny (model X.prog X.w) X.A (subscriptTail e (.Slice lo hi none p2) v (.ref s3.heap.objs.size)) (EP X pins σ Q) X.xe { s3 with heap := s3.heap.push { cls := .type "slice", data := .fields #[vl, vu, .none] } }
  exact tail_any (ops := [.ref s3.heap.objs.size, v]) ht hT hg (by with_unfolding_all rfl)

def cutV (xs : List V) (lo hi : Option Int) : List V := (xs.drop (HT.sIx xs.length 0 lo)).take (HT.sIx xs.length xs.length hi - HT.sIx xs.length 0 lo)
theorem cutV_length (xs : List V) (lo hi : Option Int) : (cutV xs lo hi).length ≤ xs.length := by
  unfold cutV
  rw [List.length_take, List.length_drop]
  omega
def rSlT (K : PySem.W.Frag) : V → Option Int → Option Int → Hp → VK → Prop := fun x lo hi H Q => ∃ a xs, x = .ref a ∧ SqT K H a xs ∧
  ¬ (HT.sIx xs.length 0 lo = 0 ∧ HT.sIx xs.length xs.length hi = xs.length) ∧ ∀ p, H p = none → Q (.ref p) (upd H p (.tup (cutV xs lo hi)))
theorem sl_tup : SlR X (rSlT X.K) := by
  intro pins s σ H x v vl vu lo hi sl Q I rx hs pl pu h
  obtain ⟨a, xs, rfl, hx, hw, q⟩ := h
  cases rx
  obtain ⟨its, r, ht, hz⟩ := I.tuple hx
  have hlen : its.toArray.size = xs.length := by rw [List.size_toArray]; exact r.length.symm
  refine ⟨"tuple", _, PyProof.Rows.slot_tuple_getitem.lookup, ht.typeIs, ?_⟩
  refine HT.getItem_tuple_cut ht hs pl pu (by rw [hlen]; exact hw) ?_ (by rw [hlen]; exact hz)
  rw [hlen]
  refine ⟨.ref s.heap.objs.size, _, I.laid (t' := s.toks) (o := .tup (cutV xs lo hi)) (fun b ob q => Heap.get?_push_of_some _ q) (Nat.le_refl _) ?_, rfl, q _ (I.hok.fresh (Nat.le_refl _))⟩
  exact ⟨Nat.le_trans (cutV_length xs lo hi) hz, _, (r.drop (HT.sIx xs.length 0 lo)).take (HT.sIx xs.length xs.length hi - HT.sIx xs.length 0 lo), IsTup.new _ _, fun _ => ⟨_, Heap.get?_push_size _ rfl, rfl⟩⟩

def rCatT (K : PySem.W.Frag) : R2 := fun x y H Q => ∃ a b xs ys, x = .ref a ∧ y = .ref b ∧ SqT K H a xs ∧ SqT K H b ys ∧ xs ≠ [] ∧ xs.length + ys.length ≤ sizeLine ∧
  (ys = [] → Q (.ref a) H) ∧ (ys ≠ [] → ∀ p, H p = none → Q (.ref p) (upd H p (.tup (xs ++ ys))))
theorem Vals.nil_iff {xs : List V} {us : List Value} (r : Vals xs us) : us = [] ↔ xs = [] := by
  cases r with
  | nil => simp
  | cons _ _ => simp
theorem op_catT : OpR X (binaryOp .Add) (rCatT X.K) := by
  intro pins s σ H x y v u Q I rx ry h
  obtain ⟨a, b, xs, ys, rfl, rfl, ha, hb, hx, hz, q1, q2⟩ := h
  cases rx
  cases ry
  obtain ⟨its, r1, p1, _⟩ := I.tuple ha
  obtain ⟨its2, r2, p2, _⟩ := I.tuple hb
  refine HT.cat_tup p1 p2 (fun z => hx (r1.nil_iff.mp z)) (fun z => ⟨.ref a, H, I, rfl, q1 (r2.nil_iff.mp z)⟩) (fun z => ?_) (by rw [← r1.length, ← r2.length]; exact hz)
  refine ⟨.ref s.heap.objs.size, _, I.laid (t' := s.toks) (o := .tup (xs ++ ys)) (fun b ob q => Heap.get?_push_of_some _ q) (Nat.le_refl _) ?_, rfl, q2 (fun w => z (r2.nil_iff.mpr w)) _ (I.hok.fresh (Nat.le_refl _))⟩
  exact ⟨by rw [List.length_append]; exact hz, _, r1.append r2, IsTup.new _ _, fun _ => ⟨_, Heap.get?_push_size _ rfl, rfl⟩⟩
end
end L2

namespace L2
open PySem PySem.Spec PyProof.Rows

def ixN (n : Nat) (i : Int) : Option Nat := if 0 ≤ i then (if i < n then some i.toNat else none) else if -(n : Int) ≤ i then some (i + n).toNat else none
def atI {α : Type} (xs : List α) (i : Int) : Option α := (ixN xs.length i).bind fun j => xs[j]?
theorem ixN_seq {n : Nat} {i : Int} {j : Nat} (h : ixN n i = some j) : seqIndex? i n = some j ∧ j < n ∧ -(n : Int) ≤ i ∧ i < n := by
  unfold ixN at h
  by_cases h0 : 0 ≤ i
  · rw [if_pos h0] at h
    by_cases h1 : i < n
    · rw [if_pos h1] at h
      have e : i.toNat = j := Option.some.inj h
      exact ⟨by rw [seqIndex_of h0 h1, e], by omega, by omega, h1⟩
    · rw [if_neg h1] at h; cases h
  · rw [if_neg h0] at h
    by_cases h1 : -(n : Int) ≤ i
    · rw [if_pos h1] at h
      have e : (i + n).toNat = j := Option.some.inj h
      exact ⟨by rw [seqIndex_neg (by omega) h1, e], by omega, h1, by omega⟩
    · rw [if_neg h1] at h; cases h
theorem atI_get {α : Type} {xs : List α} {i : Int} {v : α} (h : atI xs i = some v) : ∃ j, seqIndex? i xs.length = some j ∧ xs[j]? = some v ∧ j < xs.length ∧ -(xs.length : Int) ≤ i ∧ i < xs.length := by
  unfold atI at h
  cases e : ixN xs.length i with
  | none => rw [e] at h; cases h
  | some j =>
    rw [e] at h
    obtain ⟨h1, h2, h3, h4⟩ := ixN_seq e
    exact ⟨j, h1, h, h2, h3, h4⟩
theorem atI_nat {α : Type} {xs : List α} {j : Nat} {v : α} (h : xs[j]? = some v) : atI xs (j : Int) = some v := by
  have hj : j < xs.length := (List.getElem?_eq_some_iff.mp h).1
  have e : ixN xs.length (j : Int) = some j := by
    unfold ixN
    rw [if_pos (by omega), if_pos (by omega)]; simp
  unfold atI; rw [e]; exact h

def PlainIx (b : Expr) : Prop := ∀ o i, subscripted b false o i = operate [o, i] (getItem o i)
def IxR (X : Cx) (r : R2) : Prop :=
  ∀ (value slice : Expr) (pins : List (Addr × Obj)) (s : Shared) (σ : St) (H : Hp) (x y : V) (v u : Value) (Q : VK), Inv X pins σ H s → RelV x v → RelV y u → r x y H Q →
    subscripted slice false v u = operate [v, u] (getItem v u) → wpAny (model X.prog X.w) X.A (subscriptTail value slice v u) (EP X pins σ Q) X.xe s
def MtR (X : Cx) (id : String) (r : V → List V → Hp → VK → Prop) : Prop :=
  ∀ (pins : List (Addr × Obj)) (s : Shared) (σ : St) (H : Hp) (x : V) (xs : List V) (v : Value) (us : List Value) (Q : VK), Inv X pins σ H s → RelV x v → Vals xs us → r x xs H Q →
    wpAny (model X.prog X.w) X.A (call (.builtin id) (v :: us)) (EP X pins σ Q) X.xe s
section
variable {X : Cx} {a b : Expr} {ta tb : TE} {pos : Pos}
theorem IxR.or {r r' : R2} (h : IxR X r) (h' : IxR X r') : IxR X (fun x y H Q => r x y H Q ∨ r' x y H Q) := by
  intro value slice pins s σ H x y v u Q I rx ry q hs
  rcases q with q | q
  · exact h value slice pins s σ H x y v u Q I rx ry q hs
  · exact h' value slice pins s σ H x y v u Q I rx ry q hs
theorem MtR.or {id : String} {r r' : V → List V → Hp → VK → Prop} (h : MtR X id r) (h' : MtR X id r') : MtR X id (fun x xs H Q => r x xs H Q ∨ r' x xs H Q) := by
  intro pins s σ H x xs v us Q I rx rs q
  rcases q with q | q
  · exact h pins s σ H x xs v us Q I rx rs q
  · exact h' pins s σ H x xs v us Q I rx rs q
theorem pe_ix {r : R2} (hr : IxR X r) (ha : PE X a ta) (hb : PE X b tb) (hs : PlainIx b) : PE X (.Subscript a b pos) (tOp r ta tb) := by
  intro pins s σ H Q I h
  exact Subscript_ (binT ha hb I h fun v u s2 x y H2 I2 rx ry q => hr a b pins s2 σ H2 x y v u Q I2 rx ry q (hs _ _))

def rIxL (K : PySem.W.Frag) : R2 := fun x y H Q => ∃ p xs i v, x = .ref p ∧ y = .int i ∧ SqL K H p xs ∧ atI xs i = some v ∧ Q v H
def rIxT (K : PySem.W.Frag) : R2 := fun x y H Q => ∃ p xs i v, x = .ref p ∧ y = .int i ∧ SqT K H p xs ∧ atI xs i = some v ∧ Q v H
theorem ix_list : IxR X (rIxL X.K) := by
  intro value slice pins s σ H x y v u Q I rx ry h hs
  obtain ⟨p, xs, i, z, rfl, rfl, hq, he, q⟩ := h
  cases rx
  obtain ⟨t, rfl⟩ := ry
  obtain ⟨its, r, pl, hz⟩ := I.list hq
  obtain ⟨j, h1, h2, h3, h4, h5⟩ := atI_get he
  obtain ⟨w, ew, rw'⟩ := r.get h2
  have hl := r.length
  have hn := line63
  have fin : EP X pins σ Q w s := ⟨z, H, I, rw', q⟩
  by_cases h0 : 0 ≤ i
  · have hj : i.toNat = j := by
      rw [seqIndex_of h0 h5] at h1
      exact Option.some.inj h1
    exact item_listR pl.isList h0 (by omega) (by rw [hj]; simpa using ew) fin hs
  · have hj : (i + (its.toArray.size : Int)).toNat = j := by
      rw [seqIndex_neg (by omega) h4] at h1
      rw [List.size_toArray, ← hl]
      exact Option.some.inj h1
    exact subscriptTail_builtinR (x := w) pl.isList.typeIs slot_list_getitem.lookup
      (wpAny_getItem_list_neg (Q := fun r s' => r = w ∧ EP X pins σ Q r s') pl.isList (by omega) (by rw [List.size_toArray] <;> omega) (by omega) (by rw [hj]; simpa using ew) ⟨rfl, fin⟩) hs
theorem ix_tup : IxR X (rIxT X.K) := by
  intro value slice pins s σ H x y v u Q I rx ry h hs
  obtain ⟨p, xs, i, z, rfl, rfl, hq, he, q⟩ := h
  cases rx
  obtain ⟨t, rfl⟩ := ry
  obtain ⟨its, r, pl, hz⟩ := I.tuple hq
  obtain ⟨j, h1, h2, h3, h4, h5⟩ := atI_get he
  obtain ⟨w, ew, rw'⟩ := r.get h2
  have hl := r.length
  have hn := line63
  have fin : EP X pins σ Q w s := ⟨z, H, I, rw', q⟩
  exact subscriptTail_builtinR (x := w) pl.typeIs slot_tuple_getitem.lookup
    (getItem_tuple (j := j) (Q := fun r s' => r = w ∧ EP X pins σ Q r s') pl (by omega) (by omega) (by rw [List.size_toArray, ← hl]; exact h1) (by simpa using ew) ⟨rfl, fin⟩) hs

theorem mapSeq_set (its : List Value) (n j : Nat) (u : Value) : Obj.mapSeq (·.setIfInBounds j u) { cls := .type "list", data := .seq its.toArray n } = { cls := .type "list", data := .seq (its.set j u).toArray n } := by
  simp [Obj.mapSeq]
theorem Inv.lst {pins : List (Addr × Obj)} {σ : St} {H : Hp} {s : Shared} {p : Addr} {xs : List V} (I : Inv X pins σ H s) (h : H p = some (.lst xs)) :
    ∃ (its : List Value) (n : Nat), Vals xs its ∧ s.heap.get? p = some { cls := .type "list", data := .seq its.toArray n } ∧ xs.length ≤ sizeLine := by
  obtain ⟨z, its, n, r, e⟩ := I.hok p _ h
  exact ⟨its, n, r, e, z⟩
theorem Inv.lstUpd {pins : List (Addr × Obj)} {σ : St} {H : Hp} {s : Shared} {p : Addr} {xs ys : List V} {its its' : List Value} {n n' : Nat} {f : Obj → Obj} (I : Inv X pins σ H s) (h : H p = some (.lst xs))
    (ho : s.heap.get? p = some { cls := .type "list", data := .seq its.toArray n }) (hf : f { cls := .type "list", data := .seq its.toArray n } = { cls := .type "list", data := .seq its'.toArray n' }) (r : Vals ys its') (hz : ys.length ≤ sizeLine) (t : Nat) :
    Inv X pins σ (upd H p (.lst ys)) { s with heap := s.heap.update p f, toks := t } := by
  have e : (s.heap.update p f).get? p = some { cls := .type "list", data := .seq its'.toArray n' } := by
    rw [Heap.get?_update_self f ho (by rw [hf] <;> rfl), hf]
  refine I.write (x := p) (e := p) (by rw [h]; trivial) (.inl rfl) (fun b u hb q => (Heap.get?_update_other _ _ (Ne.symm hb)).trans q) ⟨_, e⟩ ?_
  exact ⟨hz, its', n', r, e⟩
def rSetL : V → V → V → Hp → (Hp → Prop) → Prop := fun o i v H Q => ∃ p xs k j, o = .ref p ∧ i = .int k ∧ H p = some (.lst xs) ∧ ixN xs.length k = some j ∧ Q (upd H p (.lst (xs.set j v)))
theorem set_list : PSet X rSetL := by
  intro pins s σ H o i v ov iv u Q I ro ri rv h
  obtain ⟨p, xs, k, j, rfl, rfl, hp, hj, q⟩ := h
  cases ro
  obtain ⟨t, rfl⟩ := ri
  obtain ⟨its, n, r, ho, hz⟩ := I.lst hp
  obtain ⟨h1, h2, h3, h4⟩ := ixN_seq hj
  have hl := r.length
  have hn := line63
  have I' : Inv X pins σ (upd H p (.lst (xs.set j v))) { s with heap := s.heap.update p (Obj.mapSeq (·.setIfInBounds j u)) } :=
    I.lstUpd hp ho (mapSeq_set its n j u) (r.set rv j) (by rw [List.length_set]; exact hz) s.toks
  by_cases h0 : 0 ≤ k
  · have hk : k.toNat = j := by
      rw [seqIndex_of h0 h4] at h1
      exact Option.some.inj h1
    exact PySem.W.ki_setAt ho h0 (by omega) (by rw [List.size_toArray, ← hl]; exact h4) (by rw [hk]; exact ⟨_, I', q⟩)
  · have hk : (k + (its.toArray.size : Int)).toNat = j := by
      rw [seqIndex_neg (by omega) h3] at h1
      rw [List.size_toArray, ← hl]
      exact Option.some.inj h1
    exact PySem.W.ki_setBack ho (by omega) (by rw [List.size_toArray, ← hl]; exact h3) (by omega) (by rw [hk]; exact ⟨_, I', q⟩)

theorem slice_bounds (lo hi : Option Int) (n : Nat) : (sliceBounds lo hi none n).1 = ((HT.sIx n 0 lo : Nat) : Int) ∧ (sliceBounds lo hi none n).2.1 = ((HT.sIx n n hi : Nat) : Int) ∧ (sliceBounds lo hi none n).2.2 = 1 := by
  refine ⟨?_, ?_, rfl⟩
  · cases lo with
    | none => simp [sliceBounds, HT.sIx]
    | some i =>
      simp only [sliceBounds, HT.sIx, Option.getD_none, show (1 : Int) > 0 by decide, if_true]
      by_cases h : i < 0
      · simp only [h, if_true] <;> omega
      · simp only [h, if_false] <;> omega
  · cases hi with
    | none => simp [sliceBounds, HT.sIx]
    | some i =>
      simp only [sliceBounds, HT.sIx, Option.getD_none, show (1 : Int) > 0 by decide, if_true]
      by_cases h : i < 0
      · simp only [h, if_true] <;> omega
      · simp only [h, if_false] <;> omega
theorem slicePick_cut (its : List Value) (lo hi : Option Int) : slicePick its.toArray lo hi none = ((its.drop (HT.sIx its.length 0 lo)).take (HT.sIx its.length its.length hi - HT.sIx its.length 0 lo)).toArray := by
  obtain ⟨h1, h2, h3⟩ := slice_bounds lo hi its.toArray.size
  unfold slicePick
  rw [h1, h2, h3]
  simp only [sliceRange_one, pick_run, List.size_toArray] <;> rfl
def rSlL (K : PySem.W.Frag) : V → Option Int → Option Int → Hp → VK → Prop := fun x lo hi H Q => ∃ a xs, x = .ref a ∧ SqL K H a xs ∧ ∀ p, H p = none → Q (.ref p) (upd H p (.lst (cutV xs lo hi)))
theorem sl_list : SlR X (rSlL X.K) := by
  intro pins s σ H x v vl vu lo hi sl Q I rx hs pl pu h
  obtain ⟨a, xs, rfl, hx, q⟩ := h
  cases rx
  obtain ⟨its, r, ht, hz⟩ := I.list hx
  have hlen := r.length
  refine ⟨"list", _, slot_list_getitem.lookup, ht.isList.typeIs, ?_⟩
  refine wpAny_getItem_list_slice ht.isList hs pl pu .none (by simp) ?_ (by rw [List.size_toArray] <;> omega)
  rw [slicePick_cut, ← hlen]
  refine ⟨.ref s.heap.objs.size, _, I.laid (t' := s.toks) (o := .lst (cutV xs lo hi)) (fun b ob q => Heap.get?_push_of_some _ q) (Nat.le_refl _) ?_, rfl, q _ (I.hok.fresh (Nat.le_refl _))⟩
  exact ⟨Nat.le_trans (cutV_length xs lo hi) hz, _, 0, (r.drop (HT.sIx xs.length 0 lo)).take (HT.sIx xs.length xs.length hi - HT.sIx xs.length 0 lo), Heap.get?_push_size _ rfl⟩


theorem CallR.or {f : Value} {r r' : List V → Hp → VK → Prop} (h : CallR X f r) (h' : CallR X f r') : CallR X f (fun xs H Q => r xs H Q ∨ r' xs H Q) := by
  intro pins s σ H xs us Q I rs q
  rcases q with q | q
  · exact h pins s σ H xs us Q I rs q
  · exact h' pins s σ H xs us Q I rs q
theorem call_tuple_of : CallR X (.type "tuple") (fun xs H Q => ∃ p ys, xs = [.ref p] ∧ ((SqL X.K H p ys ∧ ∀ l, H l = none → Q (.ref l) (upd H l (.tup ys))) ∨ (SqT X.K H p ys ∧ Q (.ref p) H))) := by
  intro pins s σ H xs us Q I r h
  obtain ⟨p, ys, rfl, h⟩ := h
  obtain ⟨u, rfl, rx⟩ := vals1 r
  cases rx
  rcases h with ⟨hq, q⟩ | ⟨hq, q⟩
  · obtain ⟨its, r', pl, hz⟩ := I.list hq
    have hlen := r'.length
    refine call_tuple_list pl.isList (fun h' kp => ?_) (by simp only [List.size_toArray] <;> omega)
    have I1 : Inv X pins σ H { s with heap := h' } := I.kept (t' := s.toks) kp
    have I2 : Inv X pins σ (upd H h'.objs.size (.tup ys)) { s with heap := h'.push { cls := .type "tuple", data := .seq its.toArray } } :=
      I1.laid (t' := s.toks) (fun b o e => Heap.get?_push_of_some _ e) (Nat.le_refl _) (show ObjOk X.prog X.w _ _ _ (.tup ys) from ⟨hz, its, r', IsTup.new _ _, fun _ => ⟨_, Heap.get?_push_size _ rfl, rfl⟩⟩)
    exact ⟨.ref h'.objs.size, _, I2, rfl, q _ (I1.hok.fresh (Nat.le_refl _))⟩
  · obtain ⟨its, r', pl, hz⟩ := I.tuple hq
    exact call_tuple_same pl ⟨.ref p, H, I, rfl, q⟩

def tyV (K : PySem.W.Frag) (T : String) (x : V) (H : Hp) : Prop := match x with
  | .str _ => T = "str"
  | .int _ => T = "int"
  | .ref p => (T = "list" ∧ ∃ xs, SqL K H p xs) ∨ (T = "tuple" ∧ ∃ o, K.lookup p = some o ∧ o.cls = .type "tuple" ∧ o.dict = none) ∨
      (T = "dict" ∧ ((∃ kvs, H p = some (.dK kvs)) ∨ ∃ kvs, H p = some (.dT kvs))) ∨ (T = "set" ∧ ∃ S n, H p = some (.set S n))
  | _ => False
theorem tyV_is {pins : List (Addr × Obj)} {σ : St} {H : Hp} {s : Shared} {T : String} {x : V} {v : Value} (I : Inv X pins σ H s) (r : RelV x v) (ty : tyV X.K T x H) :
    s.TypeIs v T ∧ ∀ a, v = .ref a → ∃ ob, s.heap.get? a = some ob ∧ ob.dict = none := by
  cases x with
  | str z =>
    obtain ⟨t, rfl⟩ := r
    cases (show T = "str" from ty)
    exact ⟨typeIs_str s z t, fun _ e => nomatch e⟩
  | int i =>
    obtain ⟨t, rfl⟩ := r
    cases (show T = "int" from ty)
    exact ⟨typeIs_int s i t, fun _ e => nomatch e⟩
  | ref p =>
    cases r
    rcases ty with ⟨rfl, xs, hq⟩ | ⟨rfl, o, hk, hc, hd⟩ | ⟨rfl, hk⟩ | ⟨rfl, S, n, hk⟩
    · obtain ⟨its, _, pl, _⟩ := I.list hq
      refine ⟨pl.isList.typeIs, fun a e => ?_⟩
      cases e
      obtain ⟨o, n, e, c, hd, _⟩ := pl
      exact ⟨o, e, hd⟩
    · refine ⟨⟨o, I.kIn p o hk, hc⟩, fun a e => ?_⟩
      cases e
      exact ⟨o, I.kIn _ o hk, hd⟩
    · have z : ∃ o, s.heap.get? p = some o ∧ o.ExactDict := by
        rcases hk with ⟨kvs, hk⟩ | ⟨kvs, hk⟩
        · obtain ⟨_, _, _, _, o, _, _, e, ex, _⟩ := I.hok p _ hk
          exact ⟨o, e, ex⟩
        · obtain ⟨_, _, _, _, o, _, _, e, ex, _⟩ := I.hok p _ hk
          exact ⟨o, e, ex⟩
      obtain ⟨o, e, ex⟩ := z
      refine ⟨⟨o, e, ex.1⟩, fun a e2 => ?_⟩
      cases e2
      exact ⟨o, e, ex.2.1⟩
    · obtain ⟨o, _, _, _, e, ex, _⟩ := I.hok p _ hk
      refine ⟨⟨o, e, ex.1⟩, fun a e2 => ?_⟩
      cases e2
      exact ⟨o, e, ex.2.1⟩
  | _ => exact False.elim ty
def tBM (K : PySem.W.Frag) (T : String) (r : V → List V → Hp → VK → Prop) (to : TE) (t : TA) : TE := fun σ H Q => to σ H fun x H1 => tyV K T x H1 ∧ t σ H1 fun xs H2 => r x xs H2 Q
variable {o e : Expr} {es : List Expr} {to : TE} {t : TA} {name : Str} {apos cpos : Pos} {T id : String} {r : V → List V → Hp → VK → Prop}
theorem pe_bm (pa : PlainAttrs T) (slot : Slot T name id) (hty : typeOf (.builtin id) = pure (.type "method_descriptor")) (hm : MtR X id r) (ho : PE X o to) (ha : PA X (e :: es) t)
    (hbase : attributeBase o name X.env (eval o X.env) = eval o X.env := by rfl)
    (hfew : ((backTo cpos (starEach (e :: es) X.env)).all (fun x => !x.1) && (backToKw cpos (keywordEach [] X.env)).all (fun x => x.1.isSome)
      && decide ((e :: es).length + ([] : List Keyword).length + (if ([] : List Keyword).isEmpty then 0 else 1) < 30)) = true := by rfl)
    (hline : (apos.endLine == cpos.line) = true := by rfl) (hs : starEach (e :: es) X.env = (false, eval e X.env) :: starEach es X.env := by rfl) (hplain : (backTo cpos (starEach es X.env)).any (·.1) = false := by rfl) :
    PE X (.Call (.Attribute o name apos) (e :: es) [] cpos) (tBM X.K T r to t) := by
  intro pins s σ H Q I h
  refine wpAny_Call_method_late hbase hfew hline rfl (thn (ho pins s σ H _ I h) fun v s1 ⟨x, H1, I1, r1, ty, q1⟩ => ?_)
  obtain ⟨h1, h2⟩ := tyV_is I1 r1 ty
  refine ⟨T, id, pa, slot, hty, h1, h2, ?_⟩
  have hA := ha cpos pins s1 σ H1 _ I1 q1
  rw [hs] at hA ⊢
  refine Calls.callWith_builtin (by show (false || (backTo cpos (starEach es X.env)).any (·.1)) = false; rw [hplain] <;> rfl) (Calls.evalArgs_plain ?_)
  exact thn hA fun us s2 ⟨vs, H2, I2, r2, q2⟩ => hm pins s2 σ H2 x vs v us Q I2 r1 r2 q2
end
end L2

namespace L2
open PySem PySem.Spec PyProof.Rows

def MtM (X : Cx) (id : String) (r : V → List V → Hp → VK → Prop) : Prop :=
  ∀ (pins : List (Addr × Obj)) (s : Shared) (σ : St) (H : Hp) (x : V) (xs : List V) (v : Value) (us : List Value) (Q : VK), Inv X pins σ H s → RelV x v → Vals xs us → r x xs H Q →
    wpAny (model X.prog X.w) X.A (call (.builtin id) (v :: us)) (EP X pins σ Q) X.xe s

theorem Vals.one : ∀ {x : V} {us : List Value}, Vals [x] us → ∃ u, us = [u] ∧ RelV x u
  | _, _, .cons r .nil => ⟨_, rfl, r⟩
theorem Vals.two : ∀ {x y : V} {us : List Value}, Vals [x, y] us → ∃ u v, us = [u, v] ∧ RelV x u ∧ RelV y v
  | _, _, _, .cons r (.cons q .nil) => ⟨_, _, rfl, r, q⟩
theorem Vals.zero : ∀ {us : List Value}, Vals [] us → us = []
  | _, .nil => rfl
theorem Vals.dropLast {xs : List V} {us : List Value} (h : Vals xs us) : Vals xs.dropLast us.dropLast := by
  induction h with
  | nil => exact .nil
  | cons r t ih =>
    cases t with
    | nil => exact .nil
    | cons q t' => exact .cons r ih
theorem Vals.eraseIdx : ∀ {xs : List V} {us : List Value} (i : Nat), Vals xs us → Vals (xs.eraseIdx i) (us.eraseIdx i)
  | _, _, _, .nil => .nil
  | _, _, 0, .cons _ t => t
  | _, _, i + 1, .cons r t => .cons r (Vals.eraseIdx i t)
theorem len_erase {α : Type} : ∀ (l : List α) (i : Nat), (l.eraseIdx i).length ≤ l.length
  | [], _ => Nat.le_refl _
  | _ :: _, 0 => Nat.le_succ _
  | _ :: r, i + 1 => Nat.succ_le_succ (len_erase r i)

section
variable {X : Cx} {pins : List (Addr × Obj)} {σ : St} {H : Hp} {s : Shared} {l b : Addr} {xs ys zs : List V}

theorem Inv.lset {its its' : List Value} {n : Nat} {f : Array Value → Array Value} {t' : Nat} (I : Inv X pins σ H s) (hH : H l = some (.lst xs))
    (e : s.heap.get? l = some { cls := .type "list", data := .seq its.toArray n }) (hf : f its.toArray = its'.toArray) (hv : Vals ys its') (hz : ys.length ≤ sizeLine) :
    Inv X pins σ (upd H l (.lst ys)) { s with heap := s.heap.update l (Obj.mapSeq f), toks := t' } := by
  have q := PySem.IsL.update e f
  rw [hf] at q
  refine I.write (x := l) (e := l) (by rw [hH]; exact trivial) (.inl rfl) (fun b' u hb hu => (Heap.get?_update_other s.heap (Obj.mapSeq f) (Ne.symm hb)).trans hu) ⟨_, q⟩ ?_
  exact ⟨hz, its', _, hv, q⟩
theorem Inv.fresh (I : Inv X pins σ H s) : H s.heap.objs.size = none := I.hok.fresh (Nat.le_refl _)
theorem Inv.lstM (I : Inv X pins σ H s) (hH : H l = some (.lst xs)) : xs.length ≤ sizeLine ∧ ∃ (its : List Value) (n : Nat), Vals xs its ∧ xs.length = its.length ∧ s.heap.get? l = some { cls := .type "list", data := .seq its.toArray n } := by
  obtain ⟨z, its, n, r, e⟩ := I.hok l _ hH
  exact ⟨z, its, n, r, r.length, e⟩

end

section
variable {X : Cx}

def rAppend : V → List V → Hp → VK → Prop := fun x vs H Q => ∃ l xs y, x = .ref l ∧ vs = [y] ∧ H l = some (.lst xs) ∧ xs.length < sizeLine ∧ Q .non (upd H l (.lst (xs ++ [y])))
theorem mt_append : MtM X "list.append" rAppend := by
  intro pins s σ H x vs v us Q I rx rv h
  obtain ⟨l, xs, y, rfl, rfl, hH, hz, q⟩ := h
  cases rx
  obtain ⟨u, rfl, ru⟩ := rv.one
  obtain ⟨z, its, n, r, hl, e⟩ := I.lstM hH
  refine call_meets F.slot_list_append ⟨_, e, rfl⟩ F.entry_list_append (F.args_list_append_2 _ _) (PySem.list_append l its.toArray n u (by rw [List.size_toArray]; omega)) ⟨e, ?_⟩
  refine ⟨.non, _, I.lset (its' := its ++ [u]) hH e (by simp) (r.append (.cons ru .nil)) ?_, rfl, q⟩
  rw [List.length_append, List.length_singleton]
  omega



def rPopAt : V → List V → Hp → VK → Prop := fun x vs H Q => ∃ l xs i k y, x = .ref l ∧ vs = [.int i] ∧ H l = some (.lst xs) ∧ -(2 ^ 63) ≤ i ∧ i < 2 ^ 63 ∧ seqIndex? i xs.length = some k ∧ xs[k]? = some y ∧ Q y (upd H l (.lst (xs.eraseIdx k)))
theorem mt_popAt : MtM X "list.pop" rPopAt := by
  intro pins s σ H x vs v us Q I rx rv h
  obtain ⟨l, xs, i, k, y, rfl, rfl, hH, h1, h2, hk, hy, q⟩ := h
  cases rx
  obtain ⟨u, rfl, ru⟩ := rv.one
  obtain ⟨t, rfl⟩ := ru
  obtain ⟨z, its, n, r, hl, e⟩ := I.lstM hH
  obtain ⟨w, hw, rw'⟩ := r.get hy
  refine call_meets F.slot_list_pop ⟨_, e, rfl⟩ F.entry_list_pop (F.args_list_pop_2 _ _)
    (MeetsSeq.list_pop_at l its.toArray n i t k w (fitsIndex_both h1 h2) (by rw [List.size_toArray, ← hl]; exact hk) (by rw [← Array.getElem?_toList]; exact hw) (by rw [List.size_toArray]; omega)) ⟨e, ?_⟩
  refine ⟨y, _, I.lset (its' := its.eraseIdx k) hH e ?_ (r.eraseIdx k) ?_, rw', q⟩
  · show its.toArray.eraseIdxIfInBounds k = (its.eraseIdx k).toArray
    rw [List.eraseIdxIfInBounds_toArray]
  · have := len_erase xs k
    omega




end

section
variable {prog : Program} {w : World} {A : Around} {E : Value → Shared → Prop} {s : Shared}
set_option maxRecDepth 100000 in
end

section
variable {X : Cx}
end
end L2

namespace Att
open PySem PySem.W PySem.Calls PyProof.Rows

theorem ints_of_wellAll {P : Params} {h : Heap} : ∀ (ns : List Int) (vs : List Value), WellAll P h vs (ns.map WData.int) → IntsAre vs ns := by
  intro ns
  induction ns with
  | nil =>
    intro vs w
    rw [List.map_nil] at w
    cases w
    exact .nil
  | cons n ns ih =>
    intro vs w
    rw [List.map_cons] at w
    cases w with
    | cons a b =>
      cases a
      exact .cons _ _ (ih _ b)

theorem script_of {l : OpenLaw} {n : Nat} (hn : l.most = some n) {P : Params} {h : Heap} {args : List WData} {vals : List Value}
    (hpre : l.row.toRowW.claim.pre args = true) (hwl : WellAll P h vals args) :
    ∃ a vs ns, vals = [Value.ref a] ∧ args = [WData.list (ns.map WData.int)] ∧ h.get? a = some { cls := .type "list", data := .seq vs.toArray } ∧ IntsAre vs ns ∧ ns.length ≤ n := by
  have hsh : WShape.hasAll [] args [.list .int] = true := (pre_splitW hpre).1
  have hc : l.pre.holds [] { args := args } = true := (pre_splitW hpre).2
  obtain ⟨d, r, rfl, h1, h2⟩ := hasAllW_cons hsh
  obtain rfl := hasAllW_nil h2
  obtain ⟨xs, rfl, h3⟩ := hasW_list h1
  obtain ⟨ns, rfl⟩ := items_int h3
  have hlen : ns.length ≤ n := by
    unfold OpenLaw.pre at hc
    have h4 : (WTm.not (.lt (.lit (.int (n : Int))) (.len (.arg 0)))).holds [] { args := [.list (ns.map .int)] } = true := by
      have h4 := (holds_andW hc).1
      rw [hn] at h4
      exact h4
    have h5 := condW_of h4 (w_not (w_lt w_lit (w_len_list (w_arg rfl))))
    rw [List.length_map] at h5
    refine Nat.le_of_not_lt fun q => ?_
    have q' : (n : Int) < ((ns.length : Nat) : Int) := by omega
    first
      | (rw [decide_eq_true q'] at h5; exact absurd h5 (by decide))
      | (simp at h5; omega)
  cases hwl with
  | cons w1 w2 =>
    cases w2
    cases w1 with
    | list ho hall => exact ⟨_, _, ns, rfl, rfl, ho, ints_of_wellAll ns _ hall, hlen⟩

theorem post_true (l : OpenLaw) (args : List WData) : l.row.toRowW.claim.post args (.bool true) args = true :=
  postW_of (r := l.row.toRowW) (X := (true == true))
    (show WShape.has [] (.bool true) .bool = true by first | rfl | decide | simp [WShape.has, WShape.arms, WShape.armsAll])
    (show (WTm.eq .res (.lit (.bool true))).value [] { args := args, res := some (.bool true), after := args } = some (.bool (true == true)) from w_eq_bool (w_res rfl) w_lit) rfl


theorem attach_call {l : OpenLaw} {n : Nat} {q : Program} {loose : List Str} {XP : (Str → Option Value) → Heap → Prop} {YP : World → Heap → Prop} {d : DefRec}
    (hn : l.most = some n) (hdf : d.params.defaults = [])
    (call : ∀ (w : World) (s₀ s₁ : Shared) (mg mb : Str → Option Value) (fa : Addr) (o : Obj) (pm cd doc : Value) (a : Addr) (vs : List Value) (ns : List Int),
      Ground q loose [] XP w s₀ mg mb s₁.heap → YP w s₁.heap →
      s₁.heap.get? fa = some o → o.data = .func (docDef d.name d.params d.body d.scope pm cd doc) → s₁.heap.CodeRec cd d.name → mg d.name = some (.ref fa) →
      s₁.heap.get? a = some { cls := .type "list", data := .seq vs.toArray } → IntsAre vs ns → ns.length ≤ n → s₁.gens = #[] →
      codeAny (model l.prog w) callerA (.call (.ref fa) ⟨[.ref a], []⟩) (fun r s' => r = .ok (.ret (.bool true)) ∧ OldK s₁.heap s'.heap ∧ s'.os = s₁.os ∧ AllBare s'.gens) s₁) :
    WalkO q loose XP YP l.row.toRowW d [] (fun f vs => PySem.call f vs) := by
  intro w s₀ s₁ mg mb G Y fa o pm cd doc dV kV ho hd hcd hD hmg hg args vals as hpre hlay hrd hwl hlo
  obtain rfl : dV = .none := Dflts.none hD hdf
  obtain rfl : kV = .none := Dflts.noKw hD
  obtain ⟨a, vs, ns, rfl, rfl, hobj, hints, hlen⟩ := script_of hn hpre hwl
  refine enter_call (codeAny_mono (call w s₀ s₁ mg mb fa o pm cd doc a vs ns G Y ho (fd_plain hd) hcd hmg hobj hints hlen hg) fun r s' hq => ?_)
  obtain ⟨rfl, h2, h3, h4⟩ := hq
  exact ⟨.inl ⟨.bool true, .bool true, [], rfl, fun _ => rfl, .bool true, post_true l _, fun _ => ⟨List.Pairwise.nil, fun _ hm => (nomatch hm)⟩⟩, h2, h3, h4⟩


section
variable {prog : Program} {w : World} {A : Around} {E : Value → Shared → Prop} {s : Shared} {K : Frag}





def ledger (h : Heap) (L d : Addr) : List (Addr × Obj) := (List.range h.objs.size).filterMap fun a => if a = L ∨ a = d then none else (h.get? a).map fun o => (a, o)

end
end Att

namespace L2
open PySem PySem.Spec PyProof.Rows

theorem vals_ints : ∀ {vs : List Value} {ns : List Int}, IntsAre vs ns → Vals (ns.map V.int) vs
  | _, _, .nil => .nil
  | _, _, .cons n t h => .cons ⟨t, rfl⟩ (vals_ints h)

def Only (H : Hp) : Prop := ∀ b, H b = none ∨ ∃ o xs, H b = some (.frz o (.lst xs))

theorem law_call {P : Program} {w : World} {K : PySem.W.Frag} {mg mb : Str → Option Value} {CX : CXT} {k : Nat} {fa a : Addr} {fd : FuncData} {x : Str} {sp : Sp} {s₁ : Shared} {vs : List Value} {ns : List Int}
    (KX : K.In s₁.heap) (hns : s₁.heap.Ns mainGlobals mg) (hb : s₁.heap.Ns builtinsNs mb) (hbb : ∀ x : Str, x ≠ "__name__" → mb x = bootBuiltins x) (hlim : s₁.heap.NoLimit) (hsee : s₁.heap.NoSeer) (hg : s₁.gens = #[])
    (ha : s₁.heap.get? a = some { cls := .type "list", data := .seq vs.toArray }) (hi : IntsAre vs ns) (hl : ns.length ≤ sizeLine) (hr : Room k callerA)
    (F : ∀ base : Heap, K.In base → base.Ns mainGlobals mg → FnOk P w K mg base CX k fa fd [x] sp) (hbind : ∀ (s : Shared) (u : Value), BindsTo s fd ⟨[u], []⟩ [(x, u)])
    (hsp : ∀ H : Hp, Only H → SqL K H a (ns.map V.int) → sp [.ref a] H (fun v _ => v = .bl true) fun _ _ _ => False)
    (hCX : ∀ H e s', CX [] H s₁ (fun _ _ _ => False) e s' → False) :
    codeAny (model P w) callerA (.call (.ref fa) ⟨[.ref a], []⟩) (fun r s' => r = .ok (.ret (.bool true)) ∧ OldK s₁.heap s'.heap ∧ s'.os = s₁.os ∧ AllBare s'.gens) s₁ := by
  have rv := vals_ints hi
  have lenV := hi.length
  -- from an abstract heap in which nothing but the script may be tracked
  have core : ∀ H : Hp, Only H → SqL K H a (ns.map V.int) → HOk P w H s₁.heap → (∀ b, H b ≠ none → b = a) → (H a ≠ none → K.lookup a = none) →
      codeAny (model P w) callerA (.call (.ref fa) ⟨[.ref a], []⟩) (fun r s' => r = .ok (.ret (.bool true)) ∧ OldK s₁.heap s'.heap ∧ s'.os = s₁.os ∧ AllBare s'.gens) s₁ := by
    intro H hO hS hok hA hK
    have base_of : ∀ {b : Addr} {o : Obj}, s₁.heap.get? b = some o → H b = none → (hidT s₁.heap H).get? b = some o := fun e n => hidT_get e n
    have noA : ∀ {b : Addr} {o : Obj} {es : Array DictEntry} {ep : Nat}, s₁.heap.get? b = some o → o.data = .dict es ep → H b = none := fun {b o es ep} e d => by
      cases q : H b with
      | none => rfl
      | some u =>
        have e' : b = a := hA b (by rw [q]; simp)
        subst e'
        rw [ha] at e; cases e
        have d' : Data.seq vs.toArray _ = Data.dict es ep := d
        cases d'
    have nsK : ∀ {b : Addr} {m : Str → Option Value}, s₁.heap.Ns b m → (hidT s₁.heap H).Ns b m := fun {b m} ⟨o, es, ep, e, d, r⟩ => ⟨o, es, ep, base_of e (noA e d), d, r⟩
    have hKb : K.In (hidT s₁.heap H) := fun b o e => base_of (KX b o e) (by
      cases q : H b with
      | none => rfl
      | some u =>
        have e' : b = a := hA b (by rw [q]; simp)
        subst e'
        rw [hK (by rw [q]; simp)] at e; cases e)
    have hM : Mod K mg (hidT s₁.heap H) := ⟨hKb, nsK hns, ⟨mb, nsK hb, hbb⟩, let ⟨mc, h1, h2⟩ := hlim; ⟨mc, nsK h1, h2⟩,
      ⟨let ⟨mc, h1, h2⟩ := hsee.statics; ⟨mc, nsK h1, h2⟩, let ⟨mc, h1, h2⟩ := hsee.mods; ⟨mc, nsK h1, h2⟩, let ⟨mc, h1, h2⟩ := hsee.imp; ⟨mc, nsK h1, h2⟩, by
        obtain ⟨mg', bm, ob, n1, n2, n3, n4, n5⟩ := hsee.main
        refine ⟨mg', bm, ob, nsK n1, n2, base_of n3 ?_, n4, n5⟩
        cases q : H bm with
        | none => rfl
        | some u =>
          have e' : bm = a := hA bm (by rw [q]; simp)
          subst e'
          rw [ha] at n3; cases n3
          exact absurd (show Value.type "list" = Value.type "module" from n4) (fun z => by injection z with z; exact absurd z (by decide))⟩⟩
    have e0 : Env0 P w K mg (hidT s₁.heap H) callerA [] s₁ H := ⟨rfl, hM, fun b o e => of_hidT e, Nat.le_of_eq (hidT_size _ _), trivial, fun b hb => absurd (show b ∈ ([] : List Addr) from hb) (by simp), hok, .of_eq hg⟩
    refine codeAny_mono ((F _ hKb (nsK hns)).run callerA [] s₁ H ⟨[.ref a], []⟩ [.ref a] [.ref a] _ _ hr e0 (hbind s₁ (.ref a)) (.cons rfl .nil) (hsp H hO hS)) fun r s' h => ?_
    cases r with
    | error e => exact (hCX H e s' h).elim
    | ok fl =>
      cases fl with
      | next => exact False.elim h
      | brk => exact False.elim h
      | cont => exact False.elim h
      | ret u =>
        obtain ⟨v, H', os, bare, un, hok', r', q⟩ := h
        have q' : v = .bl true := q
        subst q'
        obtain rfl : u = Value.bool true := r'
        refine ⟨rfl, OldK.of_keep fun b o e => ?_, os, bare⟩
        cases q : H b with
        | none => exact un.keep b o e q (by intro z; exact absurd (show b ∈ ([] : List Addr) from z) (by simp)) (by simp)
        | some u =>
          rcases hO b with z | ⟨ob, xs, z⟩
          · rw [q] at z; cases z
          · have z2 := un.frzs b ob _ z
            obtain ⟨e1, _⟩ := hok b _ z
            obtain ⟨e2, _⟩ := hok' b _ z2
            rw [e] at e1; cases e1
            exact e2
  cases hk : K.lookup a with
  | some o =>
    -- the script is one of the module's own objects
    have e := KX a o hk
    rw [ha] at e
    cases e
    refine core (fun _ => none) (fun _ => .inl rfl) (.inr ⟨_, vs.toArray, _, hk, rfl, rfl, rfl, by rw [List.size_toArray, lenV]; exact hl, by simpa using rv⟩) (fun b u z => by have z' : (none : Option HO) = some u := z; cases z') (fun b z => absurd rfl z) fun z => absurd rfl z
  | none =>
    refine core (fun b => if b = a then some (.frz { cls := .type "list", data := .seq vs.toArray } (.lst (ns.map V.int))) else none) (fun b => ?_) (.inl (.inr ⟨{ cls := .type "list", data := .seq vs.toArray }, if_pos rfl⟩)) (fun b u z => ?_) (fun b z => ?_) fun _ => hk
    · by_cases hb : b = a
      · exact .inr ⟨_, _, if_pos hb⟩
      · exact .inl (if_neg hb)
    · by_cases hb : b = a
      · have z' := (if_pos hb).symm.trans z
        cases z'
        subst hb
        exact ⟨ha, by rw [List.length_map]; exact hl, vs, _, rv, ha⟩
      · have z' := (if_neg hb).symm.trans z
        cases z'
    · by_cases hb : b = a
      · exact hb
      · exact absurd (if_neg hb) z
end L2

namespace L2
open PySem PySem.Spec PyProof.Rows

abbrev KOf {K : PySem.W.Frag} {h : Heap} (_ : K.In h) : PySem.W.Frag := K

theorem walk_of {l : PySem.W.OpenLaw} {n k : Nat} {q : Program} {loose : List Str} {XP : (Str → Option Value) → Heap → Prop} {YP : World → Heap → Prop} {d : DefRec} {K : Params → PySem.W.Frag} {CX : World → CXT} {sp : World → Sp} {x : Str}
    (hn : l.most = some n) (hn2 : n ≤ sizeLine) (hdf : d.params.defaults = []) (hr : Room k callerA) (hq : importsNone q = true)
    (hY : ∀ (w : World) (h : Heap), YP w h → (K w.params).In h)
    (F : ∀ (w : World) (mg : Str → Option Value) (fa : Addr) (h : Heap), (K w.params).In h → h.Ns mainGlobals mg → mg d.name = some (.ref fa) →
      ∃ fd : FuncData, (∀ (s : Shared) (u : Value), BindsTo s fd ⟨[u], []⟩ [(x, u)]) ∧
        ∀ base : Heap, (K w.params).In base → base.Ns mainGlobals mg → FnOk l.prog w (K w.params) mg base (CX w) k fa fd [x] (sp w))
    (hsp : ∀ (w : World) (H : Hp) (a : Addr) (ns : List Int), ns.length ≤ n → Only H → SqL (K w.params) H a (ns.map V.int) → sp w [.ref a] H (fun v _ => v = .bl true) fun _ _ _ => False)
    (hCX : ∀ (w : World) (H : Hp) (s : Shared) (e : Value) (s' : Shared), CX w [] H s (fun _ _ _ => False) e s' → False) :
    PySem.W.WalkO q loose XP YP l.row.toRowW d [] (fun f vs => PySem.call f vs) := by
  refine Att.attach_call hn hdf fun w s₀ s₁ mg mb fa o pm cd doc a vs ns G Y ho hd hcd hmg hobj hints hlen hg => ?_
  have KX := hY w _ Y
  obtain ⟨fd, hb, hF⟩ := F w mg fa _ KX G.T.g hmg
  exact law_call KX G.T.g G.T.b G.T.builtins G.T.nolimit (G.T.seer hq) hg hobj hints (Nat.le_trans hlen hn2) hr hF hb (fun H hO hS => hsp w H a ns hlen hO hS) fun H e s' => hCX w H s₁ e s'
end L2


namespace L2
open PySem PySem.Spec PyProof.Rows

def inClass (s : Stmt) (j : Nat) : Stmt := match s with
  | .ClassDef _ _ _ body _ _ _ _ _ _ _ => body.getD j (.Pass ⟨0, 0, 0, 0⟩)
  | _ => .Pass ⟨0, 0, 0, 0⟩
def defArgs (s : Stmt) : Arguments := match s with
  | .FunctionDef _ a _ _ _ _ _ _ _ _ => a
  | _ => { posonlyargs := [], args := [], vararg := none, kwonlyargs := [], kw_defaults := [], kwarg := none, defaults := [] }
def defBody (s : Stmt) : List Stmt := match s with
  | .FunctionDef _ _ b _ _ _ _ _ _ _ => b
  | _ => []
def defScope (s : Stmt) : Scope := match s with
  | .FunctionDef _ _ _ _ _ _ sc _ _ _ => sc
  | _ => { kind := .function, names := [], isGenerator := false, isCoroutine := false }

abbrev CX0 : CXT := fun _ _ _ _ _ _ => False
abbrev E0 : XK := fun _ _ _ => False
theorem pass0 {X : Cx} : Passes CX0 X E0 := fun _ _ _ _ _ _ _ h => h.elim

structure Fun (K : PySem.W.Frag) (x qual : Str) (st : Stmt) (f : Addr) (fd : FuncData) : Prop where
  ex : ∃ (oc : Value) (od : Option Addr) (kV doc pm : Value) (an : Option Addr) (cdv ct : Value) (osl : Array (Option Value)),
    fd = PySem.W.fnOf x qual (defArgs st) (defBody st) (defScope st) .none kV doc pm an cdv ct ∧ K.lookup f = some ⟨oc, od, .func fd, osl⟩ ∧ PySem.W.codeIn K cdv qual = true
  kp : PySem.W.keepIn K (.ref f) = true
section
variable {P : Program} {w : World} {K : PySem.W.Frag} {mg : Str → Option Value} {base : Heap}
theorem Fun.ok {x qual : Str} {st : Stmt} {f : Addr} {fd : FuncData} {N ps : List Str} {k : Nat} {sp : Sp} (F : Fun K x qual st f fd) (S : FnScope N ps (defScope st)) (len : ∀ vs H Q E, sp vs H Q E → vs.length = ps.length)
    (hbody : ∀ (cdv : Value) (A : Around) (outer : List Env) (s : Shared) (H : Hp) (vs : List V) (Q : VK) (E : XK), Room k (A.deeper (envOfC qual (defScope st) s.heap.objs.size f cdv)) → sp vs H Q E →
      ∃ t, PSs (cxOf CX0 P w K mg base N qual (defScope st) f cdv A outer s H E).nox (defBody st) t ∧ t { nx := fun _ H' => Q .non H', rt := Q } (start N vs) H) : FnOk P w K mg base CX0 (k + 1) f fd ps sp := by
  obtain ⟨oc, od, kV, doc, pm, an, cdv, ct, osl, rfl, lk, hcd⟩ := F.ex
  refine fn_of lk hcd S len fun A outer s H vs Q E hr hsp => ?_
  obtain ⟨t, h, q⟩ := hbody cdv A outer s H vs Q E hr hsp
  exact ⟨t, h.nox, q⟩
theorem Fun.binds {x qual : Str} {st : Stmt} {f : Addr} {fd : FuncData} {ps : List Str} (F : Fun K x qual st f fd)
    (h : ∀ (kV doc pm : Value) (an : Option Addr) (cdv ct : Value) (us : List Value), us.length = ps.length → bindArgs (PySem.W.fnOf x qual (defArgs st) (defBody st) (defScope st) .none kV doc pm an cdv ct) ⟨us, []⟩ = pure (ps.zip us)) : Binds K fd ps [] := by
  obtain ⟨oc, od, kV, doc, pm, an, cdv, ct, osl, rfl, lk, hcd⟩ := F.ex
  exact .all (h kV doc pm an cdv ct)
theorem fun_mk {x qual : Str} {st : Stmt} {f : Addr} {oc : Value} {od an : Option Addr} {osl : Array (Option Value)} {kV doc pm cdv ct : Value} (l : K.lookup f = some ⟨oc, od, .func (PySem.W.fnOf x qual (defArgs st) (defBody st) (defScope st) .none kV doc pm an cdv ct), osl⟩)
    (c : PySem.W.codeIn K cdv qual = true) (k : PySem.W.keepIn K (.ref f) = true) : Fun K x qual st f (PySem.W.fnOf x qual (defArgs st) (defBody st) (defScope st) .none kV doc pm an cdv ct) := ⟨⟨oc, od, kV, doc, pm, an, cdv, ct, osl, rfl, l, c⟩, k⟩
end

section
variable {X : Cx}
theorem pv (i : Nat) {x : Str} {pos : Pos} (hN : X.N[i]? = some x := by rfl) (hv : Vis X.env.scope x := by first | exact Or.inl rfl | exact Or.inr (Or.inl rfl) | exact Or.inr (Or.inr rfl)) (hd : (x == ("__debug__" : Str)) = false := by decide)
    (hcd : (x == ("__classdict__" : Str)) = false := by decide) : PE X (.Name x pos) (tVar i) := pe_var hN hv hd hcd
end

theorem iteF {A B : Prop} (h : B) : if false = true then A else B := by
  rw [if_neg Bool.false_ne_true]
  exact h
theorem iteT {A B : Prop} (h : A) : if true = true then A else B := by
  rw [if_pos rfl]
  exact h

def Same (H H' : Hp) : Prop := ∀ b o, H b = some o → H' b = some o
theorem Same.refl (H : Hp) : Same H H := fun _ _ h => h
theorem Same.trans {H H1 H2 : Hp} (a : Same H H1) (b : Same H1 H2) : Same H H2 := fun c o h => b c o (a c o h)
theorem Same.free {H H' : Hp} (e : Same H H') {l : Addr} (h : H' l = Option.none) : H l = Option.none := by
  cases q : H l with
  | none => rfl
  | some o =>
    rw [e l o q] at h
    cases h
theorem Same.seq {K : PySem.W.Frag} {H H' : Hp} {a : Addr} {xs : List V} (e : Same H H') (h : SqL K H a xs) : SqL K H' a xs := by
  rcases h with (h | ⟨o, h⟩) | h
  · exact .inl (.inl (e _ _ h))
  · exact .inl (.inr ⟨o, e _ _ h⟩)
  · exact .inr h

end L2

set_option maxHeartbeats 4000000
namespace L2
open PySem PySem.Spec PyProof.Rows PySem.SeqAt
section
variable {X : Cx}
def CDivB (_ j : Int) : Prop := j ≠ 0 ∧ j.natAbs.log2 < 9000
theorem op_fdivB : OpR X (binaryOp .FloorDiv) (rI CDivB fun i j => .int (i.fdiv j)) := opI fun _ _ _ _ _ _ _ hc q => floordiv_int hc.1 q (Or.inl (PyProof.noPylong_of_log2 hc.2))
def rIsi (K : PySem.W.Frag) : List V → Hp → VK → Prop := fun xs H Q => ∃ x n t b, xs = [x, .ty n] ∧ TyOf K H x t ∧ PySem.W.kitOne K t (.type n) = some b ∧ Q (.bl b) H
theorem call_isi : CallR X (.builtin "isinstance") (rIsi X.K) := by
  intro pins s σ H xs us Q I r h
  obtain ⟨x, n, t, b, rfl, ty, e, q⟩ := h
  cases r with
  | cons rx r1 =>
    cases r1 with
    | cons ry r2 =>
      cases r2
      cases ry
      exact isinst_ok I rx ty e fun tk => ⟨.bl b, H, I.tok _, rfl, q⟩
structure MkO (K : PySem.W.Frag) (C : Addr) : Prop where
  makes : PySem.W.makesIn K C = true
  init : PySem.W.findIn K (.ref C) "__init__" = some (some (.builtin "object.__init__"))
  kp : PySem.W.keepIn K (.ref C) = true
def tMakeO (C : Addr) : TE := fun _ H Q => ∀ x dx, H x = none → H dx = none → dx ≠ x → Q (.ref x) (upd (upd H dx (.own x)) x (.ins C dx []))
theorem pe_makeO {C : Addr} {x : Str} {p pos : Pos} (M : MkO X.K C) (hg : Gl X x) (hm : X.mg x = some (.ref C)) (hdb : (x == ("__debug__" : Str)) = false := by decide) : PE X (.Call (.Name x p) [] [] pos) (tMakeO C) := by
  intro pins s σ H Q I h
  refine wpAny_Call_Name_kw (ld_glob I hg hm ?_ hdb)
  refine PySem.W.callWith_K0 I.kIn M.kp ?_
  have hq := h (s.heap.objs.size + 1) s.heap.objs.size (I.hok.fresh (Nat.le_succ _)) (I.hok.fresh (Nat.le_refl _)) (Nat.ne_of_lt (Nat.lt_succ_self _))
  have I2 := Inv.made (C := C) I
  have Y := PySem.W.makes_of (M := model X.prog X.w) I.kIn M.makes
  refine wpAny_call (make_map0 I.kIn M.makes M.init (fun self => PySem.W.Looks.of_pure (PySem.W.oi_bind self)) ?_)
  have t1 : PySem.W.Looks (model X.prog X.w) ((s.heap.push PySem.W.emptyDict).push (PySem.W.instObj C s.heap.objs.size)) (typeOf (.ref (s.heap.objs.size + 1))) (.ref C) :=
    (PySem.W.Looks.ld (o := PySem.W.instObj C s.heap.objs.size) (by have e : ((s.heap.push PySem.W.emptyDict).push (PySem.W.instObj C s.heap.objs.size)).get? (s.heap.push PySem.W.emptyDict).objs.size = some (PySem.W.instObj C s.heap.objs.size) := Heap.get?_push_size _ rfl; rw [Heap.size_push] at e; exact e)).andThen .now
  have t2 : PySem.W.Looks (model X.prog X.w) ((s.heap.push PySem.W.emptyDict).push (PySem.W.instObj C s.heap.objs.size)) (isInstance (.ref (s.heap.objs.size + 1)) (.type "object")) true :=
    t1.andThen (Y.top.keeps fun b o e => Heap.get?_push_of_some _ (Heap.get?_push_of_some _ e))
  refine PySem.codeAny_call_builtin PySem.W.oi_plain PySem.W.entry_oi (@PySem.W.check_slot (model X.prog X.w) _ _ _ "object.__init__" "object" "__init__" (.ref (s.heap.objs.size + 1)) [] [] _ PySem.W.oi_kind PySem.W.oi_split t2 (PySem.W.oi_args (.ref (s.heap.objs.size + 1))) ?_)
  rw [PySem.W.oi_run]
  exact wpAny_pure (And.intro rfl ⟨V.ref (s.heap.objs.size + 1), _, I2, rfl, hq⟩)
end
mutual
inductive Is (K : PySem.W.Frag) (H : Hp) : V → PyData → Prop
  | non : Is K H .non .none
  | bl (b : Bool) : Is K H (.bl b) (.bool b)
  | int (i : Int) : Is K H (.int i) (.int i)
  | str (x : Str) : Is K H (.str x) (.str x)
  | tup {a : Addr} {xs : List V} {ds : List PyData} : SqT K H a xs → IsAll K H xs ds → Is K H (.ref a) (.tuple ds)
  | lst {a : Addr} {xs : List V} {ds : List PyData} : SqL K H a xs → IsAll K H xs ds → Is K H (.ref a) (.list ds)
inductive IsAll (K : PySem.W.Frag) (H : Hp) : List V → List PyData → Prop
  | nil : IsAll K H [] []
  | cons {v : V} {vs : List V} {d : PyData} {ds : List PyData} : Is K H v d → IsAll K H vs ds → IsAll K H (v :: vs) (d :: ds)
end
theorem Same.tup {K : PySem.W.Frag} {H H' : Hp} {a : Addr} {xs : List V} (e : Same H H') (h : SqT K H a xs) : SqT K H' a xs := by
  rcases h with (h | ⟨o, h⟩) | h
  · exact .inl (.inl (e _ _ h))
  · exact .inl (.inr ⟨o, e _ _ h⟩)
  · exact .inr h
mutual
theorem Is.same {K : PySem.W.Frag} {H H' : Hp} (e : Same H H') : ∀ {v : V} {d : PyData}, Is K H v d → Is K H' v d
  | _, _, .non => .non
  | _, _, .bl b => .bl b
  | _, _, .int i => .int i
  | _, _, .str x => .str x
  | _, _, .tup h r => .tup (e.tup h) (IsAll.same e r)
  | _, _, .lst h r => .lst (e.seq h) (IsAll.same e r)
theorem IsAll.same {K : PySem.W.Frag} {H H' : Hp} (e : Same H H') : ∀ {v : List V} {d : List PyData}, IsAll K H v d → IsAll K H' v d
  | _, _, .nil => .nil
  | _, _, .cons a r => .cons (Is.same e a) (IsAll.same e r)
end
section
variable {X : Cx} {pins : List (Addr × Obj)} {σ : St} {H : Hp} {s : Shared}
mutual
theorem Is.reads (I : Inv X pins σ H s) : ∀ {v : V} {d : PyData} {u : Value}, Is X.K H v d → RelV v u → ∃ as, Reads s.heap u d as
  | _, _, _, .non, r => by cases r; exact ⟨_, .none⟩
  | _, _, _, .bl b, r => by cases r; exact ⟨_, .bool b⟩
  | _, _, _, .int i, r => by obtain ⟨t, rfl⟩ := r; exact ⟨_, .int i t⟩
  | _, _, _, .str x, r => by obtain ⟨t, rfl⟩ := r; exact ⟨_, .str x t⟩
  | _, _, _, .tup h a, r => by
    cases r
    obtain ⟨its, rv, ⟨o, ho, hc, n, hd⟩, _⟩ := I.tuple h
    obtain ⟨as, hr⟩ := IsAll.reads I a rv
    exact ⟨as, .tuple ho hc hd (by simpa using hr)⟩
  | _, _, _, .lst h a, r => by
    cases r
    obtain ⟨its, rv, ⟨o, n, ho, hc, _, hd⟩, _⟩ := I.list h
    obtain ⟨as, hr⟩ := IsAll.reads I a rv
    exact ⟨_, .list ho hc hd (by simpa using hr)⟩
theorem IsAll.reads (I : Inv X pins σ H s) : ∀ {vs : List V} {ds : List PyData} {us : List Value}, IsAll X.K H vs ds → Vals vs us → ∃ as, ReadsAll s.heap us ds as
  | _, _, _, .nil, .nil => ⟨_, .nil⟩
  | _, _, _, .cons a r, .cons q t => by
    obtain ⟨as, h1⟩ := Is.reads I a q
    obtain ⟨bs, h2⟩ := IsAll.reads I r t
    exact ⟨_, .cons h1 h2⟩
end
def rEqD (K : PySem.W.Frag) : R2 := fun x y H Q => ∃ d d', Is K H x d ∧ Is K H y d' ∧ shaped d = true ∧ shaped d' = true ∧ noMix d d' = true ∧ Q (.bl (PySem.Spec.same d d')) H
def rNeD (K : PySem.W.Frag) : R2 := fun x y H Q => ∃ d d', Is K H x d ∧ Is K H y d' ∧ shaped d = true ∧ shaped d' = true ∧ noMix d d' = true ∧ Q (.bl (!PySem.Spec.same d d')) H
theorem op_eqD (hu : X.A.units + 64 < cLine) : OpR X (compareOp .Eq) (rEqD X.K) := by
  intro pins s σ H x y v u Q I rx ry h
  obtain ⟨d, d', hx, hy, sx, sy, nm, q⟩ := h
  obtain ⟨as, ra⟩ := hx.reads I rx
  obtain ⟨bs, rb⟩ := hy.reads I ry
  exact eq_dataH_same ra rb sx sy hu nm ⟨.bl _, H, I, rfl, q⟩
theorem op_neD (hu : X.A.units + 64 < cLine) : OpR X (compareOp .NotEq) (rNeD X.K) := by
  intro pins s σ H x y v u Q I rx ry h
  obtain ⟨d, d', hx, hy, sx, sy, nm, q⟩ := h
  obtain ⟨as, ra⟩ := hx.reads I rx
  obtain ⟨bs, rb⟩ := hy.reads I ry
  exact ne_dataH_same ra rb sx sy hu nm ⟨.bl _, H, I, rfl, q⟩
end
theorem iteI {i j : Int} {A B : Prop} (h1 : i = j → A) (h2 : ¬ i = j → B) : if decide (V.int i = V.int j) = true then A else B := by
  by_cases h : i = j
  · rw [if_pos (decide_eq_true (congrArg V.int h))]; exact h1 h
  · rw [if_neg (by simpa using h)]; exact h2 h
theorem iteP {p A B : Prop} [Decidable p] (h1 : p → A) (h2 : ¬ p → B) : if decide p = true then A else B := by
  by_cases h : p
  · rw [if_pos (decide_eq_true h)]; exact h1 h
  · rw [if_neg (by simpa using h)]; exact h2 h
theorem same_upd {H : Hp} {p : Addr} {o : HO} (h : H p = none) : Same H (upd H p o) := fun b u e => by
  rw [upd_ne (ne_of_none e h)]; exact e
end L2
namespace L2
open PySem PySem.Spec PyProof.Rows
section
variable {P : Program} {w : World} {H H' : Hp} {h h' : Heap}
theorem HOk.there (x : HOk P w H h) {a : Addr} {o : HO} (e : H a = some o) : ∃ ob, h.get? a = some ob := by
  have y := x a o e
  clear e x
  induction o with
  | lst xs => obtain ⟨_, its, n, r, e⟩ := y; exact ⟨_, e⟩
  | tup xs => obtain ⟨_, its, r, ⟨ob, e, c⟩, _⟩ := y; exact ⟨_, e⟩
  | dK kvs => obtain ⟨_, _, vs, r, ob, es, ep, e, c⟩ := y; exact ⟨_, e⟩
  | dT kvs => obtain ⟨_, _, xs, r, ob, es, ep, e, c⟩ := y; exact ⟨_, e⟩
  | set S n => obtain ⟨ob, es, ep, t, e, c⟩ := y; exact ⟨_, e⟩
  | ins C dx fs => obtain ⟨d, z, ne, e, _⟩ := y; exact ⟨_, e⟩
  | own y' => exact y
  | xd fs => obtain ⟨mA, ⟨od, es, ep, e, c⟩, r⟩ := y; exact ⟨_, e⟩
  | rng lo hi => obtain ⟨t, u, v, e⟩ := y; exact ⟨_, e⟩
  | frz ob u ih => exact ⟨_, y.1⟩
  | tbl ps => exact ⟨_, y⟩
  | met f y' => exact ⟨_, y⟩
  | ext φ => exact y.2.1
theorem HOk.nothing (x : HOk P w H h) {a : Addr} (n : h.get? a = none) : H a = none := by
  cases q : H a with
  | none => rfl
  | some o => obtain ⟨ob, e⟩ := x.there q; rw [n] at e; cases e
theorem HOk.loose (x : HOk P w H h) (k : ∀ b u, H b ≠ none → h.get? b = some u → h'.get? b = some u) : HOk P w H h' := fun a o e =>
  (x a o e).stay (fun b u hb q => k b u (by
    rcases hb with z | z
    · rw [z, e]; exact nofun
    · rw [z]; exact nofun) q) (fun _ q => q) fun _ _ q => q
def XT (h : Heap) (a T C : Addr) : Prop := ∃ oe vs a0 oT ts, h.get? a = some oe ∧ (oe.cls = .ref C ∧ vs[0]? = some a0) ∧ oe.data = .fields vs ∧ vs[1]? = some (.ref T) ∧ T ≠ a ∧ h.get? T = some oT ∧ oT.data = .fields ts ∧ ts[3]? = some .none
structure Fly (P : Program) (w : World) (fs : List Addr) (H H' : Hp) (s s' : Shared) (a T C : Addr) : Prop where
  os : s'.os = s.os
  bare : AllBare s'.gens
  un : Un fs [] H H' s.heap s'.heap
  hok : HOk P w H' s'.heap
  xt : XT s'.heap a T C
  na : s.heap.get? a = none
  nT : s.heap.get? T = none
  ha : H' a = none
  hT : H' T = none
def CX1 (P : Program) (w : World) : CXT := fun outer H s E e s' => ∃ a T C H', e = .ref a ∧ Fly P w (frs outer) H H' s s' a T C ∧ E (.ref C) none H'
theorem funs_rebase {h base base' : Heap} : ∀ {l : List Env}, h.FunFrames base l → (∀ b ∈ frs l, base'.get? b = none) → h.FunFrames base' l
  | [], _, _ => trivial
  | env :: r, ⟨k, ⟨L, o, hf, _, ho, hd⟩, t⟩, hb => ⟨k, ⟨L, o, hf, hb L (by unfold frs; rw [List.filterMap_cons, hf]; exact List.mem_cons_self), ho, hd⟩,
      funs_rebase t fun b hm => hb b (by unfold frs; rw [List.filterMap_cons, hf]; exact List.mem_cons_of_mem _ hm)⟩
abbrev hid (h : Heap) (a T : Addr) (fs : List Addr) : Heap := PySem.W.hideAll h (a :: T :: fs)
end
section
variable {P : Program} {w : World} {H H' : Hp} {s s' : Shared} {a T C : Addr} {l : List Env} {base0 : Heap}
theorem Fly.base (F : Fly P w (frs l) H H' s s' a T C) (ff : s'.heap.FunFrames base0 l) : ∃ a0, Heap.FlyingW (hid s'.heap a T (frs l)) l a (.ref C) a0 s'.heap := by
  obtain ⟨oe, vs, a0, oT, ts, e1, e2, e3, e4, e5, e6, e7, e8⟩ := F.xt
  exact ⟨a0, fun b o e => PySem.W.of_hideAll _ e, PySem.W.hideAll_none _ (by simp), funs_rebase ff fun b hb => PySem.W.hideAll_none _ (by simp [hb]),
    oe, vs, T, oT, ts, e1, e2, e3, e4, PySem.W.hideAll_none _ (by simp), e5, e6, e7, e8⟩
theorem Fly.back {l' : List Env} {h' : Heap} {a0 : Value} {tk : Nat} (F : Fly P w (frs l) H H' s s' a T C) (ff : s'.heap.FunFrames base0 l) (fH : ∀ b ∈ frs l, H' b = none)
    (fl : Heap.FlyingW (hid s'.heap a T (frs l)) l' a (.ref C) a0 h') (up : s'.heap.UpToSlots h') : ∃ T', Fly P w (frs l) H H' s { s' with heap := h', toks := tk } a T' C := by
  obtain ⟨k1, _, _, oe, vs, T', oT, ts, e1, e2, e3, e4, e0, e5, e6, e7, e8⟩ := fl
  have keep : ∀ b o, s'.heap.get? b = some o → b ≠ a → b ≠ T → b ∉ frs l → h'.get? b = some o := fun b o e n1 n2 n3 => k1 b o (PySem.W.hideAll_get _ e (by simp [n1, n2, n3]))
  have slot : ∀ b o, s'.heap.get? b = some o → b ∈ frs l → (∃ sl, h'.get? b = some { o with slots := sl }) ∧ ∀ vs, o.data ≠ .fields vs := fun b o e hb => by
    obtain ⟨_, o1, q1, q2⟩ := ff.mem hb
    rw [e] at q1; cases q1
    exact ⟨up b o e q2, q2⟩
  have nf : T' ∉ frs l := fun hb => by
    obtain ⟨_, o1, q1, q2⟩ := ff.mem hb
    obtain ⟨sl, q3⟩ := up _ o1 q1 q2
    rw [e6] at q3; cases q3
    exact q2 _ e7
  have tt : T' = T ∨ s'.heap.get? T' = none := by
    by_cases z : T' = T
    · exact .inl z
    · right
      cases q : s'.heap.get? T' with
      | none => rfl
      | some o =>
        have := PySem.W.hideAll_get (a :: T :: frs l) q (by simp [e5, z, nf])
        rw [e0] at this; cases this
  have hT' : H' T' = none := by
    rcases tt with z | z
    · rw [z]; exact F.hT
    · exact F.hok.nothing z
  have nT' : s.heap.get? T' = none := by
    rcases tt with z | z
    · rw [z]; exact F.nT
    · cases q : s.heap.get? T' with
      | none => rfl
      | some o =>
        obtain ⟨o', q'⟩ := F.un.there _ o q (by simp)
        rw [z] at q'; cases q'
  have ne : ∀ b o, s.heap.get? b = some o → b ≠ a ∧ b ≠ T := fun b o e => ⟨(fun z => by rw [z, F.na] at e; cases e), (fun z => by rw [z, F.nT] at e; cases e)⟩
  refine ⟨T', F.os, F.bare, ⟨fun b o e n hb hx => ?_, fun b o e n hb hx => ?_, F.un.free, fun b o e hx => ?_, F.un.tups, F.un.frzs, F.un.tbls⟩, F.hok.loose fun b u hb e => ?_, ⟨oe, vs, a0, oT, ts, e1, e2, e3, e4, e5, e6, e7, e8⟩, F.na, nT', F.ha, hT'⟩
  · exact keep b o (F.un.keep b o e n hb hx) (ne b o e).1 (ne b o e).2 hb
  · obtain ⟨sl, q⟩ := F.un.slot b o e n hb hx
    obtain ⟨⟨sl', q'⟩, _⟩ := slot b _ q hb
    exact ⟨sl', q'⟩
  · obtain ⟨o', q⟩ := F.un.there b o e hx
    by_cases hb : b ∈ frs l
    · obtain ⟨⟨sl, q'⟩, _⟩ := slot b o' q hb
      exact ⟨_, q'⟩
    · exact ⟨o', keep b o' q (ne b o e).1 (ne b o e).2 hb⟩
  · exact keep b u e (fun z => hb (z ▸ F.ha)) (fun z => hb (z ▸ F.hT)) fun z => hb (fH b z)
def ExcO (a C : Addr) : HO := .ext fun h => ∃ o, h.get? a = some o ∧ o.cls = .ref C
theorem Fly.un' (F : Fly P w (frs l) H H' s s' a T C) : Un (frs l) [] H (upd H' a (ExcO a C)) s.heap s'.heap where
  keep := F.un.keep
  slot := F.un.slot
  free := fun b o e n hx => by rw [upd_ne (fun z => by rw [z, F.na] at e; cases e)]; exact F.un.free b o e n hx
  there := F.un.there
  tups := fun b xs e => by have := F.un.tups b xs e; rw [upd_ne (ne_of_none this F.ha)]; exact this
  frzs := fun b o u e => by have := F.un.frzs b o u e; rw [upd_ne (ne_of_none this F.ha)]; exact this
  tbls := fun b ps e => by obtain ⟨m, q⟩ := F.un.tbls b ps e; exact ⟨m, by rw [upd_ne (ne_of_none q F.ha)]; exact q⟩
theorem Fly.hok' (F : Fly P w (frs l) H H' s s' a T C) : HOk P w (upd H' a (ExcO a C)) s'.heap := fun b o e => by
  by_cases z : b = a
  · subst z
    rw [upd_same] at e; cases e
    obtain ⟨oe, vs, a0, oT, ts, e1, e2, _⟩ := F.xt
    exact ⟨⟨oe, e1, e2.1⟩, ⟨oe, e1⟩, fun h1 h2 ⟨o, q1, q2⟩ k => ⟨o, k o q1, q2⟩⟩
  · rw [upd_ne z] at e
    exact (F.hok b o e).stay (fun _ _ _ q => q) (fun c q => by rw [upd_ne (ne_of_none q F.ha)]; exact q) fun c xs q => by rw [upd_ne (ne_of_none q F.ha)]; exact q
end

def XP (X : Cx) (pins : List (Addr × Obj)) (σ : St) (E : XK) (e : Value) (s' : Shared) : Prop := ∃ s H, Inv X pins σ H s ∧ CX1 X.prog X.w X.stack H s E e s'
structure Thru (X : Cx) (E : XK) : Prop where
  stk : X.stack = X.env :: X.outer
  fr : X.env.frame = some X.env.locals
  ex : X.ex = []
  xe : X.xe = fun e s' => wpAny (model X.prog X.w) X.A (leaving X.env e) (fun _ s'' => CX1 X.prog X.w X.outer X.H₀ X.s₀ E e s'') (fun e' s'' => CX1 X.prog X.w X.outer X.H₀ X.s₀ E e' s'') s'
section
variable {X : Cx} {pins : List (Addr × Obj)} {σ : St} {H : Hp} {s s' : Shared} {E : XK} {e : Value}
theorem Fly.inv {H' : Hp} {a T C : Addr} (I : Inv X pins σ H s) (F : Fly X.prog X.w (frs X.stack) H H' s s' a T C) : Inv X pins σ H' s' := I.call' F.os F.un F.hok F.bare (ch := []) (fun _ z => absurd z (by simp))
theorem Fly.inv' {H' : Hp} {a T C : Addr} (I : Inv X pins σ H s) (F : Fly X.prog X.w (frs X.stack) H H' s s' a T C) : Inv X pins σ (upd H' a (ExcO a C)) s' := I.call' F.os F.un' F.hok' F.bare (ch := []) (fun _ z => absurd z (by simp))
theorem Fly.out {H' : Hp} {a T C : Addr} (R : Thru X E) (I : Inv X pins σ H s) (F : Fly X.prog X.w (frs X.stack) H H' s s' a T C) (q : E (.ref C) none H') : CX1 X.prog X.w X.outer X.H₀ X.s₀ E (.ref a) s' := by
  have fsub : ∀ b ∈ frs X.outer, b ∈ frs X.stack := fun b hb => by rw [R.stk]; unfold frs; rw [List.filterMap_cons, R.fr]; exact List.mem_cons_of_mem _ hb
  have u0 : Un (frs X.stack) [] X.H₀ H X.s₀.heap s.heap := I.base.mono fsub (by rw [R.ex]; simp)
  have u1 := u0.trans F.un
  have neL : ∀ b o, X.s₀.heap.get? b = some o → b ≠ X.env.locals := fun b o e => Nat.ne_of_lt (Nat.lt_of_lt_of_le (Heap.lt_size e) I.ok.above)
  have nin : ∀ b o, X.s₀.heap.get? b = some o → b ∉ frs X.outer → b ∉ frs X.stack := fun b o e hb hm => by
    rw [R.stk] at hm
    unfold frs at hm
    rw [List.filterMap_cons, R.fr] at hm
    rcases List.mem_cons.mp hm with z | z
    · exact neL b o e z
    · exact hb z
  have none0 : ∀ b, s.heap.get? b = none → X.s₀.heap.get? b = none := fun b n => by
    cases q : X.s₀.heap.get? b with
    | none => rfl
    | some o =>
      obtain ⟨o', q'⟩ := I.base.there b o q (by rw [R.ex]; simp)
      rw [n] at q'; cases q'
  exact ⟨a, T, C, H', rfl, ⟨F.os.trans I.os, F.bare, ⟨fun b o e n hb hx => u1.keep b o e n (nin b o e hb) hx, fun b o e n hb hx => u1.slot b o e n (fsub b hb) hx, u1.free, u1.there, u1.tups, u1.frzs, u1.tbls⟩, F.hok, F.xt, none0 a F.na, none0 T F.nT, F.ha, F.hT⟩, q⟩
theorem XP.leave (R : Thru X E) (x : XP X pins σ E e s') : X.xe e s' := by
  obtain ⟨s, H, I, a, T, C, H', rfl, F, q⟩ := x
  have J := F.inv I
  obtain ⟨a0, fl⟩ := F.base J.stack
  rw [R.xe]
  rw [R.stk] at fl
  refine wpAny_leaves_onW (J.ok.frames.trans (by rw [R.stk])) R.fr fl fun h' fl' up => ?_
  rw [← R.stk] at fl'
  obtain ⟨T', F'⟩ := F.back (tk := s'.toks) J.stack J.stkFree fl' up
  exact F'.out R I q
theorem made_leave {h' : Heap} {a C : Addr} {vs : List Value} (R : Thru X E) (I : Inv X pins σ H s) (m : Heap.MadeExcOf s.heap h' a (.ref C) vs) (q : E (.ref C) none H) : X.xe (.ref a) { s with heap := h' } := by
  have J : Inv X pins σ H { s with heap := h' } := I.kept (t' := s.toks) m.keeps
  obtain ⟨t, he, htn, ht⟩ := m.there
  have ha : H a = none := I.hok.nothing m.new
  rw [R.xe]
  have ff : h'.FunFrames (hid h' a a (frs X.stack)) X.stack := funs_rebase J.stack fun b hb => PySem.W.hideAll_none _ (by simp [hb])
  have ff' : h'.FunFrames (hid h' a a (frs X.stack)) (X.env :: X.outer) := by
    have z := J.stack
    rw [R.stk] at z
    exact funs_rebase z fun b hb => PySem.W.hideAll_none _ (by rw [R.stk]; simp [hb])
  refine wpAny_leaving_firstW (a0 := .ref t) (base := hid h' a a (frs X.stack)) (J.ok.frames.trans (by rw [R.stk])) ff' R.fr he (fun b o e => PySem.W.of_hideAll _ e) (PySem.W.hideAll_none _ (by simp)) rfl rfl rfl fun h2 hL => ?_
  obtain ⟨k1, _, ⟨oe, ws, T', oT, ts, e1, e2, e3, e4, e0, e5, e6, e7, e8⟩, k4⟩ := hL
  have ffm : ∀ b ∈ frs X.stack, ∃ o, h'.get? b = some o ∧ ∀ vs, o.data ≠ .fields vs := fun b hb => (ff.mem hb).2
  have keep : ∀ b o, h'.get? b = some o → b ≠ a → b ∉ frs X.stack → h2.get? b = some o := fun b o e n1 n3 => k1 b o (PySem.W.hideAll_get _ e (by simp [n1, n3]))
  have nf : T' ∉ frs X.stack := fun hb => by
    obtain ⟨o1, q1, q2⟩ := ffm _ hb
    obtain ⟨sl, q3⟩ := k4 _ o1 q1 q2
    rw [e6] at q3; cases q3
    exact q2 _ e7
  have nT : h'.get? T' = none := by
    cases q : h'.get? T' with
    | none => rfl
    | some o =>
      have := PySem.W.hideAll_get (a :: a :: frs X.stack) q (by simp [e5, nf])
      rw [e0] at this; cases this
  have ne : ∀ b o, s.heap.get? b = some o → b ≠ a := fun b o e z => by rw [z, m.new] at e; cases e
  have F' : Fly X.prog X.w (frs X.stack) H H s { s with heap := h2 } a T' C := by
    refine ⟨rfl, I.bare, ⟨fun b o e n hb hx => keep b o (m.keeps b o e) (ne b o e) hb, fun b o e n hb hx => ?_, fun _ _ _ n _ => n, fun b o e hx => ?_, fun _ _ e => e, fun _ _ _ e => e, fun b ps e => ⟨#[], by rw [e]; simp⟩⟩, J.hok.loose fun b u hb e => keep b u e (fun z => hb (z ▸ ha)) fun z => hb (J.stkFree b z),
      ⟨oe, ws, _, oT, ts, e1, e2, e3, e4, e5, e6, e7, e8⟩, m.new, ?_, ha, J.hok.nothing nT⟩
    · obtain ⟨o1, q1, q2⟩ := ffm b hb
      have q3 := m.keeps b o e
      rw [q1] at q3; cases q3
      exact k4 b _ q1 q2
    · by_cases hb : b ∈ frs X.stack
      · obtain ⟨o1, q1, q2⟩ := ffm b hb
        obtain ⟨sl, q3⟩ := k4 b o1 q1 q2
        exact ⟨_, q3⟩
      · exact ⟨o, keep b o (m.keeps b o e) (ne b o e) hb⟩
    · cases q : s.heap.get? T' with
      | none => rfl
      | some o => rw [m.keeps _ o q] at nT; cases nT
  exact F'.out R I q
end
end L2
namespace L2
open PySem PySem.Spec PyProof.Rows
abbrev bmV : List Value := [.type "ValueError", .type "Exception", .type "BaseException", .type "object"]
theorem excIn_obj {K : PySem.W.Frag} {h : Heap} {C : Addr} {bmB : List Value} {newId : String} (X : K.In h) (q : PySem.W.excIn K C bmB newId = true) :
    ∃ bm N nm q bs hdct sn sub ab col dd k0 k1 k2 k3 k5 mN, h.get? C = some (excClassObj nm q C N bs bm hdct sn sub ab col dd k0 k1 k2 k3 k5 newId) ∧ h.Ns N mN ∧ mN "__init__" = none ∧ OwnTail h bmB bm := by
  unfold PySem.W.excIn at q
  split at q
  · rename_i dd cd sl ho
    split at q
    · rename_i C' bm k0 k1 k2 k3 n k5 hm hs
      simp only [Bool.and_eq_true, beq_iff_eq, Bool.not_eq_true'] at q
      obtain ⟨⟨⟨⟨⟨rfl, rfl⟩, hdel⟩, ht⟩, hok⟩, hni⟩ := q
      obtain ⟨nm, bs, mro, ns, qn, hd, sn, sub, ab, col, del⟩ := cd
      dsimp only at hm hdel hok hni
      subst hm hdel
      have hsl : sl = #[k0, k1, k2, k3, some (.builtin n), k5] := by
        obtain ⟨l⟩ := sl
        simp only at hs
        rw [hs]
      subst hsl
      exact ⟨bm, ns, nm, qn, bs, hd, sn, sub, ab, col, dd, k0, k1, k2, k3, k5, _, X _ _ ho, .of_isNs (PySem.W.isNs_of_in X hok), PySem.W.nsMap_none_of_in X hok hni, PySem.W.tail_of_in X ht⟩
    · cases q
  · cases q
theorem FnOk.quiet {P : Program} {w : World} {K : PySem.W.Frag} {mg : Str → Option Value} {base : Heap} {k : Nat} {f : Addr} {fd : FuncData} {ps : List Str} {sp : Sp} (F : FnOk P w K mg base (CX1 P w) k f fd ps sp) :
    FnOk P w K mg base CX0 k f fd ps (fun vs H Q _ => sp vs H Q E0) :=
  ⟨fun vs H Q _ h => F.len vs H Q E0 h, fun A outer s H args us vs Q E hr e0 hb r h => codeAny_mono (F.run A outer s H args us vs Q E0 hr e0 hb r h) fun r s' hq => by
    cases r with
    | error e => obtain ⟨_, _, _, _, _, _, z⟩ := hq; exact z.elim
    | ok fl => cases fl <;> exact hq⟩
section
variable {P : Program} {w : World} {K : PySem.W.Frag} {mg : Str → Option Value} {base : Heap}
theorem Fun.okx {x qual : Str} {st : Stmt} {f : Addr} {fd : FuncData} {N ps : List Str} {k : Nat} {sp : Sp} (F : Fun K x qual st f fd) (S : FnScope N ps (defScope st)) (len : ∀ vs H Q E, sp vs H Q E → vs.length = ps.length)
    (hbody : ∀ (cdv : Value) (A : Around) (outer : List Env) (s : Shared) (H : Hp) (vs : List V) (Q : VK) (E : XK), Room k (A.deeper (envOfC qual (defScope st) s.heap.objs.size f cdv)) → sp vs H Q E →
      ∃ t, PSs (cxOf (CX1 P w) P w K mg base N qual (defScope st) f cdv A outer s H E) (defBody st) t ∧ t { nx := fun _ H' => Q .non H', rt := Q } (start N vs) H) : FnOk P w K mg base (CX1 P w) (k + 1) f fd ps sp := by
  obtain ⟨oc, od, kV, doc, pm, an, cdv, ct, osl, rfl, lk, hcd⟩ := F.ex
  exact fn_of lk hcd S len fun A outer s H vs Q E hr hsp => hbody cdv A outer s H vs Q E hr hsp
theorem Thru.own {X : Cx} {E : XK} (R : Thru X E) : PassesOwn (model X.prog X.w) X.A X.env X.xe := by rw [R.xe]; exact PassesOwn.leaving
theorem thru_cx {N : List Str} {qual : Str} {scope : Scope} {f : Addr} {cd : Value} {A : Around} {outer : List Env} {s : Shared} {H : Hp} {E : XK} : Thru (cxOf (CX1 P w) P w K mg base N qual scope f cd A outer s H E) E := ⟨rfl, rfl, rfl, rfl⟩
end
abbrev TX := St → Hp → VK → XK → Prop
abbrev TSX := Ends → XK → St → Hp → Prop
def PEX (X : Cx) (e : Expr) (t : TX) : Prop :=
  ∀ (pins : List (Addr × Obj)) (s : Shared) (σ : St) (H : Hp) (Q : VK) (E : XK), Inv X pins σ H s → t σ H Q E → wpAny (model X.prog X.w) X.A (eval e X.env) (EP X pins σ Q) (XP X pins σ E) s
def PSX (X : Cx) (st : Stmt) (t : TSX) : Prop :=
  ∀ (pins : List (Addr × Obj)) (s : Shared) (σ : St) (H : Hp) (D : Ends) (E : XK), Inv X pins σ H s → t D E σ H → wpAny (model X.prog X.w) X.A (exec st X.env) (SP X pins D) (XP X pins σ E) s
def PSXs (X : Cx) (st : List Stmt) (t : TSX) : Prop :=
  ∀ (pins : List (Addr × Obj)) (s : Shared) (σ : St) (H : Hp) (D : Ends) (E : XK), Inv X pins σ H s → t D E σ H → wpAny (model X.prog X.w) X.A (execs st X.env) (SP X pins D) (XP X pins σ E) s
section
variable {X : Cx} {k : Nat} {f C : Addr} {fd : FuncData} {ps : List Str} {sp : Sp} {dvs : List V} {ds : List Value} {E : XK} {x m : Str} {p np cpos pos apos : Pos} {e o : Expr} {es : List Expr} {ta : TE} {t : TA} {tx : TX}
theorem PEX.thru (R : Thru X E) (h : PEX X e tx) : PE X e (fun σ H Q => tx σ H Q E) := fun pins s σ H Q I q => wpAny_mono (h pins s σ H Q E I q) (fun _ _ z => z) fun _ _ z => z.leave R
theorem run_fnX {pins : List (Addr × Obj)} {σ : St} {H : Hp} {s : Shared} {Q : VK} {us : List Value} {vs : List V} (F : FnOk X.prog X.w X.K X.mg X.base (CX1 X.prog X.w) k f fd ps sp) (hr : Room k X.A) (hb : Binds X.K fd ps ds) (hd : Vals dvs ds)
    (I : Inv X pins σ H s) (r : Vals vs us) (h : sp (vs ++ dvs) H Q E) : wpAny (model X.prog X.w) X.A (call (.ref f) us) (EP X pins σ Q) (XP X pins σ E) s := by
  have r2 : Vals (vs ++ dvs) (us ++ ds) := r.append hd
  have hl : (us ++ ds).length = ps.length := by rw [← r2.length]; exact F.len _ _ _ _ h
  refine wpAny_call (codeAny_mono (F.run X.A X.stack s H ⟨us, []⟩ (us ++ ds) (vs ++ dvs) Q E hr I.env0 (hb s us I.kIn hl) r2 h) fun r s' hq => ?_)
  cases r with
  | error e => exact ⟨s, H, I, hq⟩
  | ok fl =>
    cases fl with
    | ret u => exact I.after hq
    | next => exact False.elim hq
    | brk => exact False.elim hq
    | cont => exact False.elim hq
theorem px_call (F : FnOk X.prog X.w X.K X.mg X.base (CX1 X.prog X.w) k f fd ps sp) (hr : Room k X.A) (hg : Gl X x) (hm : X.mg x = some (.ref f)) (hk : PySem.W.keepIn X.K (.ref f) = true) (hb : Binds X.K fd ps ds) (hd : Vals dvs ds)
    (ha : PA X.nox (e :: es) t) (hdb : (x == ("__debug__" : Str)) = false := by decide) (he : starEach (e :: es) X.env = (false, eval e X.env) :: starEach es X.env := by rfl) (hpl : (backTo pos (starEach es X.env)).any (·.1) = false := by rfl) :
    PEX X (.Call (.Name x p) (e :: es) [] pos) (fun σ H Q E => tCall sp dvs E t σ H Q) := by
  intro pins s σ H Q E I h
  refine wpAny_Call_Name_kw (ld_glob I hg hm ?_ hdb)
  exact PySem.W.callWith_K (h₀ := X.base) I.ok.mod.kin hk (wpAny_mono (ha pos pins s σ H _ (I.wish _) h) (fun us s1 ⟨vs, H1, I1, r, q⟩ => ⟨I1.unwish.kIn, run_fnX F hr hb hd I1.unwish r q⟩) fun _ _ z => z.elim) he hpl
def tRaise (E : XK) (C : Addr) (t : TA) : TS := fun _ σ H => t σ H fun vs H1 => vs.length ≤ sizeLine ∧ E (.ref C) none H1
theorem ps_raise (R : Thru X E) (hc : X.calm = true) (q : PySem.W.excIn X.K C bmV "ValueError.__new__" = true) (hg : Gl X x) (hm : X.mg x = some (.ref C)) (ha : PA X.nox (e :: es) t)
    (hdb : (x == ("__debug__" : Str)) = false := by decide) (he : starEach (e :: es) X.env = (false, eval e X.env) :: starEach es X.env := by rfl) (hpl : (backTo cpos (starEach es X.env)).any (·.1) = false := by rfl) :
    PS X (.Raise (some (.Call (.Name x np) (e :: es) [] cpos)) none pos) (tRaise E C t) := by
  intro pins s σ H D I h
  obtain ⟨bm, N, nm, qn, bs, hdct, sn, sub, ab, col, dd, k0, k1, k2, k3, k5, mN, hC, hN, hni, T⟩ := excIn_obj I.mod.kin q
  have hh : X.A.handled = none := I.ok.hd hc
  have ev := ha cpos pins s σ H _ (I.wish _) h
  refine wpAny_Raise_call_subU (C := C) (nm := nm) (q := qn) (N := N) (bs := bs) (bm := bm) (hdct := hdct) (sn := sn) (sub := sub) (ab := ab) (col := col) (dd := dd) (k0 := k0) (k1 := k1) (k2 := k2) (k3 := k3) (k5 := k5)
    PySem.F.excBase_ValueError (by decide) PySem.F.excBase_ValueError (mN := mN) (T.hasType PySem.F.excBase_ValueError.hasBase) hh (by rw [he]; show (false || (backTo cpos (starEach es X.env)).any (·.1)) = false; rw [hpl]; rfl) hni (ld_glob I hg hm ⟨rfl, ?_⟩ hdb)
  rw [he]
  change wpAny _ _ (spliced (backTo cpos (starEach (e :: es) X.env))) _ _ _ at ev
  rw [he] at ev
  refine Calls.evalArgs_plain (wpAny_mono ev (fun us s2 ⟨vs, H1, I1, r, hl, q2⟩ => ?_) fun _ _ z => z.elim)
  have J : Inv X pins σ H1 s2 := I1.unwish
  exact ⟨rfl, by rw [← r.length]; exact hl, J.bk _ _ hC, hN.keeps J.bk, T.keeps J.bk, fun h' a m => made_leave R J m q2⟩
end
end L2

namespace L2
open PySem PySem.Spec PyProof.Rows
abbrev Cx.caught (X : Cx) (a : Addr) : Cx := { X with A := X.A.mark (some (.ref a)), calm := false, xe := fun _ _ => False }
section
variable {X : Cx} {pins : List (Addr × Obj)} {σ : St} {H : Hp} {s : Shared} {a : Addr}
theorem Inv.catch (I : Inv X pins σ H s) (a : Addr) : Inv (X.caught a) pins σ H s :=
  ⟨⟨I.ok.mod, I.ok.kind, I.ok.glob, I.ok.blt, I.ok.above, I.ok.inj, I.ok.has, I.ok.cab, (fun z => by cases z), I.ok.frames, I.ok.stk, I.ok.exf, I.ok.bs, I.ok.bsz, I.ok.noex, I.ok.exfs, I.ok.funs, I.ok.frf⟩, I.os, I.bare, I.base, I.loc, I.cell, I.free, I.freeC, I.pin, I.hok, I.len⟩
theorem Inv.uncatch (ok : X.Ok) (I : Inv (X.caught a) pins σ H s) : Inv X pins σ H s := ⟨ok, I.os, I.bare, I.base, I.loc, I.cell, I.free, I.freeC, I.pin, I.hok, I.len⟩
theorem Inv.unset {i : Nat} {n : Str} {m : Str → Option Value} {v : Option Value} {h' : Heap} {tk : Nat} (I : Inv X pins σ H s) (hN : X.N.Nodup) (hi : X.N[i]? = some n) (hk : X.env.kindOf n = some .local)
    (hl : ∀ (j : Nat) (x : Str) (v : V), X.N[j]? = some x → σ[j]? = some (some v) → Vis X.env.scope x → ∃ u, RelV v u ∧ Look X.env s.heap m x u)
    (hn' : h'.Ns X.env.locals (fun x => if x = n then v else m x)) (hs : Heap.SameBut X.env.locals s.heap h') : Inv X pins (σ.set i none) H { s with heap := h', toks := tk } := by
  have cne := I.cne
  have hiσ : i < σ.length := by rw [I.len]; exact (List.getElem?_eq_some_iff.mp hi).1
  have nb : ∀ b o, X.s₀.heap.get? b = some o → b ≠ X.env.locals := fun b o e => Nat.ne_of_lt (Nat.lt_of_lt_of_le (Heap.lt_size e) I.ok.above)
  refine ⟨I.ok, I.os, I.bare, ⟨fun b o e n hb hx => ?_, fun b o e n hb hx => ?_, I.base.free, fun b o e hx => ?_, I.base.tups, I.base.frzs, I.base.tbls⟩, ⟨_, hn', fun j y v' e1 e2 e3 => ?_⟩, fun y c e => ?_, I.free, I.freeC, fun p hp => ?_, I.hok.loose fun b u hb e => ?_, by simpa using I.len⟩
  · exact (hs.2 b (nb b o e)).trans (I.base.keep b o e n hb hx)
  · obtain ⟨sl, e1⟩ := I.base.slot b o e n hb hx
    exact ⟨sl, (hs.2 b (nb b o e)).trans e1⟩
  · obtain ⟨o', e1⟩ := I.base.there b o e hx
    exact ⟨o', (hs.2 b (nb b o e)).trans e1⟩
  · by_cases hj : j = i
    · subst hj
      rw [List.getElem?_set_self hiσ] at e2
      cases e2
    · rw [List.getElem?_set_ne (Ne.symm hj)] at e2
      obtain ⟨u', r', q⟩ := hl j y v' e1 e2 e3
      refine ⟨u', r', ?_⟩
      rcases q with ⟨k, e⟩ | ⟨k, c, e, z⟩
      · refine .inl ⟨k, ?_⟩
        have : y ≠ n := fun e => hj (nodup_ix hN e1 (e ▸ hi))
        simp [this, e]
      · exact .inr ⟨k, c, e, z.sameBut hs (cne y c e)⟩
  · obtain ⟨w', z⟩ := I.cell y c e
    exact ⟨w', z.sameBut hs (cne y c e)⟩
  · obtain ⟨e, n, ne, nf, d⟩ := I.pin p hp
    exact ⟨(hs.2 p.1 ne).trans e, n, ne, nf, d⟩
  · exact (hs.2 b fun z => hb (z ▸ I.free)).trans e
end
abbrev Ends.gone (D : Ends) (i : Nat) : Ends := { nx := fun σ H => D.nx (σ.set i none) H, rt := D.rt, bk := fun σ H => D.bk (σ.set i none) H, ct := fun σ H => D.ct (σ.set i none) H }
def tTry (K : PySem.W.Frag) (Cc : Addr) (i : Nat) (tb : TSX) (ts : TS) : TS := fun D σ H => tb D (fun cls _ H' => ∃ C, cls = .ref C ∧ PySem.W.exmOne K (.ref C) (.ref Cc) = some true ∧
  ∀ a, H' a = none → ts (D.gone i) (σ.set i (some (.ref a))) (upd H' a (ExcO a C))) σ H
section
variable {X : Cx} {e : Expr} {te : TE} {tx : TX} {pos : Pos} {st : Stmt} {t u : TSX}
theorem psx_one (h : PSX X st t) : PSXs X [st] t := by
  intro pins s σ H D E I q
  refine wpAny_execs_cons (thn (h pins s σ H D E I q) fun f s1 q => ?_)
  cases f with
  | next => exact wpAny_execs_nil q
  | ret v => exact q
  | brk => exact q
  | cont => exact q
theorem psx_expr (he : PEX X e tx) (hs : swapsWith e none pos.line X.env = pure false := by rfl) : PSX X (.Expr e pos) (fun D E σ H => tx σ H (fun _ H1 => D.nx σ H1) E) := by
  intro pins s σ H D E I h
  exact wpAny_Expr_any (thn (he pins s σ H _ E I h) fun v s1 ⟨x, H1, I1, r1, q1⟩ => ⟨σ, H1, I1, q1⟩) I.quiet hs
theorem ps_try {body : List Stmt} {c n : Str} {np hpos : Pos} {b₀ : Stmt} {suite : List Stmt} {Cc : Addr} {i : Nat} {ts : TS} (hb : PSXs X body t) (stk : X.stack = X.env :: X.outer) (fr : X.env.frame = some X.env.locals)
    (hN : X.N.Nodup) (hi : X.N[i]? = some n) (hk : X.env.kindOf n = some .local) (hg : Gl X c) (hm : X.mg c = some (.ref Cc)) (hs : ∀ a, PSs (X.caught a) (b₀ :: suite) ts)
    (hdb : (c == ("__debug__" : Str)) = false := by decide) : PS X (.Try body [.ExceptHandler (some (.Name c np)) (some n) (b₀ :: suite) hpos] [] [] pos) (tTry X.K Cc i t ts) := by
  intro pins s σ H D I h
  refine wpAny_Try_except (wpAny_mono (hb pins s σ H D _ I h) (fun f s1 q => ?_) fun e s1 q => ?_)
  · cases f with
    | next => exact wpAny_execs_nil q
    | ret v => exact q
    | brk => exact q
    | cont => exact q
  · obtain ⟨s0, H0, I0, a, T, C, H', rfl, F, C', eC, hx, hq⟩ := q
    cases eC
    have J := F.inv I0
    obtain ⟨a0, fl⟩ := F.base J.stack
    have hfr : X.A.frames = some (X.env :: X.outer) := J.ok.frames.trans (by rw [stk])
    have fl1 := fl
    rw [stk] at fl1
    refine wpAny_looks_onW hfr fr fl1 fun h1 held up1 => ?_
    refine wpAny_landsW held fun h2 fl2 up2 => ?_
    have fl2' := fl2
    rw [← stk] at fl2'
    obtain ⟨T2, F2⟩ := F.back (tk := s1.toks) J.stack J.stkFree fl2' (up1.trans up2)
    have J2 : Inv X pins σ H' { s1 with heap := h2, toks := s1.toks } := F2.inv I0
    obtain ⟨oe, vs, b0, oT, tsx, e1, e2, _⟩ := F2.xt
    have LT : PySem.W.Looks (model X.prog X.w) h2 (typeOf (.ref a)) (.ref C) := e2.1 ▸ (PySem.W.Looks.ld e1).andThen .now
    refine wpAny_handleBy_cons (codeAny_handlers_test (ld_glob (X := X.caught a) (s := { s1 with heap := h2, toks := s1.toks }) (J2.catch a) hg hm ?_ hdb)) (by intro q; cases q)
    refine (PySem.W.exm_one (M := model X.prog X.w) J2.kIn LT hx).here ?_
    refine codeAny_handlers_suite_as ?_
    refine lands_againW fl2 fun h3 fl3 up3 => ?_
    have fl3' := fl3
    rw [← stk] at fl3'
    obtain ⟨T3, F3⟩ := F.back (tk := s1.toks) J.stack J.stkFree fl3' ((up1.trans up2).trans up3)
    have J3 : Inv X pins σ (upd H' a (ExcO a C)) { s1 with heap := h3, toks := s1.toks } := F3.inv' I0
    refine store_ok (X := X) (v := .ref a) J3 hN hi (.inl hk) rfl (fun s4 J4 => ?_) (.inr hk)
    refine wpAny_mono (hs a pins s4 _ _ (D.gone i) (J4.catch a) (hq a F.ha)) (fun fl s5 q => ?_) fun _ _ z => z.elim
    have cl : (X.env.scope.kind == .class || (X.env.scope.kind == .module && X.env.locals != X.env.globals)) = false := by rw [I.ok.kind]; rfl
    cases fl with
    | next =>
      obtain ⟨σ', H5, I5, q5⟩ := q
      have K5 := I5.uncatch I.ok
      obtain ⟨m, hn, hl⟩ := id K5.loc
      exact wpAny_nameGoes_keeps hk hn cl fun h' v hn' hs' => ⟨_, H5, K5.unset hN hi hk hl hn' hs', q5⟩
    | brk =>
      obtain ⟨σ', H5, I5, q5⟩ := q
      have K5 := I5.uncatch I.ok
      obtain ⟨m, hn, hl⟩ := id K5.loc
      exact wpAny_nameGoes_keeps hk hn cl fun h' v hn' hs' => ⟨_, H5, K5.unset hN hi hk hl hn' hs', q5⟩
    | cont =>
      obtain ⟨σ', H5, I5, q5⟩ := q
      have K5 := I5.uncatch I.ok
      obtain ⟨m, hn, hl⟩ := id K5.loc
      exact wpAny_nameGoes_keeps hk hn cl fun h' v hn' hs' => ⟨_, H5, K5.unset hN hi hk hl hn' hs', q5⟩
    | ret u =>
      obtain ⟨vr, σ', H5, I5, rv, q5⟩ := q
      have K5 := I5.uncatch I.ok
      obtain ⟨m, hn, hl⟩ := id K5.loc
      exact wpAny_nameGoes_keeps hk hn cl fun h' v hn' hs' => ⟨vr, _, H5, K5.unset hN hi hk hl hn' hs', rv, q5⟩
end
end L2

namespace Mine
open PySem PySem.W PySem.Spec PySem.Calls PyProof.Rows
section
variable {prog : Program} {w : World} {A : Around} {E : Value → Shared → Prop} {s : Shared} {K : Frag} {x D : Addr} {o : Obj} {c : Value}
theorem check_ga {M : Model} {nameV : Value} {Q : Unit → Shared → Prop} (X : K.In s.heap) (L0 : Looks M s.heap (typeOf (.ref x)) (.ref D)) (hb : mroIn K D (.type "BaseException") = some true) (hq : Q () s) :
    wpAny M A (checkBuiltinCall "BaseException.__getattribute__" ⟨[.ref x, nameV], []⟩) Q E s := by
  obtain ⟨hh, g, d, t, os⟩ := s
  have hk : builtinKind "BaseException.__getattribute__" = some .slot := by decide +kernel
  have hsplit : splitId "BaseException.__getattribute__" = some ("BaseException", "__getattribute__") := by decide +kernel
  have LB := looks_mroIn (M := M) X hb
  have ha := PySem.F.args_bexc_ga (.ref x) nameV
  have LI : Looks M hh (isInstance (.ref x) (.type "BaseException")) true := L0.andThen LB
  simp only [checkBuiltinCall, hk, hsplit]
  refine wpAny_bind (LI.at ?_)
  repeat (any_goals (first | assumption | wp_step))
open Builtin Builtin.Getset_descriptor in
theorem class_get1 {R : Result → Shared → Prop} {tp : Value} (X : K.In s.heap) (L0 : ∀ M : Model, Looks M s.heap (typeOf (.ref x)) (.ref D)) (hm : mroIn K D (.type "object") = some true)
    (hR : R (.ok (.ret (.ref D))) s) : codeAny (model prog w) A (.call (.builtin "getset_descriptor.__get__") ⟨[.builtin "object.__class__", .ref x, tp], []⟩) R s := by
  rcases s with ⟨hp, gn, dn, tk, os⟩
  have look := L0 (model prog w)
  have above := looks_mroIn (M := model prog w) X hm
  have known := KF.slot_gs.check (model prog w) A.in1
  have kind : (⟨hp, gn, dn, tk, os⟩ : Shared).TypeIs (.builtin "object.__class__") "getset_descriptor" := KF.type_class
  apply codeAny_call_builtin KF.slot_gs.plain KF.entry_gs
  apply known _ _ _ _ _ _ kind (KF.args_gs _ _ _)
  delta Builtin.«getset_descriptor.__get__» descrGet
  rw [dga_obj]
  apply wpAny_bind
  apply wpAny_pure
  delta descrGetter descrCheckInstance descrNameAndClass isInstance
  simp only [KF.owner_class]
  repeat lk
  constructor
  · exact Code.quiet_builtin _ (by decide +kernel)
  · apply codeAny_builtin KF.entry_class
    delta Builtin.«object.__class__» shownTypeOf
    repeat lk
    exact hR
theorem class_entry {nm : Tok} {Q : Fin → Shared → Prop} (X : K.In s.heap) (L0 : ∀ M : Model, Looks M s.heap (typeOf (.ref x)) (.ref D)) (ha : findIn K (.ref D) "__class__" = some (some (.builtin "object.__class__")))
    (hm : mroIn K D (.type "object") = some true) (hq : Q (.done (.ret (.ref D))) s) :
    wpAny (model prog w) A (Builtin.«object.__getattribute__» ⟨[.ref x, .str "__class__" nm], []⟩) Q E s := by
  obtain ⟨hh, g, d, t, os⟩ := s
  have L1 := L0 (model prog w)
  have L3 := looks_findIn (M := model prog w) X ha
  have f5 := KF.type_class
  have f6 := PySem.F.slot_gs_get.lookup
  have f7 := PySem.F.slot_gs_set.lookup
  repeat (any_goals (first | assumption | with_reducible refine wpAny_bind (L1.at ?_) | with_reducible refine L1.at ?_ | with_reducible refine wpAny_bind (L3.at ?_) | with_reducible refine L3.at ?_ | wp_step))
  refine class_get1 (D := D) X L0 hm ?_
  repeat (any_goals (first | assumption | wp_step))
theorem class_call {nm : Tok} {R : Result → Shared → Prop} (X : K.In s.heap) (L0 : ∀ M : Model, Looks M s.heap (typeOf (.ref x)) (.ref D)) (ha : findIn K (.ref D) "__class__" = some (some (.builtin "object.__class__")))
    (hm : mroIn K D (.type "object") = some true) (hb : mroIn K D (.type "BaseException") = some true) (hq : R (.ok (.ret (.ref D))) s) :
    codeAny (model prog w) A (.call (.builtin "BaseException.__getattribute__") ⟨[.ref x, .str "__class__" nm], []⟩) R s :=
  codeAny_call_builtin PySem.F.attr_ValueError.ga.plain PySem.F.entry_bexc_ga (check_ga X (L0 _) hb (class_entry X L0 ha hm hq))
theorem exc_class {Q : Option Value → Shared → Prop} (X : K.In s.heap) (L0 : ∀ M : Model, Looks M s.heap (typeOf (.ref x)) (.ref D))
    (hga : findIn K (.ref D) "__getattribute__" = some (some (.builtin "BaseException.__getattribute__"))) (hgt : findIn K (.ref D) "__getattr__" = some none) (ha : findIn K (.ref D) "__class__" = some (some (.builtin "object.__class__")))
    (hm : mroIn K D (.type "object") = some true) (hb : mroIn K D (.type "BaseException") = some true) (h : Q (some (.ref D)) { s with toks := s.toks + 1 }) :
    wpAny (model prog w) A (getAttr? (.ref x) "__class__") Q E s := by
  obtain ⟨hh, g, d, t, os⟩ := s
  have L1 := L0 (model prog w)
  have L2 := looks_findIn (M := model prog w) X hga
  have L3 := looks_findIn (M := model prog w) X hgt
  have f3 := PySem.F.attr_ValueError.ga.bind (.ref x)
  have hx2 : (Value.builtin "BaseException.__getattribute__" == Value.builtin "object.__getattribute__") = false := by decide +kernel
  have hx1 : (onTheHeap (Value.ref D) && Value.builtin "BaseException.__getattribute__" == Value.builtin "object.__getattribute__") = false := by rw [hx2]; rfl
  have hx0 : (false && onTheHeap (Value.builtin "BaseException.__getattribute__")) = false := rfl
  unfold getAttr? getAttrBy? getAttrBy
  refine wpAny_bind (wpAny_mkText (wpAny_bind (wpAny_attempt (wpAny_holding (wpAny_bind (L1.at (wpAny_bind (L2.at ?_))))))))
  simp only [hx1]
  repeat (any_goals (first | assumption | with_reducible refine wpAny_bind (L1.at ?_) | with_reducible refine L1.at ?_ | with_reducible refine wpAny_bind (L3.at ?_) | with_reducible refine L3.at ?_ | wp_step))
  refine class_call (D := D) (s := ⟨hh, g, d, t + 1, os⟩) X (fun M => L0 M) ha hm hb ?_
  show wpAny (model prog w) A (handedOut (Value.ref D)) _ _ _
  exact handed_on rfl (wpAny_pure h)
def ExcAt (x D : Addr) (h : Heap) : Prop := ∃ o, h.get? x = some o ∧ o.cls = .ref D
theorem excAt_ty {M : Model} {h : Heap} (p : ExcAt x D h) : Looks M h (typeOf (.ref x)) (.ref D) := by
  obtain ⟨o, h1, h2⟩ := p
  exact h2 ▸ (Looks.ld h1).andThen .now
theorem kitx_exc
    (hga : findIn K (.ref D) "__getattribute__" = some (some (.builtin "BaseException.__getattribute__"))) (hgt : findIn K (.ref D) "__getattr__" = some none) (ha : findIn K (.ref D) "__class__" = some (some (.builtin "object.__class__")))
    (hm : mroIn K D (.type "object") = some true) (hb : mroIn K D (.type "BaseException") = some true) : KitX K (.ref x) (.ref D) (ExcAt x D) where
  ty := fun _ _ _ p => excAt_ty p
  it := fun _ _ X _ => by
    obtain ⟨cdD, hcD, _⟩ := Option.bind_eq_some_iff.mp (show (clsIn K D).bind _ = some true from hm)
    unfold clsIn at hcD
    split at hcD
    · rename_i c' d' cd' sl' ho
      intro A' Q' E' s' k q
      unfold isType loadHead
      exact wpAny_bind (wpAny_loadPart (k _ _ (X _ _ ho)) (wpAny_pure q))
    · cases hcD
  ne := fun h tp dd its n sl X htp => by
    refine Bool.eq_false_iff.mpr fun q => ?_
    have e : D = tp := Value.ref.inj (beq_iff_eq.mp q)
    subst e
    obtain ⟨cdD, hcD, _⟩ := Option.bind_eq_some_iff.mp (show (clsIn K D).bind _ = some true from hm)
    unfold clsIn at hcD
    split at hcD
    · rename_i c' d' cd' sl' ho
      have z := (X _ _ ho).symm.trans htp
      cases z
    · cases hcD
  ca := fun X p k => exc_class X (fun _ => excAt_ty p) hga hgt ha hm hb k
end
end Mine

namespace L2
open PySem PySem.Spec PyProof.Rows
structure ExcK (K : PySem.W.Frag) (C : Addr) : Prop where
  ga : PySem.W.findIn K (.ref C) "__getattribute__" = some (some (.builtin "BaseException.__getattribute__"))
  gt : PySem.W.findIn K (.ref C) "__getattr__" = some none
  cl : PySem.W.findIn K (.ref C) "__class__" = some (some (.builtin "object.__class__"))
  ob : PySem.W.mroIn K C (.type "object") = some true
  be : PySem.W.mroIn K C (.type "BaseException") = some true
  ex : PySem.W.excIn K C bmV "ValueError.__new__" = true
def clsV : V → Option Value
  | .ty n => some (.type n)
  | .ref D => some (.ref D)
  | _ => none
section
variable {X : Cx}
def rIsx (K : PySem.W.Frag) : List V → Hp → VK → Prop := fun xs H Q => ∃ a C c cv b, xs = [.ref a, c] ∧ H a = some (ExcO a C) ∧ ExcK K C ∧ clsV c = some cv ∧ PySem.W.kitOne K (.ref C) cv = some b ∧ Q (.bl b) H
theorem call_isx : CallR X (.builtin "isinstance") (rIsx X.K) := by
  intro pins s σ H xs us Q I r h
  obtain ⟨a, C, c, cv, b, rfl, ea, ek, ec, e, q⟩ := h
  cases r with
  | cons rx r1 =>
    cases r1 with
    | cons ry r2 =>
      cases r2
      cases (show _ = Value.ref a from rx)
      have hv : ∀ u, RelV c u → u = cv := fun u ru => by
        cases c with
        | ty n => cases ec; exact ru
        | ref D => cases ec; exact ru
        | _ => cases ec
      cases hv _ ry
      obtain ⟨p, _, _⟩ := (show ObjOk X.prog X.w H s.heap a (ExcO a C) from I.hok a _ ea)
      exact PySem.W.kia_one (Mine.kitx_exc ek.ga ek.gt ek.cl ek.ob ek.be) I.kIn p e (fun z => nomatch z) fun tk => ⟨.bl b, H, I.tok _, rfl, q⟩
theorem call_isxK (K : PySem.W.Frag) (h : X.K = K) : CallR X (.builtin "isinstance") (rIsx K) := h ▸ call_isx
theorem PS.nox {st : Stmt} {t : TS} (h : PS X.nox st t) : PS X st t := fun pins s σ H D I hw =>
  wpAny_mono (h pins s σ H D (I.wish _) hw) (fun _ _ q => q.unwish) fun _ _ z => False.elim z
end
end L2

namespace L2
open PySem PySem.Spec PyProof.Rows
theorem boot_VE : bootBuiltins "ValueError" = some (.type "ValueError") := by decide +kernel
section
variable {X : Cx}
end
end L2
namespace Mine
@[irreducible] def dv (a b : Int) : Int := (Int.gcd a b : Int)
theorem dv_nonneg (a b : Int) : 0 ≤ dv a b := by unfold dv; exact Int.natCast_nonneg _
theorem dv_left (a b : Int) : ∃ q, a = dv a b * q := by
  obtain ⟨q, hq⟩ := Int.gcd_dvd_left a b
  exact ⟨q, by unfold dv; exact hq⟩
theorem dv_right (a b : Int) : ∃ q, b = dv a b * q := by
  obtain ⟨q, hq⟩ := Int.gcd_dvd_right a b
  exact ⟨q, by unfold dv; exact hq⟩
theorem dv_eq_zero {a b : Int} (h : dv a b = 0) : a = 0 ∧ b = 0 := by
  obtain ⟨q, hq⟩ := dv_left a b
  obtain ⟨r, hr⟩ := dv_right a b
  rw [h] at hq hr
  exact ⟨by omega, by omega⟩
theorem dv_pos {a b : Int} (h : b ≠ 0) : 0 < dv a b := by
  have := dv_nonneg a b
  rcases (by omega : dv a b = 0 ∨ 0 < dv a b) with e | e
  · exact absurd (dv_eq_zero e).2 h
  · exact e
theorem dv_le (a b : Int) (h : b ≠ 0) : dv a b ≤ (b.natAbs : Int) := by
  have : Int.gcd a b ≤ b.natAbs := by
    unfold Int.gcd
    exact Nat.gcd_le_right _ (by omega)
  unfold dv; omega
theorem fdiv_mul {g q : Int} (hg : g ≠ 0) : (g * q).fdiv g = q := Int.mul_fdiv_cancel_left q hg
@[irreducible] def sg (a b : Int) : Int := if b < 0 then -(dv a b) else dv a b
@[irreducible] def tp (a b : Int) : Int := a.fdiv (sg a b)
@[irreducible] def bt (a b : Int) : Int := b.fdiv (sg a b)
theorem sg_pos {a b : Int} (h : ¬ b < 0) : sg a b = dv a b := by unfold sg; rw [if_neg h]
theorem sg_neg {a b : Int} (h : b < 0) : sg a b = -(dv a b) := by unfold sg; rw [if_pos h]
theorem sg_ne {a b : Int} (h : b ≠ 0) : sg a b ≠ 0 := by
  have := dv_pos (a := a) h
  unfold sg; split <;> omega
theorem tp_mul {a b : Int} (h : b ≠ 0) : sg a b * tp a b = a := by
  obtain ⟨q, hq⟩ := dv_left a b
  have hs := sg_ne (a := a) h
  have : ∃ k, a = sg a b * k := by
    unfold sg; split
    · exact ⟨-q, by rw [Int.neg_mul_neg]; exact hq⟩
    · exact ⟨q, hq⟩
  obtain ⟨k, hk⟩ := this
  have e : tp a b = k := by
    unfold tp
    conv => lhs; lhs; rw [hk]
    exact fdiv_mul hs
  rw [e]; exact hk.symm
theorem bt_mul {a b : Int} (h : b ≠ 0) : sg a b * bt a b = b := by
  obtain ⟨q, hq⟩ := dv_right a b
  have hs := sg_ne (a := a) h
  have : ∃ k, b = sg a b * k := by
    unfold sg; split
    · exact ⟨-q, by rw [Int.neg_mul_neg]; exact hq⟩
    · exact ⟨q, hq⟩
  obtain ⟨k, hk⟩ := this
  have e : bt a b = k := by
    unfold bt
    conv => lhs; lhs; rw [hk]
    exact fdiv_mul hs
  rw [e]; exact hk.symm
theorem bt_pos {a b : Int} (h : b ≠ 0) : 0 < bt a b := by
  have e := bt_mul (a := a) h
  have g := dv_pos (a := a) h
  rcases (by omega : 0 < bt a b ∨ bt a b ≤ 0) with p | p
  · exact p
  · exfalso
    by_cases hb : b < 0
    · rw [sg_neg hb, Int.neg_mul] at e
      have := Int.mul_nonpos_of_nonneg_of_nonpos (Int.le_of_lt g) p
      omega
    · rw [sg_pos hb] at e
      have := Int.mul_nonpos_of_nonneg_of_nonpos (Int.le_of_lt g) p
      omega
theorem cross {a b : Int} (h : b ≠ 0) : tp a b * b = a * bt a b := by
  have e1 := tp_mul (a := a) h
  have e2 := bt_mul (a := a) h
  calc tp a b * b = tp a b * (sg a b * bt a b) := by rw [e2]
    _ = (sg a b * tp a b) * bt a b := by rw [Int.mul_comm (sg a b) (tp a b), Int.mul_assoc]
    _ = a * bt a b := by rw [e1]
theorem natAbs_sg (a b : Int) : (sg a b).natAbs = Int.gcd a b := by
  unfold sg dv; split <;> omega
theorem gcd_scale {a b s t u : Int} (e1 : s * t = a) (e2 : s * u = b) : Int.gcd a b = s.natAbs * Int.gcd t u := by
  rw [← e1, ← e2, Int.gcd_mul_left]
theorem low {a b : Int} (h : b ≠ 0) : dv (tp a b) (bt a b) = 1 := by
  have e := gcd_scale (tp_mul (a := a) h) (bt_mul (a := a) h)
  rw [natAbs_sg] at e
  have p := dv_pos (a := a) h
  have q : 0 < Int.gcd a b := by unfold dv at p; omega
  have : Int.gcd a b * Int.gcd (tp a b) (bt a b) = Int.gcd a b * 1 := by rw [← e, Nat.mul_one]
  have := Nat.eq_of_mul_eq_mul_left q this
  unfold dv; rw [this]; rfl
theorem coprime_eq {a b c d : Int} (hb : 0 < b) (hd : 0 < d) (h1 : dv a b = 1) (h2 : dv c d = 1) (e : a * d = c * b) : a = c ∧ b = d := by
  have g1 : Nat.Coprime b.natAbs a.natAbs := by
    have : Int.gcd a b = 1 := by unfold dv at h1; omega
    unfold Int.gcd at this
    exact Nat.Coprime.symm this
  have g2 : Nat.Coprime d.natAbs c.natAbs := by
    have : Int.gcd c d = 1 := by unfold dv at h2; omega
    unfold Int.gcd at this
    exact Nat.Coprime.symm this
  have en : a.natAbs * d.natAbs = c.natAbs * b.natAbs := by rw [← Int.natAbs_mul, ← Int.natAbs_mul, e]
  have d1 : b.natAbs ∣ d.natAbs := g1.dvd_of_dvd_mul_left ⟨c.natAbs, by rw [en, Nat.mul_comm]⟩
  have d2 : d.natAbs ∣ b.natAbs := g2.dvd_of_dvd_mul_left ⟨a.natAbs, by rw [← en, Nat.mul_comm]⟩
  have eb : b.natAbs = d.natAbs := Nat.dvd_antisymm d1 d2
  have ebd : b = d := by omega
  refine ⟨?_, ebd⟩
  rw [ebd] at e
  exact Int.eq_of_mul_eq_mul_right (by omega) e
theorem tp_uniq {a b x y : Int} (h : b ≠ 0) (hy : 0 < y) (hl : dv x y = 1) (e : a * y = x * b) : tp a b = x ∧ bt a b = y := by
  refine coprime_eq (bt_pos h) hy (low h) hl ?_
  have c := cross (a := a) h
  -- tp*y = x*bt : multiply by b
  have : (tp a b * y) * b = (x * bt a b) * b := by
    calc (tp a b * y) * b = (tp a b * b) * y := by rw [Int.mul_assoc, Int.mul_comm y b, ← Int.mul_assoc]
      _ = (a * bt a b) * y := by rw [c]
      _ = (a * y) * bt a b := by rw [Int.mul_assoc, Int.mul_comm (bt a b) y, ← Int.mul_assoc]
      _ = (x * b) * bt a b := by rw [e]
      _ = (x * bt a b) * b := by rw [Int.mul_assoc, Int.mul_comm b, ← Int.mul_assoc]
  exact Int.eq_of_mul_eq_mul_right h this
theorem natAbs_fdiv_le (a s : Int) (k : Int) (e : s * k = a) (hs : s ≠ 0) : k.natAbs ≤ a.natAbs := by
  have : a.natAbs = s.natAbs * k.natAbs := by rw [← e, Int.natAbs_mul]
  rw [this]
  exact Nat.le_mul_of_pos_left _ (by omega)
theorem tp_le {a b : Int} (h : b ≠ 0) : (tp a b).natAbs ≤ a.natAbs := natAbs_fdiv_le a _ _ (tp_mul h) (sg_ne h)
theorem bt_le {a b : Int} (h : b ≠ 0) : (bt a b).natAbs ≤ b.natAbs := natAbs_fdiv_le b _ _ (bt_mul h) (sg_ne h)

theorem same_cross {a b c d : Int} (hb : b ≠ 0) (hd : d ≠ 0) (e : a * d = c * b) : tp a b = tp c d ∧ bt a b = bt c d := by
  refine tp_uniq hb (bt_pos hd) (low hd) ?_
  have h := cross (a := c) hd
  have : (a * bt c d) * d = (tp c d * b) * d := by
    calc (a * bt c d) * d = (a * d) * bt c d := by rw [Int.mul_assoc, Int.mul_comm (bt c d) d, ← Int.mul_assoc]
      _ = (c * b) * bt c d := by rw [e]
      _ = (c * bt c d) * b := by rw [Int.mul_assoc, Int.mul_comm b, ← Int.mul_assoc]
      _ = (tp c d * d) * b := by rw [h]
      _ = (tp c d * b) * d := by rw [Int.mul_assoc, Int.mul_comm d b, ← Int.mul_assoc]
  exact Int.eq_of_mul_eq_mul_right hd this
theorem ne_mul {a b : Int} (ha : a ≠ 0) (hb : b ≠ 0) : a * b ≠ 0 := Int.mul_ne_zero ha hb
theorem distrib {a b c d e f T B P U R V : Int} (hb : b ≠ 0) (hd : d ≠ 0) (hf : f ≠ 0) (hB : B ≠ 0) (hU : U ≠ 0) (hV : V ≠ 0)
    (h1 : T * (d * f) = (c * f + e * d) * B) (h2 : P * (b * d) = (a * c) * U) (h3 : R * (b * f) = (a * e) * V) :
    tp (a * T) (b * B) = tp (P * V + R * U) (U * V) ∧ bt (a * T) (b * B) = bt (P * V + R * U) (U * V) := by
  refine same_cross (ne_mul hb hB) (ne_mul hU hV) ?_
  have k : ((a * T) * (U * V)) * ((d * f) * ((b * d) * (b * f))) = ((P * V + R * U) * (b * B)) * ((d * f) * ((b * d) * (b * f))) := by
    grind
  exact Int.eq_of_mul_eq_mul_right (ne_mul (ne_mul hd hf) (ne_mul (ne_mul hb hd) (ne_mul hb hf))) k
theorem plus_comm {a b c d : Int} : tp (a * d + c * b) (b * d) = tp (c * b + a * d) (d * b) ∧ bt (a * d + c * b) (b * d) = bt (c * b + a * d) (d * b) := by
  rw [Int.add_comm, Int.mul_comm b d]; exact ⟨rfl, rfl⟩
theorem times_comm {a b c d : Int} : tp (a * c) (b * d) = tp (c * a) (d * b) ∧ bt (a * c) (b * d) = bt (c * a) (d * b) := by
  rw [Int.mul_comm a c, Int.mul_comm b d]; exact ⟨rfl, rfl⟩
theorem dv01 : dv 0 1 = 1 := by unfold dv; decide
theorem dv11 : dv 1 1 = 1 := by unfold dv; decide

open PySem

structure S1 (x : Int) : Prop where
  lo : -10000000000000000000000000000000 ≤ x
  hi : x ≤ 10000000000000000000000000000000
structure S2 (x : Int) : Prop where
  lo : -1000000000000000000000000000000000000000000000000000000000000000 ≤ x
  hi : x ≤ 1000000000000000000000000000000000000000000000000000000000000000
structure Po (x : Int) : Prop where
  lo : 0 < x
theorem S1.two {x : Int} (h : S1 x) : S2 x := ⟨by have := h.lo; omega, by have := h.hi; omega⟩
theorem S1.zero : S1 0 := ⟨by decide, by decide⟩
theorem S1.one : S1 1 := ⟨by decide, by decide⟩
theorem Po.one : Po 1 := ⟨by decide⟩
theorem S2.lt {y : Int} (h : S2 y) : y.natAbs < 2 ^ 210 := by
  have : (2 : Nat) ^ 210 > 1000000000000000000000000000000000000000000000000000000000000000 := by decide
  have := h.lo
  have := h.hi
  omega
theorem S2.bits {y : Int} (h : S2 y) : Builtin.Int.intBits y ≤ 2 ^ 20 :=
  intBits_le_iff.mpr (Nat.lt_of_lt_of_le h.lt (Nat.pow_le_pow_right (by decide) (by decide)))
theorem mul_in {x y : Int} (hx : S1 x) (hy : S1 y) : -100000000000000000000000000000000000000000000000000000000000000 ≤ x * y ∧ x * y ≤ 100000000000000000000000000000000000000000000000000000000000000 := by
  have x0 := hx.lo
  have x1 := hx.hi
  have y0 := hy.lo
  have y1 := hy.hi
  have h : (x * y).natAbs = x.natAbs * y.natAbs := Int.natAbs_mul x y
  have k : x.natAbs * y.natAbs ≤ 10000000000000000000000000000000 * 10000000000000000000000000000000 := Nat.mul_le_mul (by omega) (by omega)
  omega
theorem S2.mul {x y : Int} (hx : S1 x) (hy : S1 y) : S2 (x * y) := ⟨by have := mul_in hx hy; omega, by have := mul_in hx hy; omega⟩
theorem Po.mul {x y : Int} (hx : Po x) (hy : Po y) : Po (x * y) := ⟨Int.mul_pos hx.lo hy.lo⟩
theorem Po.ne {x : Int} (h : Po x) : x ≠ 0 := by have := h.lo; omega
theorem Po.sg {a b : Int} (h : Po b) : dv a b = sg a b := (sg_pos (by have := h.lo; omega)).symm
theorem S1.tp {a b : Int} (h : S1 a) (p : Po b) : S1 (tp a b) := by
  have l := tp_le (a := a) p.ne
  have := h.lo
  have := h.hi
  exact ⟨by omega, by omega⟩
theorem S2.tp {a b : Int} (h : S2 a) (p : Po b) : S2 (tp a b) := by
  have l := tp_le (a := a) p.ne
  have := h.lo
  have := h.hi
  exact ⟨by omega, by omega⟩
theorem S1.bt {a b : Int} (h : S1 b) (p : Po b) : S1 (bt a b) := by
  have l := bt_le (a := a) p.ne
  have := h.lo
  have := h.hi
  exact ⟨by omega, by omega⟩
theorem S2.bt {a b : Int} (h : S2 b) (p : Po b) : S2 (bt a b) := by
  have l := bt_le (a := a) p.ne
  have := h.lo
  have := h.hi
  exact ⟨by omega, by omega⟩
theorem Po.bt {a b : Int} (p : Po b) : Po (bt a b) := ⟨bt_pos p.ne⟩
theorem S2.dv {a b : Int} (h : S2 b) (p : Po b) : S2 (dv a b) := by
  have := dv_le a b p.ne
  have := dv_nonneg a b
  have := h.lo
  have := h.hi
  exact ⟨by omega, by omega⟩
structure Low (a b : Int) : Prop where
  one : dv a b = 1
theorem cp {a b c d : Int} (_ : Low (tp (c * b + a * d) (d * b)) (bt (c * b + a * d) (d * b))) : tp (a * d + c * b) (b * d) = tp (c * b + a * d) (d * b) ∧ bt (a * d + c * b) (b * d) = bt (c * b + a * d) (d * b) := plus_comm
theorem ct {a b c d : Int} (_ : Low (tp (c * a) (d * b)) (bt (c * a) (d * b))) : tp (a * c) (b * d) = tp (c * a) (d * b) ∧ bt (a * c) (b * d) = bt (c * a) (d * b) := times_comm
end Mine
namespace Mine
def Pr (p : Nat) : Prop := 2 ≤ p ∧ ∀ d, 2 ≤ d → d * d ≤ p → ¬ p % d = 0
theorem Pr.div {p d : Nat} (h : Pr p) (hd : d ∣ p) : d = 1 ∨ d = p := by
  obtain ⟨k, hk⟩ := hd
  have p2 := h.1
  rcases (by omega : d = 0 ∨ d = 1 ∨ 2 ≤ d) with e | e | e
  · rw [e, Nat.zero_mul] at hk; omega
  · exact .inl e
  · rcases (by omega : k = 0 ∨ k = 1 ∨ 2 ≤ k) with f | f | f
    · rw [f, Nat.mul_zero] at hk; omega
    · rw [f, Nat.mul_one] at hk; exact .inr hk.symm
    · exfalso
      rcases Nat.le_total d k with g | g
      · have : d * d ≤ p := by rw [hk]; exact Nat.mul_le_mul_left d g
        exact h.2 d e this (by rw [hk]; exact Nat.mul_mod_right d k)
      · have : k * k ≤ p := by rw [hk]; exact Nat.mul_le_mul_right k g
        exact h.2 k f this (by rw [hk]; exact Nat.mul_mod_left d k)
theorem Pr.cop {p a : Nat} (h : Pr p) (ha : ¬ p ∣ a) : Nat.Coprime p a := by
  have d1 := Nat.gcd_dvd_left p a
  have d2 := Nat.gcd_dvd_right p a
  rcases h.div d1 with e | e
  · exact e
  · rw [e] at d2; exact absurd d2 ha
theorem Pr.mul {p a b : Nat} (h : Pr p) (hd : p ∣ a * b) : p ∣ a ∨ p ∣ b := by
  by_cases c : p ∣ a
  · exact .inl c
  · exact .inr ((h.cop c).dvd_of_dvd_mul_left hd)
theorem small {p a : Nat} (h0 : 0 < a) (h1 : a < p) : ¬ p ∣ a := fun h => by
  have := Nat.le_of_dvd h0 h
  omega
theorem hole : ∀ (n : Nat) (l : List Nat), l.Nodup → (∀ a ∈ l, a < n) → l.length ≤ n
  | 0, l, _, h => by
    cases l with
    | nil => exact Nat.le_refl 0
    | cons a r => exact absurd (h a (List.mem_cons_self ..)) (by omega)
  | n + 1, l, nd, h => by
    by_cases c : n ∈ l
    · have e := List.length_erase_of_mem c
      have := hole n (l.erase n) (nd.erase n) (fun a ha => by
        have m := (List.Nodup.mem_erase_iff nd).mp ha
        have := h a m.2
        have := m.1
        omega)
      omega
    · have := hole n l nd (fun a ha => by
        have := h a ha
        have : a ≠ n := fun e => c (e ▸ ha)
        omega)
      omega
theorem perm : ∀ (n : Nat) (l : List Nat), l.Nodup → (∀ a ∈ l, a < n) → l.length = n → l.Perm (List.range n)
  | 0, l, _, _, e => by
    have : l = [] := List.length_eq_zero_iff.mp e
    rw [this]; exact List.Perm.refl _
  | n + 1, l, nd, h, e => by
    by_cases c : n ∈ l
    · have e' := List.length_erase_of_mem c
      have i := perm n (l.erase n) (nd.erase n) (fun a ha => by
        have m := (List.Nodup.mem_erase_iff nd).mp ha
        have := h a m.2
        have := m.1
        omega) (by omega)
      have q := List.perm_cons_erase c
      refine q.trans ?_
      rw [List.range_succ]
      exact (i.cons n).trans (List.perm_append_singleton n (List.range n)).symm
    · have := hole n l nd (fun a ha => by
        have := h a ha
        have : a ≠ n := fun e => c (e ▸ ha)
        omega)
      omega
def pd : List Nat → Nat
  | [] => 1
  | a :: r => a * pd r
theorem pd_perm {l m : List Nat} (h : l.Perm m) : pd l = pd m := by
  induction h with
  | nil => rfl
  | cons a _ ih => show a * _ = a * _; rw [ih]
  | swap a b l => show b * (a * _) = a * (b * _); rw [← Nat.mul_assoc, ← Nat.mul_assoc, Nat.mul_comm b a]
  | trans _ _ i j => exact i.trans j
theorem pd_cop {p : Nat} (h : Pr p) : ∀ (l : List Nat), (∀ a ∈ l, ¬ p ∣ a) → ¬ p ∣ pd l
  | [], _ => fun d => by
    have := Nat.le_of_dvd (by decide) d
    have := h.1
    have e : pd [] = 1 := rfl
    omega
  | a :: r, g => fun d => by
    rcases h.mul d with e | e
    · exact g a (List.mem_cons_self ..) e
    · exact pd_cop h r (fun b hb => g b (List.mem_cons_of_mem _ hb)) e
theorem pd_mod (p x : Nat) : ∀ (l : List Nat), pd (l.map fun i => x * i % p) % p = x ^ l.length * pd l % p
  | [] => by simp [pd]
  | a :: r => by
    have ih := pd_mod p x r
    show (x * a % p) * pd (r.map fun i => x * i % p) % p = x ^ (r.length + 1) * (a * pd r) % p
    rw [Nat.mul_mod, Nat.mod_mod, ih, ← Nat.mul_mod, Nat.pow_succ]
    congr 1
    grind
theorem fermat {p x : Nat} (h : Pr p) (hx : ¬ p ∣ x) : x ^ (p - 1) % p = 1 := by
  have p2 := h.1
  let f : Nat → Nat := fun i => x * (i + 1) % p - 1
  have pos : ∀ i, i < p - 1 → 0 < x * (i + 1) % p := fun i hi => by
    rcases Nat.eq_zero_or_pos (x * (i + 1) % p) with e | e
    · rcases h.mul (Nat.dvd_of_mod_eq_zero e) with d | d
      · exact absurd d hx
      · exact absurd d (small (by omega) (by omega))
    · exact e
  have lt : ∀ i, x * (i + 1) % p < p := fun i => Nat.mod_lt _ (by omega)
  have inj : ∀ i j, i < p - 1 → j < p - 1 → i < j → x * (i + 1) % p ≠ x * (j + 1) % p := fun i j hi hj ij e => by
    have d : p ∣ x * (j + 1) - x * (i + 1) := by
      apply Nat.dvd_of_mod_eq_zero
      exact Nat.sub_mod_eq_zero_of_mod_eq e.symm
    rw [← Nat.mul_sub] at d
    rcases h.mul d with d | d
    · exact hx d
    · exact small (by omega) (by omega) d
  have nd : ((List.range (p - 1)).map f).Nodup := by
    rw [List.nodup_iff_pairwise_ne, List.pairwise_map]
    refine List.Pairwise.imp_of_mem ?_ (List.pairwise_lt_range (n := p - 1))
    intro a b ha hb ab e
    have ha := List.mem_range.mp ha
    have hb := List.mem_range.mp hb
    have e : x * (a + 1) % p - 1 = x * (b + 1) % p - 1 := e
    have := pos a ha
    have := pos b hb
    exact inj a b ha hb ab (by omega)
  have pm := perm (p - 1) ((List.range (p - 1)).map f) nd (fun a ha => by
    obtain ⟨i, hi, e⟩ := List.mem_map.mp ha
    have := pos i (List.mem_range.mp hi)
    have := lt i
    have e : x * (i + 1) % p - 1 = a := e
    omega) (by simp)
  have pm2 := pd_perm (pm.map (· + 1))
  have same : ((List.range (p - 1)).map f).map (· + 1) = ((List.range (p - 1)).map (· + 1)).map (fun i => x * i % p) := by
    rw [List.map_map, List.map_map]
    refine List.map_congr_left fun i hi => ?_
    have := pos i (List.mem_range.mp hi)
    show x * (i + 1) % p - 1 + 1 = x * (i + 1) % p
    omega
  rw [same] at pm2
  have q := pd_mod p x ((List.range (p - 1)).map (· + 1))
  rw [pm2, List.length_map, List.length_range] at q
  generalize hF : pd ((List.range (p - 1)).map (· + 1)) = F at q
  have cF : ¬ p ∣ F := by
    rw [← hF]
    refine pd_cop h _ fun a ha => ?_
    obtain ⟨i, hi, e⟩ := List.mem_map.mp ha
    have := List.mem_range.mp hi
    exact small (by omega) (by omega)
  -- q : F % p = x^(p-1) * F % p
  have d : p ∣ (x ^ (p - 1) - 1) * F := by
    apply Nat.dvd_of_mod_eq_zero
    rw [Nat.sub_mul, Nat.one_mul]
    exact Nat.sub_mod_eq_zero_of_mod_eq q.symm
  have xp : 0 < x ^ (p - 1) := Nat.pow_pos (by
    rcases Nat.eq_zero_or_pos x with e | e
    · exact absurd (e ▸ Nat.dvd_zero p) hx
    · exact e)
  rcases h.mul d with d | d
  · obtain ⟨k, hk⟩ := d
    have e : x ^ (p - 1) = 1 + p * k := by omega
    rw [e, Nat.add_mul_mod_self_left]
    exact Nat.mod_eq_of_lt (by omega)
  · exact absurd d cF
theorem fe {a p : Int} (hp : 0 < p) : a.fmod p = a % p := Int.fmod_eq_emod_of_nonneg a (Int.le_of_lt hp)
theorem em1 (a b p : Int) : (a % p * b) % p = (a * b) % p := by rw [Int.mul_emod, Int.emod_emod_of_dvd a (Int.dvd_refl p), ← Int.mul_emod]
theorem em2 (a b p : Int) : (a * (b % p)) % p = (a * b) % p := by rw [Int.mul_comm, em1, Int.mul_comm]
theorem r_in {a p : Int} (hp : 0 < p) : 0 ≤ a.fmod p ∧ a.fmod p < p := ⟨Int.fmod_nonneg_of_pos a hp, Int.fmod_lt_of_pos a hp⟩
theorem r_pa {x y z p : Int} (hp : 0 < p) : ((x + y).fmod p + z).fmod p = (x + (y + z).fmod p).fmod p := by
  simp only [fe hp, Int.emod_add_emod, Int.add_emod_emod, Int.add_assoc]
theorem r_ta {x y z p : Int} (hp : 0 < p) : ((x * y).fmod p * z).fmod p = (x * (y * z).fmod p).fmod p := by
  simp only [fe hp, em1, em2, Int.mul_assoc]
theorem r_d {x y z p : Int} (hp : 0 < p) : (x * (y + z).fmod p).fmod p = ((x * y).fmod p + (x * z).fmod p).fmod p := by
  simp only [fe hp, em2, Int.emod_add_emod, Int.add_emod_emod, Int.mul_add]
theorem r_self {x p : Int} (h0 : 0 ≤ x) (h1 : x < p) : x.fmod p = x := by
  rw [fe (by omega)]; exact Int.emod_eq_of_lt h0 h1
theorem r_pm {x p : Int} (hp : 0 < p) : (x + (-x).fmod p).fmod p = 0 := by
  simp only [fe hp, Int.add_emod_emod]; rw [Int.add_right_neg]; exact Int.zero_emod p
def ri (p x : Int) : Int := (x ^ (p.toNat - 2)) % p
theorem pw_nat (x : Int) (h : 0 ≤ x) (k : Nat) : x ^ k = ((x.toNat ^ k : Nat) : Int) := by
  have : (x.toNat : Int) = x := Int.toNat_of_nonneg h
  rw [Int.natCast_pow, this]
theorem ri_in {p x : Int} (hp : 0 < p) : 0 ≤ ri p x ∧ ri p x < p := ⟨Int.emod_nonneg _ (by omega), Int.emod_lt_of_pos _ hp⟩
theorem ri_one {p x : Int} (h : Pr p.toNat) (h0 : 0 < x) (h1 : x < p) : (x * ri p x).fmod p = 1 := by
  have p2 := h.1
  have hp : 0 < p := by omega
  rw [fe hp]
  unfold ri
  rw [em2]
  have e : x * x ^ (p.toNat - 2) = x ^ (p.toNat - 1) := by
    have : p.toNat - 1 = (p.toNat - 2) + 1 := by omega
    rw [this, Int.pow_succ, Int.mul_comm]
  rw [e, pw_nat x (by omega)]
  have f := fermat h (small (p := p.toNat) (a := x.toNat) (by omega) (by omega))
  have : ((x.toNat ^ (p.toNat - 1) % p.toNat : Nat) : Int) = ((1 : Nat) : Int) := by rw [f]
  rw [Int.natCast_emod, Int.toNat_of_nonneg (by omega)] at this
  exact this
def RInv (p x : Int) (left product square : Int) : Prop := (product * square ^ left.toNat) % p = (x ^ (p.toNat - 2)) % p ∧ (0 ≤ product ∧ product < p)
theorem ri_start {p x : Int} (h : 2 ≤ p) : RInv p x (p - 2) 1 x := by
  refine ⟨?_, by omega, by omega⟩
  have : (p - 2).toNat = p.toNat - 2 := by omega
  rw [this, Int.one_mul]
theorem pw_em (a p : Int) (k : Nat) : ((a % p) ^ k) % p = (a ^ k) % p := by
  induction k with
  | zero => rw [Int.pow_zero, Int.pow_zero]
  | succ k ih => rw [Int.pow_succ, Int.pow_succ, em2, Int.mul_comm, ← em2, ih, em2, Int.mul_comm]
theorem ri_odd {p x l a s : Int} (hp : 0 < p) (h : RInv p x l a s) (h0 : 0 < l) (o : l % 2 = 1) : RInv p x (l.fdiv 2) ((a * s).fmod p) ((s * s).fmod p) := by
  have hl : l.toNat = 2 * (l.fdiv 2).toNat + 1 := by
    rw [Int.fdiv_eq_ediv_of_nonneg l (by decide)]; omega
  refine ⟨?_, r_in hp⟩
  rw [← h.1, hl, fe hp, fe hp, em1]
  generalize (l.fdiv 2).toNat = k
  have e : (a * s) * ((s * s) % p) ^ k % p = (a * s) * (s * s) ^ k % p := by
    rw [← em2, pw_em, em2]
  rw [e, Int.pow_succ, Int.pow_mul]
  have : s ^ 2 = s * s := by rw [Int.pow_succ, Int.pow_succ, Int.pow_zero, Int.one_mul]
  rw [this]
  congr 1
  grind
theorem ri_even {p x l a s : Int} (hp : 0 < p) (h : RInv p x l a s) (h0 : 0 < l) (o : l % 2 ≠ 1) : RInv p x (l.fdiv 2) a ((s * s).fmod p) := by
  have hl : l.toNat = 2 * (l.fdiv 2).toNat := by
    rw [Int.fdiv_eq_ediv_of_nonneg l (by decide)]; omega
  refine ⟨?_, h.2⟩
  rw [← h.1, hl, fe hp]
  generalize (l.fdiv 2).toNat = k
  rw [← em2, pw_em, em2, Int.pow_mul]
  have : s ^ 2 = s * s := by rw [Int.pow_succ, Int.pow_succ, Int.pow_zero, Int.one_mul]
  rw [this]
theorem ri_out {p x l a s : Int} (h : RInv p x l a s) (h0 : ¬ 0 < l) : a = ri p x := by
  have : l.toNat = 0 := by omega
  have e := h.1
  rw [this, Int.pow_zero, Int.mul_one, Int.emod_eq_of_lt h.2.1 h.2.2] at e
  exact e
def PI (n : Int) : Prop := 2 ≤ n ∧ ∀ d : Int, 2 ≤ d → d * d ≤ n → ¬ n.fmod d = 0
theorem PI.nat {n : Int} (h : PI n) : Pr n.toNat := by
  refine ⟨by have := h.1; omega, fun d hd hdd e => ?_⟩
  have n2 := h.1
  have hn : (n.toNat : Int) = n := Int.toNat_of_nonneg (by omega)
  refine h.2 (d : Int) (by omega) ?_ ?_
  · have : ((d * d : Nat) : Int) ≤ (n.toNat : Int) := by omega
    rw [hn] at this
    rw [← Int.natCast_mul]; exact this
  · rw [fe (by omega), ← hn, ← Int.natCast_emod, e]; rfl
noncomputable def isP (n : Int) : Bool := @decide (PI n) (Classical.propDecidable _)
theorem isP_true {n : Int} (h : isP n = true) : PI n := @of_decide_eq_true _ (Classical.propDecidable _) h
theorem isP_of {n : Int} (h : PI n) : isP n = true := @decide_eq_true _ (Classical.propDecidable _) h
theorem sq_lt {d f n : Int} (hd : 2 ≤ d) (hf : 2 ≤ f) (h : d * d ≤ n) (g : ¬ f * f ≤ n) : d < f := by
  rcases Int.lt_or_le d f with e | e
  · exact e
  · have : f * f ≤ d * d := Int.mul_le_mul e e (by omega) (by omega)
    omega
theorem sq_le {f n : Int} (hf : 2 ≤ f) (h : f * f ≤ n) : f + 1 ≤ n := by
  have : 2 * f ≤ f * f := Int.mul_le_mul_of_nonneg_right hf (by omega)
  omega
theorem p_check (n k : Nat) (h2 : 2 ≤ n) (hk : n < k * k) (h : (List.range k).all (fun d => d < 2 || n % d != 0) = true) : isP (n : Int) = true := by
  refine isP_of ⟨by omega, fun d hd hdd e => ?_⟩
  have hk2 : ¬ (k : Int) * (k : Int) ≤ (n : Int) := by
    have : ((n : Nat) : Int) < ((k * k : Nat) : Int) := by omega
    rw [Int.natCast_mul] at this; omega
  have kk : 2 ≤ (k : Int) := by
    rcases (by omega : k = 0 ∨ k = 1 ∨ 2 ≤ k) with c | c | c
    · subst c; omega
    · subst c; omega
    · omega
  have lt := sq_lt hd kk hdd hk2
  have dn : (d.toNat : Int) = d := Int.toNat_of_nonneg (by omega)
  have := List.all_eq_true.mp h d.toNat (List.mem_range.mpr (by omega))
  rw [← dn, fe (by omega), ← Int.natCast_emod] at e
  have e' : n % d.toNat = 0 := by omega
  simp [e'] at this
  omega
theorem p2 : isP 2 = true := p_check 2 2 (by decide) (by decide) (by decide +kernel)
theorem p3 : isP 3 = true := p_check 3 2 (by decide) (by decide) (by decide +kernel)
theorem p5 : isP 5 = true := p_check 5 3 (by decide) (by decide) (by decide +kernel)
theorem p7 : isP 7 = true := p_check 7 3 (by decide) (by decide) (by decide +kernel)
end Mine
namespace Mine
open PySem PySem.SeqAt
structure SR where
  W : Type
  add : W → W → W
  mul : W → W → W
  zero : W
  one : W
  add_comm : ∀ x y, add x y = add y x
  add_assoc : ∀ x y z, add (add x y) z = add x (add y z)
  mul_comm : ∀ x y, mul x y = mul y x
  mul_assoc : ∀ x y z, mul (mul x y) z = mul x (mul y z)
  distrib : ∀ x y z, mul x (add y z) = add (mul x y) (mul x z)
  add_zero : ∀ x, add x zero = x
  mul_one : ∀ x, mul x one = x
  mul_zero : ∀ x, mul x zero = zero
  zo : zero ≠ one
  sz : Nat → W → Prop
  sz_mono : ∀ m n x, m ≤ n → sz m x → sz n x
  sz_add : ∀ m n x y, sz m x → sz n y → sz (m + n + 1) (add x y)
  sz_mul : ∀ m n x y, sz m x → sz n y → sz (m + n) (mul x y)
  sz_zero : sz 0 zero
  sz_one : sz 0 one
  lv : Nat → Nat → W → Prop
  lv_mono : ∀ k c c' x, c ≤ c' → lv k c x → lv k c' x
  lv_add : ∀ k c c' x y, lv k c x → lv k c' y → lv k (c + c') (add x y)
  lv_mul : ∀ j k x y, lv j 32 x → lv k 32 y → lv (j + k) 1 (mul x y)
  lv_zero : ∀ k, lv k 0 zero
  lv_one : lv 1 1 one
  lv_up : ∀ k c x, lv k c x → lv (k + 1) c x
  lv_sz : ∀ k c x, c ≤ 1024 → lv k c x → sz (100 * k) x
  data : W → PyData
  sh : ∀ x, shaped (data x) = true
  nm : ∀ x y, noMix (data x) (data y) = true
  eq : ∀ x, PySem.Spec.same (data x) (data x) = true
  ne : ∀ x y, x ≠ y → PySem.Spec.same (data x) (data y) = false
structure Fr where
  t : Int
  b : Int
  p : 0 < b
  l : dv t b = 1
theorem Fr.eq_of {x y : Fr} (h1 : x.t = y.t) (h2 : x.b = y.b) : x = y := by
  cases x; cases y; cases h1; cases h2; rfl
theorem Fr.nb (x : Fr) : x.b ≠ 0 := by have := x.p; omega
def Fr.of (a b : Int) (h : 0 < b) : Fr := ⟨tp a b, bt a b, bt_pos (by omega), low (by omega)⟩
theorem Fr.of_cross (a b : Int) (h : 0 < b) : (Fr.of a b h).t * b = a * (Fr.of a b h).b := cross (by omega)
def Fr.add (x y : Fr) : Fr := Fr.of (x.t * y.b + y.t * x.b) (x.b * y.b) (Int.mul_pos x.p y.p)
def Fr.mul (x y : Fr) : Fr := Fr.of (x.t * y.t) (x.b * y.b) (Int.mul_pos x.p y.p)
def Fr.zero : Fr := ⟨0, 1, by decide, dv01⟩
def Fr.one : Fr := ⟨1, 1, by decide, dv11⟩
def Fr.sz (n : Nat) (x : Fr) : Prop := x.t.natAbs ≤ 2 ^ n ∧ x.b.natAbs ≤ 2 ^ n
def Fr.lv (k c : Nat) (x : Fr) : Prop := ∃ a : Int, x.t * 12 ^ k = a * x.b ∧ 1024 * a.natAbs ≤ c * 2 ^ (100 * k)
theorem Fr.lv_add {k c c' : Nat} {x y : Fr} (h : x.lv k c) (h' : y.lv k c') : (Fr.add x y).lv k (c + c') := by
  obtain ⟨a, e, b⟩ := h
  obtain ⟨a', e', b'⟩ := h'
  refine ⟨a + a', ?_, ?_⟩
  · have hc := Fr.of_cross (x.t * y.b + y.t * x.b) (x.b * y.b) (Int.mul_pos x.p y.p)
    have hn : x.b * y.b ≠ 0 := Int.mul_ne_zero x.nb y.nb
    refine Int.eq_of_mul_eq_mul_right hn ?_
    show (Fr.add x y).t * 12 ^ k * (x.b * y.b) = (a + a') * (Fr.add x y).b * (x.b * y.b)
    have hc : (Fr.add x y).t * (x.b * y.b) = (x.t * y.b + y.t * x.b) * (Fr.add x y).b := hc
    have e1 : (Fr.add x y).t * 12 ^ k * (x.b * y.b) = ((Fr.add x y).t * (x.b * y.b)) * 12 ^ k := by rw [Int.mul_right_comm]
    rw [e1, hc]
    have e2 : (x.t * y.b + y.t * x.b) * (Fr.add x y).b * 12 ^ k = ((x.t * 12 ^ k) * y.b + (y.t * 12 ^ k) * x.b) * (Fr.add x y).b := by
      rw [Int.mul_right_comm, Int.add_mul, Int.mul_right_comm x.t, Int.mul_right_comm y.t]
    rw [e2, e, e']
    have e3 : a * x.b * y.b + a' * y.b * x.b = (a + a') * (x.b * y.b) := by
      rw [Int.add_mul, Int.mul_assoc, Int.mul_assoc a', Int.mul_comm y.b x.b]
    rw [e3, Int.mul_right_comm]
  · have := Int.natAbs_add_le a a'
    rw [Nat.add_mul]
    omega
theorem Fr.lv_mul {j k : Nat} {x y : Fr} (h : x.lv j 32) (h' : y.lv k 32) : (Fr.mul x y).lv (j + k) 1 := by
  obtain ⟨a, e, b⟩ := h
  obtain ⟨a', e', b'⟩ := h'
  refine ⟨a * a', ?_, ?_⟩
  · have hc : (Fr.mul x y).t * (x.b * y.b) = (x.t * y.t) * (Fr.mul x y).b := Fr.of_cross (x.t * y.t) (x.b * y.b) (Int.mul_pos x.p y.p)
    have hn : x.b * y.b ≠ 0 := Int.mul_ne_zero x.nb y.nb
    refine Int.eq_of_mul_eq_mul_right hn ?_
    rw [Int.mul_right_comm, hc, Int.pow_add]
    have e2 : x.t * y.t * (Fr.mul x y).b * (12 ^ j * 12 ^ k) = (x.t * 12 ^ j) * (y.t * 12 ^ k) * (Fr.mul x y).b := by
      rw [Int.mul_right_comm]
      congr 1
      rw [Int.mul_assoc, Int.mul_assoc, Int.mul_left_comm y.t]
    rw [e2, e, e']
    have e3 : a * x.b * (a' * y.b) = a * a' * (x.b * y.b) := by
      rw [Int.mul_assoc, Int.mul_assoc, Int.mul_left_comm x.b]
    rw [e3, Int.mul_right_comm]
  · rw [Int.natAbs_mul, Nat.mul_add, Nat.pow_add]
    have h1 := Nat.mul_le_mul b b'
    have e1 : 1024 * a.natAbs * (1024 * a'.natAbs) = 1024 * (1024 * (a.natAbs * a'.natAbs)) := by
      rw [Nat.mul_assoc, Nat.mul_left_comm a.natAbs]
    have e2 : 32 * 2 ^ (100 * j) * (32 * 2 ^ (100 * k)) = 1024 * (2 ^ (100 * j) * 2 ^ (100 * k)) := by
      rw [Nat.mul_assoc, Nat.mul_left_comm (2 ^ (100 * j)), ← Nat.mul_assoc]
    rw [e1, e2] at h1
    have := Nat.le_of_mul_le_mul_left h1 (by decide)
    omega
theorem Fr.lv_up {k c : Nat} {x : Fr} (h : x.lv k c) : x.lv (k + 1) c := by
  obtain ⟨a, e, b⟩ := h
  refine ⟨a * 12, ?_, ?_⟩
  · rw [Int.pow_succ, ← Int.mul_assoc, e, Int.mul_right_comm]
  · rw [Int.natAbs_mul, show 100 * (k + 1) = 100 * k + 100 from by omega, Nat.pow_add]
    have h1 : (1024 * a.natAbs) * 12 ≤ (c * 2 ^ (100 * k)) * 2 ^ 100 := Nat.mul_le_mul b (by decide)
    have e1 : 1024 * (a.natAbs * (12 : Int).natAbs) = (1024 * a.natAbs) * 12 := by rw [Nat.mul_assoc]; rfl
    rw [e1, ← Nat.mul_assoc]
    exact h1
theorem Fr.lv_sz {k c : Nat} {x : Fr} (hc : c ≤ 1024) (h : x.lv k c) : x.sz (100 * k) := by
  obtain ⟨a, e, b⟩ := h
  have cop : Nat.Coprime x.t.natAbs x.b.natAbs := by
    have l := x.l
    unfold dv at l
    have : Int.gcd x.t x.b = 1 := by omega
    exact this
  have e' : x.t.natAbs * 12 ^ k = a.natAbs * x.b.natAbs := by
    have := congrArg Int.natAbs e
    rw [Int.natAbs_mul, Int.natAbs_mul, Int.natAbs_pow] at this
    exact this
  have hb : a.natAbs ≤ 2 ^ (100 * k) := by
    have h1 : 1024 * a.natAbs ≤ 1024 * 2 ^ (100 * k) := Nat.le_trans b (Nat.mul_le_mul_right _ hc)
    exact Nat.le_of_mul_le_mul_left h1 (by decide)
  have p12 : (12 : Nat) ^ k ≤ 2 ^ (100 * k) := by
    rw [Nat.pow_mul]
    exact Nat.pow_le_pow_left (by decide) k
  constructor
  · have d : x.t.natAbs ∣ a.natAbs := cop.dvd_of_dvd_mul_right ⟨12 ^ k, e'.symm⟩
    by_cases z : a.natAbs = 0
    · have : x.t.natAbs * 12 ^ k = 0 := by rw [e', z, Nat.zero_mul]
      have : x.t.natAbs = 0 := by
        rcases Nat.mul_eq_zero.mp this with h | h
        · exact h
        · exact absurd h (Nat.ne_of_gt (Nat.pow_pos (by decide)))
      omega
    · exact Nat.le_trans (Nat.le_of_dvd (by omega) d) hb
  · have d : x.b.natAbs ∣ 12 ^ k := cop.symm.dvd_of_dvd_mul_left ⟨a.natAbs, by rw [e', Nat.mul_comm]⟩
    exact Nat.le_trans (Nat.le_of_dvd (Nat.pow_pos (by decide)) d) p12
structure Re (p : Int) where
  x : Int
  h0 : 0 ≤ x
  h1 : x < p
theorem Re.eq_of {p : Int} {a b : Re p} (h : a.x = b.x) : a = b := by cases a; cases b; cases h; rfl
def Re.of (p : Int) (hp : 0 < p) (x : Int) : Re p := ⟨x.fmod p, (r_in hp).1, (r_in hp).2⟩
def resSR (p : Int) (hp : 2 ≤ p) : SR where
  W := Re p
  add a b := Re.of p (by omega) (a.x + b.x)
  mul a b := Re.of p (by omega) (a.x * b.x)
  zero := ⟨0, by omega, by omega⟩
  one := ⟨1, by omega, by omega⟩
  add_comm a b := Re.eq_of (by show (a.x + b.x).fmod p = (b.x + a.x).fmod p; rw [Int.add_comm])
  add_assoc a b c := Re.eq_of (r_pa (by omega))
  mul_comm a b := Re.eq_of (by show (a.x * b.x).fmod p = (b.x * a.x).fmod p; rw [Int.mul_comm])
  mul_assoc a b c := Re.eq_of (r_ta (by omega))
  distrib a b c := Re.eq_of (r_d (by omega))
  add_zero a := Re.eq_of (by show (a.x + 0).fmod p = a.x; rw [Int.add_zero]; exact r_self a.h0 a.h1)
  mul_one a := Re.eq_of (by show (a.x * 1).fmod p = a.x; rw [Int.mul_one]; exact r_self a.h0 a.h1)
  mul_zero a := Re.eq_of (by show (a.x * 0).fmod p = 0; rw [Int.mul_zero]; exact r_self (by omega) (by omega))
  zo h := by have : (0 : Int) = 1 := congrArg Re.x h; omega
  sz _ _ := True
  sz_mono _ _ _ _ _ := trivial
  sz_add _ _ _ _ _ _ := trivial
  sz_mul _ _ _ _ _ _ := trivial
  sz_zero := trivial
  sz_one := trivial
  lv _ _ _ := True
  lv_mono _ _ _ _ _ _ := trivial
  lv_add _ _ _ _ _ _ _ := trivial
  lv_mul _ _ _ _ _ _ := trivial
  lv_zero _ := trivial
  lv_one := trivial
  lv_up _ _ _ _ := trivial
  lv_sz _ _ _ _ _ := trivial
  data a := .int a.x
  sh _ := rfl
  nm _ _ := by simp [noMix]
  eq _ := by simp [PySem.Spec.same]
  ne a b h := by
    simp [PySem.Spec.same]
    intro e
    exact h (Re.eq_of e)
end Mine
namespace L2
open PySem PySem.Spec PyProof.Rows
/-- no files beside the program -/
class Plain (P : Program) : Prop where
  tree : P.given.tree = none
section
variable {X : Cx}
theorem Inv.seer {pins : List (Addr × Obj)} {σ : St} {H : Hp} {s : Shared} (I : Inv X pins σ H s) : s.heap.NoSeer := I.ok.mod.seer.keeps I.bk
end
end L2
namespace L2
open PySem PySem.Spec PyProof.Rows
def cloOf (cells : List (Str × Addr)) : List (Str × NameKind) → List (Str × Addr) → List (Str × Addr)
  | [], cs => cs
  | (n, k) :: r, cs => cloOf cells r (if (k == .free) = true then (n, (cells.lookup n).getD 0) :: cs else cs)
theorem clo_for {env : Env} : ∀ (names : List (Str × NameKind)) (cs : List (Str × Addr)), (∀ n, (n, NameKind.free) ∈ names → ∃ c, env.cells.lookup n = some c) →
    (forIn names cs fun (x : Str × NameKind) (r : List (Str × Addr)) => (match x with | (name, kind) => if (kind == NameKind.free) = true then (do let c ← cellOf env name; pure (ForInStep.yield ((name, c) :: r))) else pure (ForInStep.yield r) : Sem (ForInStep (List (Str × Addr))))) = pure (cloOf env.cells names cs)
  | [], cs, _ => rfl
  | (n, k) :: r, cs, h => by
    rw [List.forIn_cons]
    by_cases hk : k = .free
    · subst hk
      obtain ⟨c, hc⟩ := h n List.mem_cons_self
      have ih := clo_for (env := env) r ((n, c) :: cs) fun m hm => h m (List.mem_cons_of_mem _ hm)
      have e1 : cellOf env n = pure c := by unfold cellOf; rw [hc]
      simp only [beq_self_eq_true, if_true, e1, pure_bind]
      rw [ih]
      conv => rhs; unfold cloOf
      simp only [beq_self_eq_true, if_true, hc, Option.getD_some]
    · have hb : (k == NameKind.free) = false := by simpa using hk
      have ih := clo_for (env := env) r cs fun m hm => h m (List.mem_cons_of_mem _ hm)
      simp only [hb, Bool.false_eq_true, if_false, pure_bind]
      rw [ih]
      conv => rhs; unfold cloOf
      simp only [hb, Bool.false_eq_true, if_false]
theorem clo_closure {env : Env} {scope : Scope} (h : ∀ n, (n, NameKind.free) ∈ scope.names → ∃ c, env.cells.lookup n = some c) : closureFor scope env = pure (cloOf env.cells scope.names []) := by
  have e := clo_for (env := env) scope.names [] h
  unfold closureFor
  simp only [bind_pure]
  exact e
theorem clo_in {cells : List (Str × Addr)} : ∀ {names : List (Str × NameKind)} {cs : List (Str × Addr)}, (∀ n, (n, NameKind.free) ∈ names → ∃ c, cells.lookup n = some c) → ∀ {y c}, (cloOf cells names cs).lookup y = some c → cs.lookup y = some c ∨ cells.lookup y = some c
  | [], cs, _, y, c, e => .inl e
  | (n, k) :: r, cs, h, y, c, e => by
    unfold cloOf at e
    have h' : ∀ m, (m, NameKind.free) ∈ r → ∃ c, cells.lookup m = some c := fun m hm => h m (List.mem_cons_of_mem _ hm)
    rcases clo_in h' e with z | z
    · by_cases hk : k = .free
      · subst hk
        obtain ⟨d, hd⟩ := h n List.mem_cons_self
        simp only [beq_self_eq_true, if_true, hd, Option.getD_some] at z
        rw [List.lookup_cons] at z
        cases hy : (y == n) with
        | true =>
          rw [hy] at z
          have : y = n := beq_iff_eq.mp hy
          subst this
          exact .inr (hd.trans z)
        | false => rw [hy] at z; exact .inl z
      · have hb : (k == NameKind.free) = false := by simpa using hk
        simp only [hb, Bool.false_eq_true, if_false] at z
        exact .inl z
    · exact .inr z
theorem clo_has {cells : List (Str × Addr)} : ∀ {names : List (Str × NameKind)} {cs : List (Str × Addr)} {y : Str}, ((∃ c, cs.lookup y = some c) ∨ (y, NameKind.free) ∈ names) → ∃ c, (cloOf cells names cs).lookup y = some c
  | [], cs, y, h => by
    rcases h with h | h
    · exact h
    · cases h
  | (n, k) :: r, cs, y, h => by
    unfold cloOf
    refine clo_has ?_
    rcases h with ⟨c, h⟩ | h
    · left
      split
      · rw [List.lookup_cons]
        cases hy : (y == n) with
        | true => exact ⟨_, rfl⟩
        | false => exact ⟨c, h⟩
      · exact ⟨c, h⟩
    · rcases List.mem_cons.mp h with e | h
      · cases e
        left
        simp only [beq_self_eq_true, if_true]
        rw [List.lookup_cons, beq_self_eq_true]
        exact ⟨_, rfl⟩
      · exact .inr h
theorem compLoop_any {prog : Program} {w : World} {A : Around} {R : Result → Shared → Prop} {s : Shared} {elt target iter : Expr} {scope : Scope} {pos : Pos} {it acc : Value} {env : Env} (I : Nat → Shared → Prop)
    (turn : ∀ n s, I n s → wpAny (model prog w) A (pyNext it) (fun r s₁ => match r with
      | none => R (.ok .next) s₁
      | some v => wpAny (model prog w) A (letOwnedTupleGo target it v) (fun _ s₁' => wpAny (model prog w) A (assign target env v) (fun _ s₂ => wpAny (model prog w) A (eval elt env) (fun x s₃ =>
          wpAny (model prog w) A (call (.builtin "list.append") [acc, x]) (fun _ s₄ => ∃ m, m < n ∧ I m s₄) (fun _ _ => False) s₃) (fun _ _ => False) s₂) (fun _ _ => False) s₁') (fun _ _ => False) s₁) (fun _ _ => False) s)
    (n : Nat) (h : I n s) :
    codeAny (model prog w) A (.compLoop (.ListComp elt [⟨target, iter, [], 0⟩] scope pos) 0 it acc env) R s := by
  refine codeAny_loop rfl I (fun n s hI => ?_) n h
  show wpAny _ _ ((compTurn (.ListComp elt [⟨target, iter, [], 0⟩] scope pos) 0 it acc env).onRaise (fun x => do noteFrame x env; theTreesLotGoes x)) _ _ s
  refine wpAny_noted ?_
  rw [compTurn_list1]
  refine wpAny_bind (wpAny_standAt (wpAny_bind (wpAny_mono (turn n s hI) (fun r s₁ h₁ => ?_) fun _ _ h' => h'.elim)))
  cases r with
  | none => exact wpAny_pure h₁
  | some v =>
    exact wpAny_bind (wpAny_mono h₁ (fun _ s1' h1' => wpAny_bind (wpAny_mono h1' (fun _ s₂ h₂ => wpAny_bind (wpAny_bind (wpAny_mono h₂ (fun x s₃ h₃ => wpAny_bind (wpAny_mono h₃
      (fun _ s₄ h₄ => wpAny_pure (wpAny_pure ⟨rfl, h₄⟩)) fun _ _ h' => h'.elim)) fun _ _ h' => h'.elim))) fun _ _ h' => h'.elim)) fun _ _ h' => h'.elim)
theorem HOk.track {P : Program} {w : World} {H : Hp} {h : Heap} {a : Addr} {o : HO} (x : HOk P w H h) (n : H a = none) (new : ObjOk P w (upd H a o) h a o) : HOk P w (upd H a o) h := fun b u e => by
  by_cases hb : b = a
  · subst hb; rw [upd_same] at e; cases e; exact new
  · rw [upd_ne hb] at e
    exact (x b u e).stay (fun _ _ _ q => q) (fun c q => by rw [upd_ne (ne_of_none q n)]; exact q) fun c xs q => by rw [upd_ne (ne_of_none q n)]; exact q
theorem Un.track {fs ex : List Addr} {H H' : Hp} {h h' : Heap} {a : Addr} {o : HO} (u : Un fs ex H H' h h') (hp : h.objs.size ≤ a) (n : H' a = none) : Un fs ex H (upd H' a o) h h' where
  keep := u.keep
  slot := u.slot
  free := fun b ob q m hx => by rw [upd_ne (Nat.ne_of_lt (Nat.lt_of_lt_of_le (Heap.lt_size q) hp))]; exact u.free b ob q m hx
  there := u.there
  tups := fun b xs q => by have z := u.tups b xs q; rw [upd_ne (ne_of_none z n)]; exact z
  frzs := fun b ob xs q => by have z := u.frzs b ob xs q; rw [upd_ne (ne_of_none z n)]; exact z
  tbls := fun b ps q => by obtain ⟨m, z⟩ := u.tbls b ps q; exact ⟨m, by rw [upd_ne (ne_of_none z n)]; exact z⟩
theorem cells_app : ∀ (names : List (Str × NameKind)) (n : Nat) (acc : List (Str × Addr)), cellsFrom n names acc = cellsFrom n names [] ++ acc
  | [], _, _ => rfl
  | (x, k) :: r, n, acc => by
    unfold cellsFrom
    split
    · rw [cells_app r (n + 1) ((x, n) :: acc), cells_app r (n + 1) [(x, n)], List.append_assoc]; rfl
    · exact cells_app r n acc
theorem cells_in : ∀ (names : List (Str × NameKind)) (n : Nat) (y : Str) (c : Addr), (y, c) ∈ cellsFrom n names [] → (y, NameKind.cell) ∈ names
  | [], _, _, _, h => by cases h
  | (x, k) :: r, n, y, c, h => by
    unfold cellsFrom at h
    split at h
    · rename_i hk
      rw [cells_app] at h
      rcases List.mem_append.mp h with h | h
      · exact List.mem_cons_of_mem _ (cells_in r (n + 1) y c h)
      · have e := List.mem_singleton.mp h
        cases e
        rw [show k = NameKind.cell by simpa using hk]
        exact List.mem_cons_self
    · exact List.mem_cons_of_mem _ (cells_in r n y c h)
theorem cells_has : ∀ (names : List (Str × NameKind)) (n : Nat) (y : Str), (y, NameKind.cell) ∈ names → ∃ c, (y, c) ∈ cellsFrom n names []
  | [], _, _, h => by cases h
  | (x, k) :: r, n, y, h => by
    unfold cellsFrom
    rcases List.mem_cons.mp h with e | h
    · cases e
      rw [if_pos (show (NameKind.cell == NameKind.cell) = true by decide), cells_app]
      exact ⟨n, List.mem_append_right _ List.mem_cons_self⟩
    · split
      · rw [cells_app]
        obtain ⟨c, hc⟩ := cells_has r (n + 1) y h
        exact ⟨c, List.mem_append_left _ hc⟩
      · exact cells_has r n y h
theorem lookup_app {α : Type} : ∀ (l r : List (Str × α)) (y : Str), (l ++ r).lookup y = match l.lookup y with | some c => some c | none => r.lookup y
  | [], _, _ => rfl
  | (x, c) :: l, r, y => by
    rw [List.cons_append, List.lookup_cons, List.lookup_cons]
    cases (y == x) with
    | true => rfl
    | false => exact lookup_app l r y
theorem lookup_mem {α : Type} : ∀ {l : List (Str × α)} {y : Str} {c : α}, (y, c) ∈ l → ∃ c', l.lookup y = some c'
  | (x, d) :: l, y, c, h => by
    rw [List.lookup_cons]
    cases hb : (y == x) with
    | true => exact ⟨d, rfl⟩
    | false =>
      rcases List.mem_cons.mp h with e | h
      · cases e; rw [beq_self_eq_true] at hb; cases hb
      · exact lookup_mem h
abbrev cbOf (env : Env) (scope : Scope) (C : Addr) : List (Str × Addr) := cellsFrom (C + 1) scope.names (cloOf env.cells scope.names [])
theorem cb_lookup {env : Env} {scope : Scope} {C : Addr} {y : Str} {c : Addr} (h : (cbOf env scope C).lookup y = some c) : (y, c) ∈ cellsFrom (C + 1) scope.names [] ∨ (cloOf env.cells scope.names []).lookup y = some c := by
  rw [show cbOf env scope C = _ from cells_app _ _ _, lookup_app] at h
  split at h
  · rename_i e; cases h; exact .inl (PySem.mem_of_lookup e)
  · exact .inr h
theorem cb_own {env : Env} {scope : Scope} {C : Addr} {y : Str} {c : Addr} (k : scope.names.lookup y = some .cell) (h : (cbOf env scope C).lookup y = some c) : (y, c) ∈ cellsFrom (C + 1) scope.names [] := by
  rw [show cbOf env scope C = _ from cells_app _ _ _, lookup_app] at h
  obtain ⟨d, hd⟩ := cells_has scope.names (C + 1) y (PySem.mem_of_lookup k)
  obtain ⟨d', hd'⟩ := lookup_mem hd
  rw [hd'] at h
  cases h
  exact PySem.mem_of_lookup hd'
theorem cells_above : ∀ (names : List (Str × NameKind)) (n : Nat) (y : Str) (c : Addr), (y, c) ∈ cellsFrom n names [] → n ≤ c
  | [], _, _, _, h => by cases h
  | (x, k) :: r, n, y, c, h => by
    unfold cellsFrom at h
    split at h
    · rw [cells_app] at h
      rcases List.mem_append.mp h with h | h
      · have := cells_above r (n + 1) y c h; omega
      · cases List.mem_singleton.mp h; exact Nat.le_refl _
    · exact cells_above r n y c h
theorem cells_inj : ∀ (names : List (Str × NameKind)) (n : Nat) (x y : Str) (c : Addr), (x, c) ∈ cellsFrom n names [] → (y, c) ∈ cellsFrom n names [] → x = y
  | [], _, _, _, _, h, _ => by cases h
  | (z, k) :: r, n, x, y, c, h, g => by
    unfold cellsFrom at h g
    split at h
    · rename_i hk
      rw [if_pos hk] at g
      rw [cells_app] at h g
      rcases List.mem_append.mp h with h | h <;> rcases List.mem_append.mp g with g | g
      · exact cells_inj r (n + 1) x y c h g
      · cases List.mem_singleton.mp g
        have := cells_above r (n + 1) x _ h; omega
      · cases List.mem_singleton.mp h
        have := cells_above r (n + 1) y _ g; omega
      · cases List.mem_singleton.mp h; cases List.mem_singleton.mp g; rfl
    · rename_i hk
      rw [if_neg hk] at g
      exact cells_inj r n x y c h g
theorem newEnv_comp {M : Model} {A : Around} {E : Value → Shared → Prop} {s : Shared} {scope : Scope} {globals : Addr} {closure : List (Str × Addr)} {qual : Str} {env : Env} {Q : Env → Shared → Prop}
    (hQ : ∀ h' : Heap, h'.Ns s.heap.objs.size (fun _ => none) → (∀ b o, s.heap.get? b = some o → h'.get? b = some o) → CellsOk h' (s.heap.objs.size + 1) (cellsFrom (s.heap.objs.size + 1) scope.names []) →
      Q (newEnv scope s.heap.objs.size globals (cellsFrom (s.heap.objs.size + 1) scope.names closure) qual none .none (some env) builtinsNs) { s with heap := h', toks := s.toks + ([] : List (Str × Value)).length }) :
    wpAny M A (newFunctionEnv scope globals closure [] qual none .none (some env)) Q E s := by
  simp only [newFunctionEnv, Option.isSome_some, if_true]
  refine wpAny_bind (wpAny_alloc ?_)
  refine wpAny_bind (wpAny_layCells _ (fun name kind cells => by cases hkc : kind == NameKind.cell <;> simp [hkc]) _ _ _ _ ?_)
  have ok := cellsFrom_ok scope.names (s.heap.push { cls := .type "dict", data := .dict #[] }) (s.heap.objs.size + 1) [] ⟨fun _ _ hm => (nomatch hm), List.Pairwise.nil⟩ (by rw [Heap.size_push]; exact Nat.le_refl _)
  rw [Heap.size_push] at ok
  rw [show ({ s with heap := s.heap.push { cls := .type "dict", data := .dict #[] } } : Shared).heap.objs.size = s.heap.objs.size + 1 from Heap.size_push ..]
  rw [List.forIn_nil]
  refine wpAny_bind (wpAny_pure (wpAny_pure ?_))
  exact hQ _ ((Heap.Ns.new s.heap (.type "dict")).keeps (pushCells_keeps _ _)) (fun b o e => pushCells_keeps _ _ b o (Heap.get?_push_of_some _ e)) ok
def compCx (X : Cx) (scope : Scope) (xs : List Str) (C : Addr) (s : Shared) (H : Hp) (fp : List Addr) (pn : List (Addr × Obj)) : Cx :=
  { X with env := compEnvC scope (cbOf X.env scope C) C X.env, N := X.N ++ xs, s₀ := s, H₀ := H, outer := X.stack, ex := fp, fn := fun y => scope.names.lookup y == some .cell, pn := pn, xe := fun _ _ => False }
structure CompOk (N : List Str) (S T : Scope) : Prop where
  kind : T.kind = .function
  cell : ∀ y ∈ N, T.names.lookup y ≠ some .cell
  names : ∀ y ∈ T.names, y.2 = .local → T.names.lookup y.1 = some .local
  uniq : ∀ y ∈ T.names, T.names.lookup y.1 = some y.2
  free : ∀ y ∈ T.names, y.2 = .free → S.names.lookup y.1 = some .cell ∨ S.names.lookup y.1 = some .free
  vis : ∀ y ∈ N, T.names.lookup y ≠ some .local
def rl (env : Env) (z : Str × NameKind) : Str × NameKind := match z with | (n, k) => if (k == NameKind.free && env.scope.kind == .function && env.kindOf n == some .cell) then (n, NameKind.cell) else (n, k)
theorem rl_fst (env : Env) (n : Str) (k : NameKind) : (rl env (n, k)).1 = n := by unfold rl; dsimp only; split <;> rfl
theorem rl_snd (env : Env) (n : Str) (k : NameKind) : (rl env (n, k)).2 = k ∨ (k = .free ∧ (rl env (n, k)).2 = .cell) := by
  unfold rl
  dsimp only
  split
  · rename_i h
    simp only [Bool.and_eq_true] at h
    exact .inr ⟨by simpa using h.1.1, rfl⟩
  · exact .inl rfl
theorem rl_lookup {env : Env} : ∀ {names : List (Str × NameKind)} {y : Str} {k : NameKind}, (names.map (rl env)).lookup y = some k → names.lookup y = some k ∨ (names.lookup y = some .free ∧ k = .cell)
  | [], _, _, h => by cases h
  | (n, j) :: r, y, k, h => by
    have ih := @rl_lookup env r y k
    rw [List.map_cons, show rl env (n, j) = ((rl env (n, j)).1, (rl env (n, j)).2) from rfl, rl_fst, List.lookup_cons] at h
    rw [List.lookup_cons]
    cases hy : (y == n) with
    | true =>
      rw [hy] at h
      have h : (rl env (n, j)).2 = k := Option.some.inj h
      rcases rl_snd env n j with z | ⟨z1, z2⟩
      · exact .inl (by rw [← h, z])
      · exact .inr ⟨by rw [z1], by rw [← h, z2]⟩
    | false =>
      rw [hy] at h
      exact ih h
theorem relabel_free {env : Env} {scope : Scope} {y : Str} (h : (relabel scope env).names.lookup y = some .cell ∨ (relabel scope env).names.lookup y = some .free) : scope.names.lookup y = some .free ∨ scope.names.lookup y = some .cell := by
  have e : (relabel scope env).names = scope.names.map (rl env) := rfl
  rw [e] at h
  rcases h with h | h
  · rcases rl_lookup h with z | ⟨z, _⟩
    · exact .inr z
    · exact .inl z
  · rcases rl_lookup h with z | ⟨z, _⟩
    · exact .inl z
    · exact .inl z
theorem relabel_local {env : Env} {scope : Scope} {y : Str} (h : (relabel scope env).names.lookup y = some .local) : scope.names.lookup y = some .local := by
  have e : (relabel scope env).names = scope.names.map (rl env) := rfl
  rw [e] at h
  rcases rl_lookup h with z | ⟨_, z⟩
  · exact z
  · cases z
theorem Un.but {fs ex : List Addr} {H H' : Hp} {h h1 h2 : Heap} {C : Addr} (u : Un fs ex H H' h h1) (hb : ∀ b o, b ≠ C → h1.get? b = some o → h2.get? b = some o) (hC : h.objs.size ≤ C) : Un fs ex H H' h h2 := by
  have ne : ∀ b o, h.get? b = some o → b ≠ C := fun b o e => Nat.ne_of_lt (Nat.lt_of_lt_of_le (Heap.lt_size e) hC)
  refine ⟨fun b o e n hf hx => hb b o (ne b o e) (u.keep b o e n hf hx), fun b o e n hf hx => ?_, u.free, fun b o e hx => ?_, u.tups, u.frzs, u.tbls⟩
  · obtain ⟨sl, q⟩ := u.slot b o e n hf hx
    exact ⟨sl, hb b _ (ne b o e) q⟩
  · obtain ⟨o', q⟩ := u.there b o e hx
    exact ⟨o', hb b _ (ne b o e) q⟩
theorem HOk.but {P : Program} {w : World} {H : Hp} {h1 h2 : Heap} {C : Addr} (x : HOk P w H h1) (hb : ∀ b o, b ≠ C → h1.get? b = some o → h2.get? b = some o) (n : H C = none) : HOk P w H h2 := fun b u e =>
  (x b u e).stay (fun c v hc q => hb c v (by
    rcases hc with rfl | hc
    · exact ne_of_none e n
    · exact ne_of_none hc n) q) (fun _ q => q) fun _ _ q => q
section
variable {X : Cx} {pins : List (Addr × Obj)} {σ : St} {H : Hp} {s : Shared} {scope : Scope} {xs : List Str} {fp : List Addr} {C : Addr}
theorem comp_free (I : Inv X pins σ H s) (ok : CompOk X.N X.env.scope scope) : ∀ n, (n, NameKind.free) ∈ scope.names → ∃ c, X.env.cells.lookup n = some c := fun n hn => I.ok.has n (ok.free _ hn rfl)
theorem comp_cell (I : Inv X pins σ H s) (ok : CompOk X.N X.env.scope scope) {y : Str} {c : Addr} (e : (cbOf X.env scope C).lookup y = some c) : (y, c) ∈ cellsFrom (C + 1) scope.names [] ∨ X.env.cells.lookup y = some c := by
  rcases cb_lookup e with z | z
  · exact .inl z
  · rcases clo_in (comp_free I ok) z with z | z
    · cases z
    · exact .inr z
theorem comp_old (I : Inv X pins σ H s) {y : Str} {c : Addr} (e : X.env.cells.lookup y = some c) : c < s.heap.objs.size := let ⟨_, h⟩ := I.cell y c e; h.lt
theorem comp_ok (I : Inv X pins σ H s) (ok : CompOk X.N X.env.scope scope) (hf : ∀ b ∈ fp, FpOk X pins H b) (hx : ∀ b ∈ fp, b < s.heap.objs.size) (hC : s.heap.objs.size ≤ C) :
    (compCx X scope xs C s H fp (X.pn ++ pins)).Ok where
  mod := I.mod
  kind := ok.kind
  glob := I.ok.glob
  blt := I.ok.blt
  above := hC
  inj := fun x y c h1 h2 => by
    rcases comp_cell I ok h1 with z1 | z1 <;> rcases comp_cell I ok h2 with z2 | z2
    · exact cells_inj _ _ x y c z1 z2
    · exact absurd (Nat.lt_of_lt_of_le (comp_old I z2) (Nat.le_trans hC (Nat.le_of_lt (cells_above _ _ _ _ z1)))) (Nat.lt_irrefl _)
    · exact absurd (Nat.lt_of_lt_of_le (comp_old I z1) (Nat.le_trans hC (Nat.le_of_lt (cells_above _ _ _ _ z2)))) (Nat.lt_irrefl _)
    · exact I.ok.inj x y c z1 z2
  has := fun y hy => by
    show ∃ c, (cbOf X.env scope C).lookup y = some c
    rw [show cbOf X.env scope C = _ from cells_app _ _ _, lookup_app]
    rcases relabel_free hy with z | z
    · obtain ⟨c, hc⟩ := clo_has (cells := X.env.cells) (cs := []) (.inr (PySem.mem_of_lookup z))
      split
      · rename_i c' _; exact ⟨c', rfl⟩
      · exact ⟨c, hc⟩
    · obtain ⟨c, hc⟩ := cells_has scope.names (C + 1) y (PySem.mem_of_lookup z)
      obtain ⟨c', hc'⟩ := lookup_mem hc
      rw [hc']
      exact ⟨c', rfl⟩
  cab := fun x c h e => Nat.le_trans hC (Nat.le_of_lt (cells_above _ _ _ _ (cb_own (by have h : (scope.names.lookup x == some NameKind.cell) = true := h; simpa using h) e)))
  hd := I.ok.hd
  frames := I.ok.frames
  stk := .inl rfl
  exf := fun b hb => ⟨Nat.ne_of_lt (Nat.lt_of_lt_of_le (hx b hb) hC), fun x c e => by
    rcases comp_cell I ok e with z | z
    · exact Nat.ne_of_gt (Nat.lt_of_lt_of_le (hx b hb) (Nat.le_trans hC (Nat.le_of_lt (cells_above _ _ _ _ z))))
    · exact (hf b hb).2.2.2.2.1 x c z⟩
  bs := I.bs
  bsz := Nat.le_trans I.ok.bsz I.sz
  noex := fun b o e hb => by
    rcases (hf b hb).2.2.2.1 with z | z
    · exact I.ok.noex b o e z
    · exact absurd (Nat.lt_of_lt_of_le (Heap.lt_size e) (Nat.le_trans I.ok.bsz z)) (Nat.lt_irrefl _)
  exfs := fun b hb z => by
    rcases List.mem_cons.mp (I.stkSub b z) with q | q
    · exact (hf b hb).2.1 q
    · exact (hf b hb).2.2.1 q
  funs := I.stack
  frf := I.stkFree
theorem comp_start (I : Inv X pins σ H s) (ok : CompOk X.N X.env.scope scope) (hf : ∀ b ∈ fp, FpOk X pins H b) (hx : ∀ b ∈ fp, b < s.heap.objs.size) (hC : s.heap.objs.size ≤ C) {h' : Heap} {t' : Nat} {m : Str → Option Value}
    (hn : h'.Ns C m) (hk : ∀ b o, s.heap.get? b = some o → h'.get? b = some o) (hcs : CellsOk h' (C + 1) (cellsFrom (C + 1) scope.names [])) :
    Inv (compCx X scope xs C s H fp (X.pn ++ pins)) [] (σ ++ List.replicate xs.length none) H { s with heap := h', toks := t' } where
  ok := comp_ok I ok hf hx hC
  os := rfl
  bare := I.bare
  base := Un.kept hk
  loc := by
    refine ⟨m, hn, fun i x v e1 e2 e3 => ?_⟩
    have e1 : (X.N ++ xs)[i]? = some x := e1
    have hi : i < σ.length := by
      by_cases hi : i < σ.length
      · exact hi
      · rw [List.getElem?_append_right (by omega), List.getElem?_replicate] at e2
        split at e2 <;> cases e2
    rw [List.getElem?_append_left hi] at e2
    rw [List.getElem?_append_left (by rw [← I.len]; exact hi)] at e1
    have hxN : x ∈ X.N := List.mem_of_getElem? e1
    have e4 : (relabel scope X.env).names.lookup x = some .cell ∨ (relabel scope X.env).names.lookup x = some .free := by
      rcases e3 with z | z
      · exact absurd (relabel_local z) (ok.vis x hxN)
      · exact z
    have e5 : scope.names.lookup x = some .free := by
      rcases relabel_free e4 with z | z
      · exact z
      · exact absurd z (ok.cell x hxN)
    have e6 := ok.free _ (PySem.mem_of_lookup e5) rfl
    obtain ⟨m0, _, hl⟩ := I.loc
    obtain ⟨u, ru, lu⟩ := hl i x v e1 e2 (.inr e6)
    refine ⟨u, ru, .inr ⟨e4, ?_⟩⟩
    rcases lu with ⟨q, _⟩ | ⟨_, c, hc, o, ho, hd⟩
    · have q : X.env.scope.names.lookup x = some .local := q
      rcases e6 with z | z <;> (rw [q] at z; cases z)
    · obtain ⟨c', hc'⟩ := clo_has (cells := X.env.cells) (cs := []) (.inr (PySem.mem_of_lookup e5))
      have no : (cellsFrom (C + 1) scope.names []).lookup x = none := by
        cases e : (cellsFrom (C + 1) scope.names []).lookup x with
        | none => rfl
        | some d =>
          have := ok.uniq _ (cells_in _ _ _ _ (PySem.mem_of_lookup e))
          rw [e5] at this
          cases this
      have hb : (cbOf X.env scope C).lookup x = some c' := by
        rw [show cbOf X.env scope C = _ from cells_app _ _ _, lookup_app, no]
        exact hc'
      rcases clo_in (comp_free I ok) hc' with z | z
      · cases z
      · rw [hc] at z
        cases z
        exact ⟨c, hb, o, hk _ _ ho, hd⟩
  cell := fun x c e => by
    rcases comp_cell I ok e with z | z
    · exact ⟨none, (hcs.empty x c z).1⟩
    · obtain ⟨v, o, ho, hd⟩ := I.cell x c z
      exact ⟨v, o, hk _ _ ho, hd⟩
  free := I.hok.fresh hC
  freeC := fun x c e => by
    rcases comp_cell I ok e with z | z
    · exact I.hok.fresh (by have := cells_above _ _ _ _ z; omega)
    · exact I.freeC x c z
  pin := fun p hp => by
    rw [List.append_nil] at hp
    obtain ⟨e, n, ne, nf, d⟩ := I.pin p hp
    refine ⟨hk _ _ e, n, Nat.ne_of_lt (Nat.lt_of_lt_of_le (Heap.lt_size e) hC), fun z => ?_, d⟩
    rcases List.mem_cons.mp (I.stkSub p.1 z) with q | q
    · exact ne q
    · exact nf q
  hok := I.hok.kept hk
  len := by
    show (σ ++ List.replicate xs.length none).length = (X.N ++ xs).length
    rw [List.length_append, List.length_append, List.length_replicate, I.len]
end
abbrev CTail (J : It) (k : Nat) (g : TG) (te : TE) (σ : St) (Q : VK) (H1 : Hp) : Prop := ∃ W : Nat → Nat → List V → Hp → Prop, (∃ m, W 0 m [] H1) ∧ ∀ i m ys H, W i m ys H →
  (J.stop i H ∧ ys.length ≤ sizeLine ∧ ∀ p, H p = none → Q (.ref p) (upd H p (.lst ys))) ∨
  (J.go i H ∧ ys.length < sizeLine ∧ ∀ x H', J.yld i H x H' → g x (σ ++ List.replicate k none) H' fun σ2 H2 => (∃ zs, σ2 = σ ++ zs ∧ zs.length = k) ∧ te σ2 H2 fun v H3 => ∃ m', m' < m ∧ W (i + 1) m' (ys ++ [v]) H3)
def tComp (k : Nat) (wi : TI) (g : TG) (te : TE) : TE := fun σ H Q => wi σ H fun J H1 => CTail J k g te σ Q H1
theorem pe_comp {X : Cx} {elt target iter : Expr} {scope : Scope} {pos : Pos} {wi : TI} {g : TG} {te : TE} {xs : List Str} (hc : X.calm = true) (ok : CompOk X.N X.env.scope scope) (hi : PI X target iter wi)
    (hg : ∀ C s H fp pn, PG (compCx X scope xs C s H fp pn) target g) (he : ∀ C s H fp pn, PE (compCx X scope xs C s H fp pn) elt te)
    (hs : ∀ x, foldedSetIterable iter X.env x = pure x := by intro _; rfl) : PE X (.ListComp elt [⟨target, iter, [], 0⟩] scope pos) (tComp xs.length wi g te) := by
  intro pins s σ H Q I h
  rw [eval_ListComp]
  refine wpAny_comprehension_free (use := none) rfl hs (clo_closure (comp_free I ok)) ok.kind ok.names (thn (hi pins s σ H _ I h) fun v s1 h1 => thn h1 fun itv s2 h2 => ?_)
  obtain ⟨it, fp, tn, J, H2, rfl, I2, T, st2, f2, W, ⟨m0, w0⟩, turn⟩ := h2
  refine wpAny_newObj_type (newEnv_comp fun h₁ hns₁ hsb₁ hcl₁ => ?_)
  dsimp only at hns₁ hsb₁ hcl₁ ⊢
  generalize hD : s2.heap.objs.size = D
  generalize hH3 : s2.heap.push { cls := .type "list", dict := none, data := .seq ([] : List Value).toArray } = h3 at hns₁ hsb₁ hcl₁ ⊢
  have k23 : ∀ b o, s2.heap.get? b = some o → h3.get? b = some o := fun b o e => hH3 ▸ Heap.get?_push_of_some _ e
  have hC : h3.objs.size = D + 1 := by rw [← hH3, Heap.size_push, hD]
  have eD3 : h3.get? D = some { cls := .type "list", dict := none, data := .seq ([] : List Value).toArray } := by
    rw [← hH3, ← hD]; exact Heap.get?_push_size _ rfl
  have I3 : Inv X pins σ H2 { s2 with heap := h3 } := I2.kept (t' := s2.toks) k23
  have fD : FpOk X pins H2 D := I2.fpOk (by omega) (I2.hok.fresh (by omega))
  have lt2 : ∀ b ∈ fp, b < D := fun b hb => by
    obtain ⟨o, e, _⟩ := T.obj 0 _ st2 b hb
    rw [← hD]
    exact Heap.lt_size e
  have f3 : ∀ b ∈ D :: fp, FpOk X pins H2 b := fun b hb => by
    rcases List.mem_cons.mp hb with rfl | hb
    · exact fD
    · exact f2 b hb
  have hx3 : ∀ b ∈ D :: fp, b < ({ s2 with heap := h3 } : Shared).heap.objs.size := fun b hb => by
    show b < h3.objs.size
    rcases List.mem_cons.mp hb with rfl | hb
    · rw [hC]; exact Nat.lt_succ_self _
    · rw [hC]; exact Nat.lt_succ_of_lt (lt2 b hb)
  have k31 : ∀ b o, h3.get? b = some o → h₁.get? b = some o := hsb₁
  have okX := comp_ok (C := h3.objs.size) (xs := xs) I3 ok f3 hx3 (Nat.le_refl _)
  have I4 := comp_start (C := h3.objs.size) (xs := xs) (t' := s2.toks + ([] : List (Str × Value)).length) I3 ok f3 hx3 (Nat.le_refl _) hns₁ k31 hcl₁
  have mD : D ∈ D :: fp := List.mem_cons_self
  have neC : ∀ b ∈ D :: fp, b ≠ h3.objs.size := fun b hb => (okX.exf b hb).1
  have stat : ∀ {H' : Hp} {pl : List (Addr × Obj)}, (∀ b ∈ fp, H' b = none) → (∀ p ∈ pl, p.1 = D) → ∀ b ∈ fp, FpOk (compCx X scope xs h3.objs.size { s2 with heap := h3 } H2 (D :: fp) (X.pn ++ pins)) pl H' b := fun hn hpl b hb => by
    have hb' : b ∈ D :: fp := List.mem_cons_of_mem _ hb
    refine ⟨hn b hb, neC b hb', okX.exfs b hb', .inl hb', (okX.exf b hb').2, fun p hp => ?_⟩
    rcases List.mem_append.mp hp with hp | hp
    · exact (f2 b hb).2.2.2.2.2 p hp
    · rw [hpl p hp]
      exact Nat.ne_of_gt (lt2 b hb)
  have loop : codeAny (model X.prog X.w) X.A (.compLoop (.ListComp elt [⟨target, iter, [], 0⟩] scope pos) 0 (.ref it) (.ref D) (compEnvC scope (cbOf X.env scope h3.objs.size) h3.objs.size X.env))
      (compPost (model X.prog X.w) X.A X.xe none (EP X pins σ Q) (.ref D) h3.objs.size) { s2 with heap := h₁, toks := s2.toks + ([] : List (Str × Value)).length } := by
    refine compLoop_any (fun n s' => ∃ i ys its k H', Inv (compCx X scope xs h3.objs.size { s2 with heap := h3 } H2 (D :: fp) (X.pn ++ pins)) [] (σ ++ List.replicate xs.length none) H' s' ∧
      s'.heap.get? D = some { cls := .type "list", data := .seq (its : List Value).toArray k } ∧ Vals ys its ∧ H' D = none ∧ tn i s'.heap ∧ (∀ b ∈ fp, H' b = none) ∧ W i n ys H') ?_ m0
      ⟨0, [], [], _, H2, I4, k31 _ _ eD3, .nil, fD.1, T.keep _ _ _ st2 (fun b _ o e => k31 b o (k23 b o e)), fun b hb => (f2 b hb).1, w0⟩
    rintro n s' ⟨i, ys, its, k, H', I', eD, rv, nD, st, fr, w⟩
    have Ip := I'.pins_of (pins' := [(D, { cls := .type "list", data := .seq its.toArray k })]) fun p hp => by
      rw [List.mem_singleton] at hp
      subst hp
      exact ⟨eD, nD, neC D mD, okX.exfs D mD, fun v z => by cases z⟩
    have one : ∀ p ∈ [(D, ({ cls := .type "list", data := .seq its.toArray k } : Obj))], p.1 = D := fun p hp => by rw [List.mem_singleton] at hp; rw [hp]
    rcases turn i n ys H' w with ⟨stop, hz, q⟩ | ⟨go, hz, step⟩
    · refine thn (T.done (compCx X scope xs h3.objs.size { s2 with heap := h3 } H2 (D :: fp) (X.pn ++ pins)) rfl rfl rfl hc i _ s' _ H' (fun _ _ => False) Ip (stat fr one) st stop) fun r s4 ⟨hr, J4⟩ => ?_
      subst hr
      obtain ⟨mm, hnm, _⟩ := J4.loc
      refine ⟨mm, hnm, fun h' sb => ?_⟩
      obtain ⟨eD4, nD4, _⟩ := J4.pin (D, { cls := .type "list", data := .seq its.toArray k }) (List.mem_append_right _ List.mem_cons_self)
      have hb : ∀ b o, b ≠ h3.objs.size → s4.heap.get? b = some o → h'.get? b = some o := fun b o hn e => sb.extBut b o hn e
      have u0 : Un (frs X.stack) (D :: fp) H2 H' h3 s4.heap := J4.base
      have u : Un (frs X.stack) (D :: fp) H2 H' s2.heap h' := ((Un.kept k23).trans u0).but hb (by omega)
      have os4 : s4.os = s2.os := J4.os
      refine ⟨.ref D, upd H' D (.lst ys), I2.call' (s' := { s4 with heap := h' }) (ch := D :: fp) os4 (u.track (by omega) nD4) ((J4.hok.but hb J4.free).track nD4 ⟨hz, its, k, rv, hb D _ (neC D mD) eD4⟩) J4.bare (fun b hb => ?_), rfl, q D nD4⟩
      have z := f3 b hb
      exact ⟨z.2.2.2.1, z.2.1, z.2.2.2.2.1, z.2.2.2.2.2⟩
    · refine thn (T.item (compCx X scope xs h3.objs.size { s2 with heap := h3 } H2 (D :: fp) (X.pn ++ pins)) rfl rfl rfl hc i _ s' _ H' (fun _ _ => False) Ip (stat fr one) st go) fun r s4 ⟨u, hr, h4⟩ => ?_
      subst hr
      refine thn h4 fun _ s5 ⟨x, H5, I5, r5, y5, st5, fr5⟩ => ?_
      have I5' := I5.pinned (stat fr5 one) (T.obj _ _ st5)
      refine thn (hg _ _ _ _ _ _ s5 _ H5 x u _ I5' r5 (step x H5 y5)) fun _ s6 ⟨σ6, H6, I6, ⟨zs, hz6, hl6⟩, q6⟩ => ?_
      refine thn (he _ _ _ _ _ _ s6 σ6 H6 _ I6 q6) fun xv s7 ⟨v, H7, I7, r7, m', hm', w7⟩ => ?_
      obtain ⟨eD7, nD7, _⟩ := I7.pin (D, { cls := .type "list", data := .seq its.toArray k }) (List.mem_append_right _ (List.mem_append_left _ List.mem_cons_self))
      have len := rv.length
      refine call_meets F.slot_list_append ⟨_, eD7, rfl⟩ F.entry_list_append (F.args_list_append_2 _ _) (PySem.list_append D its.toArray k xv (by rw [List.size_toArray]; omega)) ⟨eD7, ?_⟩
      have q := PySem.IsL.update eD7 (fun a => a.push xv)
      have other : ∀ b o, b ≠ D → s7.heap.get? b = some o → (s7.heap.update D (Obj.mapSeq fun a => a.push xv)).get? b = some o := fun b o hb e => (Heap.get?_update_other s7.heap _ (Ne.symm hb)).trans e
      have pinF : ∀ b ∈ fp, ∀ o, s5.heap.get? b = some o → s7.heap.get? b = some o ∧ H7 b = none := fun b hb o e =>
        ⟨(I7.pin (b, o) (List.mem_append_right _ (List.mem_append_right _ (mem_pinsAt hb e)))).1, (I7.pin (b, o) (List.mem_append_right _ (List.mem_append_right _ (mem_pinsAt hb e)))).2.1⟩
      have I7' := I7.pins_of (pins' := []) fun p hp => by cases hp
      have I8 := I7'.turned (t' := s7.toks) (it := D) other nD7 (neC D mD) (.inl mD) (okX.exf D mD).2 (fun p hp => by
        rw [List.append_nil] at hp
        exact fD.2.2.2.2.2 p hp)
      have I9 := I8.weak (σ' := σ ++ List.replicate xs.length none) (by rw [hz6, List.length_append, List.length_append, List.length_replicate, hl6]) (fun j v' e => by
        have hj : j < σ.length := by
          by_cases hj : j < σ.length
          · exact hj
          · rw [List.getElem?_append_right (by omega), List.getElem?_replicate] at e
            split at e <;> cases e
        rw [List.getElem?_append_left hj] at e
        rw [hz6, List.getElem?_append_left hj]
        exact e)
      have e9 : its.toArray.push xv = (its ++ [xv]).toArray := by simp
      rw [e9] at q
      refine ⟨m', hm', i + 1, ys ++ [v], its ++ [xv], _, H7, I9, q, rv.append (.cons r7 .nil), nD7, T.keep _ _ _ st5 (fun b hb o e => other b o (Nat.ne_of_lt (lt2 b hb)) (pinF b hb o e).1), fun b hb => ?_, w7⟩
      obtain ⟨o, e, _⟩ := T.obj _ _ st5 b hb
      exact (pinF b hb o e).2
  exact codeAny_compStart_list loop (T.self _ 0 _ _ _ (T.keep _ _ _ st2 fun b _ o e => k31 b o (k23 b o e)) loop)
end L2
namespace L2
open PySem PySem.Spec PyProof.Rows
abbrev Cx.rn (X : Cx) (i : Nat) (y : Str) : Cx := { X with N := X.N.set i y }
section
variable {X : Cx} {pins : List (Addr × Obj)} {σ : St} {H : Hp} {s : Shared} {i : Nat} {y : Str}
theorem Inv.rn (I : Inv X pins σ H s) (h : σ[i]? = some none) : Inv (X.rn i y) pins σ H s :=
  ⟨⟨I.ok.mod, I.ok.kind, I.ok.glob, I.ok.blt, I.ok.above, I.ok.inj, I.ok.has, I.ok.cab, I.ok.hd, I.ok.frames, I.ok.stk, I.ok.exf, I.ok.bs, I.ok.bsz, I.ok.noex, I.ok.exfs, I.ok.funs, I.ok.frf⟩, I.os, I.bare, I.base,
    let ⟨m, hn, hl⟩ := I.loc; ⟨m, hn, fun j x v e1 e2 e3 => by
      by_cases z : i = j
      · subst z; rw [h] at e2; cases e2
      · exact hl j x v (by rw [← e1]; exact (List.getElem?_set_ne z).symm) e2 e3⟩, I.cell, I.free, I.freeC, I.pin, I.hok, by rw [I.len]; exact List.length_set.symm⟩
theorem Inv.unrn (ok : X.Ok) (I : Inv (X.rn i y) pins σ H s) (h : σ[i]? = some none) : Inv X pins σ H s :=
  ⟨ok, I.os, I.bare, I.base, let ⟨m, hn, hl⟩ := I.loc; ⟨m, hn, fun j x v e1 e2 e3 => by
      by_cases z : i = j
      · subst z; rw [h] at e2; cases e2
      · exact hl j x v (by rw [← e1]; exact List.getElem?_set_ne z) e2 e3⟩, I.cell, I.free, I.freeC, I.pin, I.hok, by rw [I.len]; exact List.length_set⟩
theorem pe_hide {e : Expr} {t : TE} (i : Nat) (y : Str) (h : PE (X.rn i y) e t) : PE X e (fun σ H Q => σ[i]? = some none ∧ t σ H Q) := by
  intro pins s σ H Q I ⟨hi, q⟩
  exact thn (h pins s σ H Q (I.rn hi) q) fun v s1 ⟨x, H1, I1, r, q1⟩ => ⟨x, H1, I1.unrn I.ok hi, r, q1⟩
end
end L2
namespace L2
open PySem PySem.Spec PyProof.Rows
end L2
namespace L2
open PySem PySem.Spec PyProof.Rows
end L2
namespace L2
open PySem PySem.Spec PyProof.Rows
section
variable {prog : Program} {w : World} {A : Around} {E : Value → Shared → Prop} {s : Shared}
theorem nextT_item {I t : Addr} {i : Nat} {vs : Array Value} {x : Value} {Q : Value → Shared → Prop} (hI : s.heap.IsTupleIter I t i) (ht : s.heap.IsTuple t vs) (e : vs[i]? = some x)
    (q : ∀ h', h'.IsTupleIter I t (i + 1) → Heap.SameBut I s.heap h' → Q x { s with heap := h' }) : wpAny (model prog w) A (Builtin.SmallTypes.nextOf (.ref I)) Q E s := by
  obtain ⟨o, eo, co, fo⟩ := id hI; obtain ⟨u, eu, _, n, fu⟩ := ht; unfold Builtin.SmallTypes.nextOf
  refine wpAny_bind (wpAny_callSpecial?_slot (name := Str.ofString "__next__") hI.typeIs F.slot_tuple_iterator_next (wpAny_call_entry F.slot_tuple_iterator_next hI.typeIs F.entry_tuple_iterator_next ?_ (F.args_tuple_iterator_next_1 _)))
  show wpAny _ _ (field (.ref I) 0 >>= _) _ _ s
  refine wpAny_bind (wpAny_field eo fo (x := .ref t) rfl ?_); show wpAny _ _ (if (Value.ref t == Value.none) = true then _ else _) _ _ s
  rw [if_neg (show ¬ ((Value.ref t == Value.none) = true) from Bool.false_ne_true)]; show wpAny _ _ (field (.ref I) 1 >>= _) _ _ s
  refine wpAny_bind (wpAny_field eo fo (x := .int i 0) rfl ?_); show wpAny _ _ (seqItems? (.ref t) >>= _) _ _ s
  refine wpAny_bind (wpAny_seqItems eu fu ?_); simp only [Int.toNat_natCast, e]
  refine wpAny_bind (wpAny_setField eo fo (by simp) (wpAny_pure ⟨x, rfl, wpAny_pure (q _ ?_ (Heap.SameBut.update ..))⟩))
  exact ⟨_, Heap.get?_update_self _ eo (Obj.isFreed_of_fields (Obj.data_mapFields fo _)), (Obj.cls_mapFields ..).trans co, by rw [Obj.data_mapFields fo]; simp [rawInt]⟩
theorem nextT_end {I t : Addr} {i : Nat} {vs : Array Value} {Q : Value → Shared → Prop} (hh : A.handled = none) (hI : s.heap.IsTupleIter I t i) (ht : s.heap.IsTuple t vs) (e : vs[i]? = none)
    (q : ∀ h' x, Heap.ExtBut I s.heap h' → (∃ o, h'.get? x = some o ∧ o.cls = .type "StopIteration") → E (.ref x) { s with heap := h' }) : wpAny (model prog w) A (Builtin.SmallTypes.nextOf (.ref I)) Q E s := by
  obtain ⟨o, eo, co, fo⟩ := id hI; obtain ⟨u, eu, _, n, fu⟩ := ht; unfold Builtin.SmallTypes.nextOf
  refine wpAny_bind (wpAny_callSpecial?_slot (name := Str.ofString "__next__") hI.typeIs F.slot_tuple_iterator_next (wpAny_call_entry F.slot_tuple_iterator_next hI.typeIs F.entry_tuple_iterator_next ?_ (F.args_tuple_iterator_next_1 _)))
  show wpAny _ _ (field (.ref I) 0 >>= _) _ _ s
  refine wpAny_bind (wpAny_field eo fo (x := .ref t) rfl ?_); show wpAny _ _ (if (Value.ref t == Value.none) = true then _ else _) _ _ s
  rw [if_neg (show ¬ ((Value.ref t == Value.none) = true) from Bool.false_ne_true)]; show wpAny _ _ (field (.ref I) 1 >>= _) _ _ s
  refine wpAny_bind (wpAny_field eo fo (x := .int i 0) rfl ?_); show wpAny _ _ (seqItems? (.ref t) >>= _) _ _ s
  refine wpAny_bind (wpAny_seqItems eu fu ?_); simp only [Int.toNat_natCast, e]
  refine wpAny_bind (wpAny_rule (wpAny_bind (wpAny_setField eo fo (by simp) ?_))); show wpAny _ _ (newExc (.type "StopIteration") [] >>= _) _ _ _
  refine wpAny_bind ?_; simp only [newExc, newTuple]
  refine wpAny_bind (wpAny_newObj_type ?_ (by size_fits)); refine wpAny_bind (m := firstArgMember _ _) (wpAny_of_eq (a := Value.none) (by first | rfl | (simp only [firstArgMember]; rfl)) ?_)
  refine wpAny_newObj_type ?_ (by size_fits); simp only [raiseNew]; refine wpAny_bind (wpAny_handled ?_)
  first | rw [show A.in1.handled = none from hh] | rw [hh]
  refine wpAny_bind (wpAny_pure (wpAny_throw ?_)); exact q _ _ (((Heap.SameBut.update ..).extBut.push _).push _) ⟨_, Heap.get?_push_size _ rfl, rfl⟩
end
inductive Sr
  | lst (a : Addr)
  | tup (a : Addr)
  | str (x : Str)
def Sr.it : Sr → Heap → Addr → Nat → Prop
  | .lst a, h, I, i => h.IsListIter I a i
  | .tup a, h, I, i => h.IsTupleIter I a i
  | .str x, h, I, i => ∃ t, h.IsStrIter I (strIterType x) x t i
def Sr.has : Sr → Heap → Array Value → Prop
  | .lst a, h, vs => h.IsList a vs
  | .tup a, h, vs => h.IsTuple a vs
  | .str x, _, vs => vs.size = x.cps.size
def Sr.is : Sr → Array Value → Nat → Value → Prop
  | .lst _, vs, i, v => vs[i]? = some v
  | .tup _, vs, i, v => vs[i]? = some v
  | .str x, _, i, v => ∃ c u, x.cps[i]? = some c ∧ v = .str ⟨#[c]⟩ u
def Sr.fp : Sr → Addr → List Addr
  | .lst a, I => [I, a]
  | .tup a, I => [I, a]
  | .str _, I => [I]
def Sr.off : Sr → Addr → Prop
  | .lst a, I => a ≠ I
  | .tup a, I => a ≠ I
  | .str _, _ => True
theorem Sr.fp_off {S : Sr} {I b : Addr} (h : S.off b) (hb : b ≠ I) : b ∉ S.fp I := by
  cases S <;> simp [Sr.fp, Sr.off] at h ⊢ <;> first | exact ⟨hb, Ne.symm h⟩ | exact hb
theorem Sr.it.mv {S : Sr} {h h' : Heap} {I : Addr} {i : Nat} (x : S.it h I i) (k : ∀ o, h.get? I = some o → h'.get? I = some o) : S.it h' I i := by
  cases S with
  | lst a => obtain ⟨o, e, r⟩ := x; exact ⟨o, k o e, r⟩
  | tup a => obtain ⟨o, e, r⟩ := x; exact ⟨o, k o e, r⟩
  | str z => obtain ⟨t, o, e, r⟩ := x; exact ⟨t, o, k o e, r⟩
theorem Sr.it.obj {S : Sr} {h : Heap} {I : Addr} {i : Nat} (x : S.it h I i) : ∃ o, h.get? I = some o ∧ ∀ v, o.data ≠ .cell v := by
  cases S with
  | lst a => obtain ⟨o, e, _, d⟩ := x; exact ⟨o, e, fun v z => by rw [d] at z; cases z⟩
  | tup a => obtain ⟨o, e, _, d⟩ := x; exact ⟨o, e, fun v z => by rw [d] at z; cases z⟩
  | str z => obtain ⟨t, o, e, _, d⟩ := x; exact ⟨o, e, fun v z => by rw [d] at z; cases z⟩
theorem Sr.has.mv {S : Sr} {h h' : Heap} {vs : Array Value} {I : Addr} (x : S.has h vs) (k : ∀ b o, b ≠ I → h.get? b = some o → h'.get? b = some o) (off : S.off I) : S.has h' vs := by
  cases S with
  | lst a => obtain ⟨o, e, r⟩ := x; exact ⟨o, k a o off e, r⟩
  | tup a => obtain ⟨o, e, r⟩ := x; exact ⟨o, k a o off e, r⟩
  | str z => exact x
theorem Sr.draws {prog : Program} {w : World} {A : Around} (S : Sr) (hh : A.handled = none) (I : Addr) (off : S.off I) (vs : Array Value) :
    Draws prog w A I (S.fp I) vs.size (S.is vs) (fun i h => S.it h I i ∧ S.has h vs) := by
  cases S with
  | lst a => exact Draws.list hh I a off vs
  | tup a => exact {
      live := fun _ _ st => let ⟨o, e, _⟩ := st.1; ⟨o, e⟩
      frame := fun _ _ _ st k => ⟨let ⟨o, e, r⟩ := st.1; ⟨o, k I (by simp [Sr.fp]) o e, r⟩, let ⟨o, e, r⟩ := st.2; ⟨o, k a (by simp [Sr.fp]) o e, r⟩⟩
      item := fun i s Q E hi st q => nextT_item st.1 st.2 (x := vs[i]) (by simp [hi]) fun h' a' b' => q _ h' s.toks (show vs[i]? = some vs[i] by simp [hi]) ⟨a', Heap.IsTuple.extBut st.2 b'.extBut off⟩ b'
      done := fun s Q E st q => nextT_end hh st.1 st.2 (by simp) q }
  | str x =>
    cases ha : x.cps.all (· < 128) with
    | true =>
      have e : strIterType x = "str_ascii_iterator" := by simp [strIterType, ha]
      exact {
        live := fun _ _ st => let ⟨_, o, e, _⟩ := st.1; ⟨o, e⟩
        frame := fun _ _ _ st k => ⟨let ⟨t, o, e, r⟩ := st.1; ⟨t, o, k I (by simp [Sr.fp]) o e, r⟩, st.2⟩
        item := fun i s Q E hi st q => by
          obtain ⟨⟨t, g⟩, z⟩ := st
          have hz : vs.size = x.cps.size := z
          rw [e] at g
          exact (Draws.strAscii (prog := prog) (w := w) hh I x t).item i s Q E (by omega) g fun v h' tk p st' sb => q v h' tk p ⟨⟨t, by rw [e]; exact st'⟩, z⟩ sb
        done := fun s Q E st q => by
          obtain ⟨⟨t, g⟩, z⟩ := st
          have hz : vs.size = x.cps.size := z
          rw [e, hz] at g
          exact (Draws.strAscii (prog := prog) (w := w) hh I x t).done s Q E g q }
    | false =>
      have e : strIterType x = "str_iterator" := by simp [strIterType, ha]
      exact {
        live := fun _ _ st => let ⟨_, o, e, _⟩ := st.1; ⟨o, e⟩
        frame := fun _ _ _ st k => ⟨let ⟨t, o, e, r⟩ := st.1; ⟨t, o, k I (by simp [Sr.fp]) o e, r⟩, st.2⟩
        item := fun i s Q E hi st q => by
          obtain ⟨⟨t, g⟩, z⟩ := st
          have hz : vs.size = x.cps.size := z
          rw [e] at g
          exact (Draws.strWide (prog := prog) (w := w) hh I x t).item i s Q E (by omega) g fun v h' tk p st' sb => q v h' tk p ⟨⟨t, by rw [e]; exact st'⟩, z⟩ sb
        done := fun s Q E st q => by
          obtain ⟨⟨t, g⟩, z⟩ := st
          have hz : vs.size = x.cps.size := z
          rw [e, hz] at g
          exact (Draws.strWide (prog := prog) (w := w) hh I x t).done s Q E g q }
end L2
namespace L2
open PySem PySem.Spec PyProof.Rows
structure ZA (S1 S2 : Sr) (z TI TO i1 i2 : Addr) : Prop where
  a : TI ≠ z
  b : TO ≠ z
  c : i1 ≠ z
  d : i2 ≠ z
  e : TI ≠ TO
  f : TI ≠ i1
  g : TI ≠ i2
  h : TO ≠ i1
  i : TO ≠ i2
  j : i1 ≠ i2
  k : ∀ x ∈ [z, TO, i1, i2], S1.off x ∧ S2.off x
structure ZS (S1 S2 : Sr) (v1 v2 : Array Value) (z TI TO i1 i2 : Addr) (n : Nat) (u : Value) (h : Heap) : Prop where
  z : IsZip h z TI TO u
  ti : IsPair h TI (.ref i1) (.ref i2)
  to : ∃ x y, IsPair h TO x y
  s1 : S1.it h i1 n
  s2 : S2.it h i2 n
  h1 : S1.has h v1
  h2 : S2.has h v2
section
variable {prog : Program} {w : World} {A : Around} {E : Value → Shared → Prop} {s : Shared} {S1 S2 : Sr} {v1 v2 : Array Value} {z TI TO i1 i2 : Addr} {n : Nat}
theorem zip_item (D : ZA S1 S2 z TI TO i1 i2) (hh : A.handled = none) (Z : ZS S1 S2 v1 v2 z TI TO i1 i2 n .none s.heap) (l1 : n < v1.size) (l2 : n < v2.size) {Q : Value → Shared → Prop}
    (q : ∀ x y h' tk, S1.is v1 n x → S2.is v2 n y → ZS S1 S2 v1 v2 z TI TO i1 i2 (n + 1) (rawInt s.heap.objs.size) h' → IsPair h' s.heap.objs.size x y → h'.objs.size = s.heap.objs.size + 1 →
      (∀ c o, c ≠ z → c ≠ TO → c ≠ i1 → c ≠ i2 → s.heap.get? c = some o → h'.get? c = some o) → Q (.ref s.heap.objs.size) { s with heap := h', toks := tk }) :
    wpAny (model prog w) A (Builtin.«zip.__next__» ⟨[.ref z], []⟩) (fun fin s' => ∃ v, fin = .done (.ret v) ∧ Q v s') E s := by
  obtain ⟨hp, g0, d0, tk0, os0⟩ := s
  obtain ⟨Zz, Zi, ⟨x0, y0, Zo⟩, Z1, Z2, Y1, Y2⟩ := Z
  have oz := D.k z (by simp); have oT := D.k TO (by simp); have o1 := D.k i1 (by simp); have o2 := D.k i2 (by simp)
  show wpAny _ _ (field (.ref z) 2 >>= _) _ _ _
  refine wpAny_bind (wpAny_field Zz rfl (x := .bool false) rfl ?_); show wpAny _ _ (field (.ref z) 3 >>= _) _ _ _
  refine wpAny_bind (wpAny_field Zz rfl (x := .ref TI) rfl ?_); refine wpAny_bind (wpAny_seqItems Zi rfl ?_)
  show wpAny _ _ (Builtin.SmallTypes.ownedTupleIsFree (.ref z) >>= _) _ _ _
  refine wpAny_bind ?_; unfold Builtin.SmallTypes.ownedTupleIsFree
  refine wpAny_bind (wpAny_field Zz rfl (x := .none) rfl (wpAny_pure ?_)); simp only [if_true]; refine wpAny_bind (wpAny_rule ?_)
  refine wpAny_bind (wpAny_field Zz rfl (x := .ref TO) rfl ?_)
  refine wpAny_bind (wpAny_setField_rec Zz (by simp) fun g1 Za b1 => ?_)
  replace Za : IsZip g1 z TI TO .ellipsis := Za
  replace b1 : Heap.SameBut z hp g1 := b1
  refine wpAny_bind ?_; simp only [List.zipIdx_cons, List.zipIdx_nil, List.forIn_cons, List.forIn_nil]
  -- the first one
  refine wpAny_bind (wpAny_bind (wpAny_onRaise ?_)); show wpAny _ _ (Builtin.SmallTypes.nextOf (.ref i1) >>= _) _ _ _
  refine wpAny_bind ((S1.draws hh i1 o1.1 v1).item n _ _ _ l1 ⟨Z1.mv fun o e => b1.extBut _ _ D.c e, Y1.mv (fun b o hb e => b1.extBut _ _ hb e) oz.1⟩ fun x g2 k2 px st2 b2 => wpAny_pure ?_)
  replace b2 : Heap.SameBut i1 g1 g2 := b2
  have To2 : IsPair g2 TO x0 y0 := b2.extBut _ _ D.h (b1.extBut _ _ D.b Zo)
  refine wpAny_bind (wpAny_seqItems To2 rfl ?_); refine wpAny_bind (wpAny_updateSeq_pair To2 fun g3 To3 b3 => ?_)
  replace To3 : IsPair g3 TO x y0 := To3
  replace b3 : Heap.SameBut TO g2 g3 := b3
  refine wpAny_bind (wpAny_letGo (wpAny_pure ?_))
  -- the second one
  refine wpAny_bind (wpAny_bind (wpAny_onRaise ?_)); show wpAny _ _ (Builtin.SmallTypes.nextOf (.ref i2) >>= _) _ _ _
  refine wpAny_bind ((S2.draws hh i2 o2.2 v2).item n _ _ _ l2 ⟨Z2.mv fun o e => b3.extBut _ _ D.i.symm (b2.extBut _ _ D.j.symm (b1.extBut _ _ D.d e)),
    ((Y2.mv (fun b o hb e => b1.extBut _ _ hb e) oz.2).mv (fun b o hb e => b2.extBut _ _ hb e) o1.2).mv (fun b o hb e => b3.extBut _ _ hb e) oT.2⟩ fun y g4 k4 py st4 b4 => wpAny_pure ?_)
  replace b4 : Heap.SameBut i2 g3 g4 := b4
  have To4 : IsPair g4 TO x y0 := b4.extBut _ _ D.i To3
  refine wpAny_bind (wpAny_seqItems To4 rfl ?_); refine wpAny_bind (wpAny_updateSeq_pair To4 fun g5 To5 b5 => ?_)
  replace To5 : IsPair g5 TO x y := To5
  replace b5 : Heap.SameBut TO g4 g5 := b5
  refine wpAny_bind (wpAny_letGo (wpAny_pure (wpAny_pure ?_)))
  refine wpAny_bind (wpAny_seqItems To5 rfl ?_); refine wpAny_bind (wpAny_newTuple ?_)
  have sz : g5.objs.size = hp.objs.size := by rw [b5.1, b4.1, b3.1, b2.1, b1.1]
  have Z5 : IsZip g5 z TI TO .ellipsis := b5.extBut _ _ D.b.symm (b4.extBut _ _ D.d.symm (b3.extBut _ _ D.b.symm (b2.extBut _ _ D.c.symm Za)))
  have up5 : ∀ c o, c ≠ z → c ≠ TO → c ≠ i1 → c ≠ i2 → hp.get? c = some o → g5.get? c = some o := fun c o n1 n2 n3 n4 e => b5.extBut _ _ n2 (b4.extBut _ _ n4 (b3.extBut _ _ n2 (b2.extBut _ _ n3 (b1.extBut _ _ n1 e))))
  have I1 : S1.it g5 i1 (n + 1) := st2.1.mv fun o e => b5.extBut _ _ D.h.symm (b4.extBut _ _ D.j (b3.extBut _ _ D.h.symm e))
  have I2 : S2.it g5 i2 (n + 1) := st4.1.mv fun o e => b5.extBut _ _ D.i.symm e
  have H1 : S1.has g5 v1 := ((st2.2.mv (fun b o hb e => b3.extBut _ _ hb e) oT.1).mv (fun b o hb e => b4.extBut _ _ hb e) o2.1).mv (fun b o hb e => b5.extBut _ _ hb e) oT.1
  have H2 : S2.has g5 v2 := st4.2.mv (fun b o hb e => b5.extBut _ _ hb e) oT.2
  have zlt : z < g5.objs.size := Heap.lt_size Z5
  show wpAny _ _ (Builtin.SmallTypes.ownedTupleHandOut (.ref z) (.ref g5.objs.size) >>= _) _ _ _
  refine wpAny_bind ?_; unfold Builtin.SmallTypes.ownedTupleHandOut
  have Z6 : IsZip (g5.push { cls := .type "tuple", data := .seq #[x, y] }) z TI TO .ellipsis := Heap.get?_push_of_some _ Z5
  refine wpAny_bind (wpAny_setField_rec Z6 (by simp) fun g7 Z7 b7 => ?_)
  replace Z7 : IsZip g7 z TI TO (rawInt g5.objs.size) := Z7
  refine wpAny_setField_rec Z7 (by simp) fun g8 Z8 b8 => ?_
  replace Z8 : IsZip g8 z TI TO (rawInt g5.objs.size) := Z8
  have up : ∀ c o, c ≠ z → g5.get? c = some o → g8.get? c = some o := fun c o n1 e => b8.extBut _ _ n1 (b7.extBut _ _ n1 (Heap.get?_push_of_some _ e))
  have T8 : IsPair g8 g5.objs.size x y := b8.extBut _ _ (Nat.ne_of_gt zlt) (b7.extBut _ _ (Nat.ne_of_gt zlt) (Heap.get?_push_size _ rfl))
  have sz8 : g8.objs.size = g5.objs.size + 1 := by rw [b8.1, b7.1, Heap.size_push]
  rw [sz] at Z8 T8 sz8
  refine wpAny_pure ⟨_, rfl, ?_⟩
  show Q (.ref g5.objs.size) _
  rw [sz]
  exact q x y g8 k4 px py ⟨Z8, up _ _ D.a (up5 _ _ D.a D.e D.f D.g Zi), ⟨_, _, up _ _ D.b To5⟩, I1.mv fun o e => up _ o D.c e, I2.mv fun o e => up _ o D.d e,
    H1.mv (fun b o hb e => up b o hb e) oz.1, H2.mv (fun b o hb e => up b o hb e) oz.2⟩ T8 sz8 fun c o n1 n2 n3 n4 e => up c o n1 (up5 c o n1 n2 n3 n4 e)
theorem zip_end (D : ZA S1 S2 z TI TO i1 i2) (hh : A.handled = none) (Z : ZS S1 S2 v1 v2 z TI TO i1 i2 n .none s.heap) (l : n = v1.size ∨ (n < v1.size ∧ n = v2.size)) {Q : Fin → Shared → Prop}
    (q : ∀ h' x tk, (∀ c o, c ≠ z → c ≠ TO → c ≠ i1 → c ≠ i2 → s.heap.get? c = some o → h'.get? c = some o) → (∃ o, h'.get? x = some o ∧ o.cls = .type "StopIteration") → E (.ref x) { s with heap := h', toks := tk }) :
    wpAny (model prog w) A (Builtin.«zip.__next__» ⟨[.ref z], []⟩) Q E s := by
  obtain ⟨hp, g0, d0, tk0, os0⟩ := s
  obtain ⟨Zz, Zi, ⟨x0, y0, Zo⟩, Z1, Z2, Y1, Y2⟩ := Z
  have oz := D.k z (by simp); have oT := D.k TO (by simp); have o1 := D.k i1 (by simp); have o2 := D.k i2 (by simp)
  show wpAny _ _ (field (.ref z) 2 >>= _) _ _ _
  refine wpAny_bind (wpAny_field Zz rfl (x := .bool false) rfl ?_); show wpAny _ _ (field (.ref z) 3 >>= _) _ _ _
  refine wpAny_bind (wpAny_field Zz rfl (x := .ref TI) rfl ?_); refine wpAny_bind (wpAny_seqItems Zi rfl ?_)
  show wpAny _ _ (Builtin.SmallTypes.ownedTupleIsFree (.ref z) >>= _) _ _ _
  refine wpAny_bind ?_; unfold Builtin.SmallTypes.ownedTupleIsFree
  refine wpAny_bind (wpAny_field Zz rfl (x := .none) rfl (wpAny_pure ?_)); simp only [if_true]; refine wpAny_bind (wpAny_rule ?_)
  refine wpAny_bind (wpAny_field Zz rfl (x := .ref TO) rfl ?_)
  refine wpAny_bind (wpAny_setField_rec Zz (by simp) fun g1 Za b1 => ?_)
  replace Za : IsZip g1 z TI TO .ellipsis := Za
  replace b1 : Heap.SameBut z hp g1 := b1
  refine wpAny_bind ?_; simp only [List.zipIdx_cons, List.zipIdx_nil, List.forIn_cons, List.forIn_nil]
  have W1 : S1.it g1 i1 n ∧ S1.has g1 v1 := ⟨Z1.mv fun o e => b1.extBut _ _ D.c e, Y1.mv (fun b o hb e => b1.extBut _ _ hb e) oz.1⟩
  refine wpAny_bind (wpAny_bind (wpAny_onRaise ?_)); show wpAny _ _ (Builtin.SmallTypes.nextOf (.ref i1) >>= _) _ _ _
  rcases l with l | ⟨l1, l2⟩
  · refine wpAny_bind ((S1.draws hh i1 o1.1 v1).done _ _ _ (l ▸ W1) fun g2 x b2 ⟨ox, ex, cx⟩ => ?_)
    have Zb : IsZip g2 z TI TO .ellipsis := b2 _ _ D.c.symm Za
    have xz : x ≠ z := fun e => by subst e; rw [Zb] at ex; cases ex; simp at cx
    refine wpAny_setField_rec Zb (by simp) fun g3 _ b3 => q g3 x tk0 (fun c o n1 _ n3 _ e => b3.extBut _ _ n1 (b2 _ _ n3 (b1.extBut _ _ n1 e))) ⟨ox, b3.extBut _ _ xz ex, cx⟩
  · refine wpAny_bind ((S1.draws hh i1 o1.1 v1).item n _ _ _ l1 W1 fun x g2 k2 px st2 b2 => wpAny_pure ?_)
    replace b2 : Heap.SameBut i1 g1 g2 := b2
    have To2 : IsPair g2 TO x0 y0 := b2.extBut _ _ D.h (b1.extBut _ _ D.b Zo)
    refine wpAny_bind (wpAny_seqItems To2 rfl ?_); refine wpAny_bind (wpAny_updateSeq_pair To2 fun g3 To3 b3 => ?_)
    replace b3 : Heap.SameBut TO g2 g3 := b3
    refine wpAny_bind (wpAny_letGo (wpAny_pure ?_)); refine wpAny_bind (wpAny_bind (wpAny_onRaise ?_)); show wpAny _ _ (Builtin.SmallTypes.nextOf (.ref i2) >>= _) _ _ _
    refine wpAny_bind ((S2.draws hh i2 o2.2 v2).done _ _ _ (l2 ▸ ⟨Z2.mv fun o e => b3.extBut _ _ D.i.symm (b2.extBut _ _ D.j.symm (b1.extBut _ _ D.d e)),
      ((Y2.mv (fun b o hb e => b1.extBut _ _ hb e) oz.2).mv (fun b o hb e => b2.extBut _ _ hb e) o1.2).mv (fun b o hb e => b3.extBut _ _ hb e) oT.2⟩) fun g4 x' b4 ⟨ox, ex, cx⟩ => ?_)
    have Zb : IsZip g4 z TI TO .ellipsis := b4 _ _ D.d.symm (b3.extBut _ _ D.b.symm (b2.extBut _ _ D.c.symm Za))
    have xz : x' ≠ z := fun e => by subst e; rw [Zb] at ex; cases ex; simp at cx
    refine wpAny_setField_rec Zb (by simp) fun g5 _ b5 => q g5 x' k2 (fun c o n1 n2 n3 n4 e => b5.extBut _ _ n1 (b4 _ _ n4 (b3.extBut _ _ n2 (b2.extBut _ _ n3 (b1.extBut _ _ n1 e))))) ⟨ox, b5.extBut _ _ xz ex, cx⟩
end
def Begins (h : Heap) (v : Value) (o : Obj) : Prop := ∀ (prog : Program) (w : World) (A : Around) (E : Value → Shared → Prop) (s : Shared) (Q : Value → Shared → Prop), (∀ b u, h.get? b = some u → s.heap.get? b = some u) →
  Q (.ref s.heap.objs.size) { s with heap := s.heap.push o } → wpAny (model prog w) A (pyIter v) Q E s
def Sr.val : Sr → Value → Prop
  | .lst a, v => v = .ref a
  | .tup a, v => v = .ref a
  | .str x, v => ∃ t, v = .str x t
theorem Sr.begins {S : Sr} {h : Heap} {v : Value} {vs : Array Value} (e : S.val v) (x : S.has h vs) : ∃ o : Obj, Begins h v o ∧ o.isFreed = false ∧ ∀ (h' : Heap) (I : Addr), h'.get? I = some o → S.it h' I 0 := by
  cases S with
  | lst a =>
    cases (show v = .ref a from e)
    exact ⟨_, fun _ _ _ _ s Q k q => wpAny_pyIter_list (let ⟨o, e, r⟩ := x; ⟨o, k a o e, r⟩) q, rfl, fun h' I e => ⟨_, e, rfl, rfl⟩⟩
  | tup a =>
    cases (show v = .ref a from e)
    exact ⟨_, fun _ _ _ _ s Q k q => wpAny_pyIter_tuple (let ⟨o, e, r⟩ := x; ⟨o, k a o e, r⟩) q, rfl, fun h' I e => ⟨_, e, rfl, rfl⟩⟩
  | str z =>
    obtain ⟨t, rfl⟩ := (show ∃ t, v = .str z t from e)
    exact ⟨_, fun _ _ _ _ s Q k q => wpAny_pyIter_strU q, rfl, fun h' I e => ⟨t, _, e, rfl, rfl⟩⟩
abbrev zh2 (h : Heap) (o1 o2 : Obj) : Heap := (h.push o1).push o2
abbrev zh3 (h : Heap) (o1 o2 : Obj) : Heap := (zh2 h o1 o2).push { cls := .type "tuple", data := .seq #[.ref h.objs.size, .ref (h.push o1).objs.size] }
abbrev zh4 (h : Heap) (o1 o2 : Obj) : Heap := (zh3 h o1 o2).push { cls := .type "tuple", data := .seq #[.none, .none] }
abbrev zh5 (h : Heap) (o1 o2 : Obj) : Heap := (zh4 h o1 o2).push { cls := .type "zip", data := .fields #[.none, .bool false, .bool false, .ref (zh2 h o1 o2).objs.size, .ref (zh3 h o1 o2).objs.size] }
theorem zip_new (a b : Value) (o1 o2 : Obj) : Meets (Builtin.«zip.__new__» ⟨[.type "zip", a, b], []⟩) (fun _ R s => Begins s.heap a o1 ∧ Begins s.heap b o2 ∧
      R (.ok (.ret (.ref (zh4 s.heap o1 o2).objs.size))) { s with heap := zh5 s.heap o1 o2 }) :=
  .of_wp fun prog w A R s h => by
    obtain ⟨hp, g, d, tk, os⟩ := s; obtain ⟨h1, h2, h⟩ := h
    have hsub := sub_zip
    have k1 : ∀ {A' : Around} {E' : Value → Shared → Prop} {Q : Value → Shared → Prop}, Q (.ref (Shared.heap ⟨hp, g, d, tk, os⟩).objs.size) ⟨hp.push o1, g, d, tk, os⟩ → wpAny (model prog w) A' (pyIter a) Q E' ⟨hp, g, d, tk, os⟩ := fun q => h1 _ _ _ _ _ _ (fun _ _ e => e) q
    have k2 : ∀ {A' : Around} {E' : Value → Shared → Prop} {Q : Value → Shared → Prop}, Q (.ref (Shared.heap ⟨hp.push o1, g, d, tk, os⟩).objs.size) ⟨(hp.push o1).push o2, g, d, tk, os⟩ → wpAny (model prog w) A' (pyIter b) Q E' ⟨hp.push o1, g, d, tk, os⟩ := fun q => h2 _ _ _ _ _ _ (fun _ _ e => Heap.get?_push_of_some _ e) q
    wp_walk using k1, k2
    exact ⟨_, rfl, h⟩
theorem call_zip {prog : Program} {w : World} {A : Around} {E : Value → Shared → Prop} {s : Shared} {S1 S2 : Sr} {v1 v2 : Array Value} {a b : Value} {Q : Value → Shared → Prop} (e1 : S1.val a) (e2 : S2.val b) (x1 : S1.has s.heap v1) (x2 : S2.has s.heap v2)
    (q : ∀ h', ZS S1 S2 v1 v2 (s.heap.objs.size + 4) (s.heap.objs.size + 2) (s.heap.objs.size + 3) s.heap.objs.size (s.heap.objs.size + 1) 0 .none h' → ZA S1 S2 (s.heap.objs.size + 4) (s.heap.objs.size + 2) (s.heap.objs.size + 3) s.heap.objs.size (s.heap.objs.size + 1) →
      (∀ c o, s.heap.get? c = some o → h'.get? c = some o) → Q (.ref (s.heap.objs.size + 4)) { s with heap := h' }) : wpAny (model prog w) A (call (.type "zip") [a, b]) Q E s := by
  obtain ⟨o1, B1, f1, I1⟩ := Sr.begins e1 x1
  obtain ⟨o2, B2, f2, I2⟩ := Sr.begins e2 x2
  refine callType_new F.called_zip (by decide) (F.typeCall_zip_2 _ _) (F.newCall_zip_2 _ _) (fun obj => F.args_object_init_3 obj _ _) F.entry_zip_new (zip_new a b o1 o2) ⟨B1, B2, ?_⟩
  have y1 : (s.heap.push o1).objs.size = s.heap.objs.size + 1 := Heap.size_push ..
  have y2 : (zh2 s.heap o1 o2).objs.size = s.heap.objs.size + 2 := by rw [Heap.size_push, y1]
  have y3 : (zh3 s.heap o1 o2).objs.size = s.heap.objs.size + 3 := by rw [Heap.size_push, y2]
  have y4 : (zh4 s.heap o1 o2).objs.size = s.heap.objs.size + 4 := by rw [Heap.size_push, y3]
  have g5 : (zh5 s.heap o1 o2).get? (zh4 s.heap o1 o2).objs.size = some _ := Heap.get?_push_size _ rfl
  have g4 : (zh5 s.heap o1 o2).get? (zh3 s.heap o1 o2).objs.size = some _ := Heap.get?_push_of_some _ (Heap.get?_push_size _ rfl)
  have g3 : (zh5 s.heap o1 o2).get? (zh2 s.heap o1 o2).objs.size = some _ := Heap.get?_push_of_some _ (Heap.get?_push_of_some _ (Heap.get?_push_size _ rfl))
  have g2 : (zh5 s.heap o1 o2).get? (s.heap.push o1).objs.size = some o2 := Heap.get?_push_of_some _ (Heap.get?_push_of_some _ (Heap.get?_push_of_some _ (Heap.get?_push_size _ f2)))
  have g1 : (zh5 s.heap o1 o2).get? s.heap.objs.size = some o1 := Heap.get?_push_of_some _ (Heap.get?_push_of_some _ (Heap.get?_push_of_some _ (Heap.get?_push_of_some _ (Heap.get?_push_size _ f1))))
  have up : ∀ c o, s.heap.get? c = some o → (zh5 s.heap o1 o2).get? c = some o := fun c o x => Heap.get?_push_of_some _ (Heap.get?_push_of_some _ (Heap.get?_push_of_some _ (Heap.get?_push_of_some _ (Heap.get?_push_of_some _ x))))
  have off : ∀ {S : Sr} {vs : Array Value} (k : Nat), S.has s.heap vs → S.off (s.heap.objs.size + k) := fun {S vs} k x => by
    cases S with
    | lst a => obtain ⟨o, e, _⟩ := x; exact Nat.ne_of_lt (Nat.lt_of_lt_of_le (Heap.lt_size e) (Nat.le_add_right _ k))
    | tup a => obtain ⟨o, e, _⟩ := x; exact Nat.ne_of_lt (Nat.lt_of_lt_of_le (Heap.lt_size e) (Nat.le_add_right _ k))
    | str z => exact trivial
  have keep : ∀ {S : Sr} {vs : Array Value}, S.has s.heap vs → S.has (zh5 s.heap o1 o2) vs := fun {S vs} x => by
    cases S with
    | lst a => obtain ⟨o, e, r⟩ := x; exact ⟨o, up _ _ e, r⟩
    | tup a => obtain ⟨o, e, r⟩ := x; exact ⟨o, up _ _ e, r⟩
    | str z => exact x
  show _ ∧ _
  rw [y2, y3, y4] at g5
  rw [y1, y2] at g3
  rw [y3] at g4
  rw [y1] at g2
  rw [y4]
  refine ⟨⟨_, g5, rfl⟩, q _ ⟨g5, g3, ⟨_, _, g4⟩, I1 _ _ g1, I2 _ _ g2, keep x1, keep x2⟩ ?_ up⟩
  have ne : ∀ i j : Nat, i ≠ j → s.heap.objs.size + i ≠ s.heap.objs.size + j := fun i j hn h => hn (Nat.add_left_cancel h)
  refine ⟨ne 2 4 (by decide), ne 3 4 (by decide), ne 0 4 (by decide), ne 1 4 (by decide), ne 2 3 (by decide), ne 2 0 (by decide), ne 2 1 (by decide), ne 3 0 (by decide), ne 3 1 (by decide), ne 0 1 (by decide), fun x hx => ?_⟩
  simp only [List.mem_cons, List.not_mem_nil, or_false] at hx
  rcases hx with rfl | rfl | rfl | rfl
  · exact ⟨off 4 x1, off 4 x2⟩
  · exact ⟨off 3 x1, off 3 x2⟩
  · exact ⟨off 0 x1, off 0 x2⟩
  · exact ⟨off 1 x1, off 1 x2⟩
end L2
namespace L2
open PySem PySem.Spec PyProof.Rows
abbrev tIt (l : Addr) : Obj := { cls := .type "tuple_iterator", data := .fields #[.ref l, .int 0 0] }
abbrev enO (i : Addr) : Obj := { cls := .type "enumerate", data := .fields #[.none, .bool false, .ref i, rawInt 0, .none, .none] }
theorem enum_newT (l : Addr) (vs : Array Value) (n : Nat) (dct : Option Addr) (sl : Array (Option Value)) :
    Meets (Builtin.«enumerate.__new__» ⟨[.type "enumerate", .ref l], []⟩) (fun _ R s => s.heap.get? l = some { cls := .type "tuple", dict := dct, data := .seq vs n, slots := sl } ∧
      R (.ok (.ret (.ref (s.heap.push (tIt l)).objs.size))) { s with heap := (s.heap.push (tIt l)).push (enO s.heap.objs.size) }) :=
  .of_wp fun prog w A R s h => by
    obtain ⟨hp, g, d, tk, os⟩ := s; obtain ⟨hl, h⟩ := h; have hsub := sub_enumerate
    have hL : Heap.IsTuple (Shared.heap ⟨hp, g, d, tk, os⟩) l vs := ⟨_, hl, rfl, n, rfl⟩
    wp_walk using AutoSeq1.wpAny_loadPart' hl
    refine wpAny_stack_any fun st => wpAny_pure ?_; split
    · rename_i c _ _ _ _ _; cases (c == Value.type "enumerate")
      · wp_walk using AutoSeq1.wpAny_loadPart' hl, wpAny_pyIter_tuple hL; exact ⟨_, rfl, h⟩
      · wp_walk using AutoSeq1.wpAny_loadPart' hl, wpAny_pyIter_tuple hL; exact ⟨_, rfl, h⟩
    · wp_walk using AutoSeq1.wpAny_loadPart' hl, wpAny_pyIter_tuple hL; exact ⟨_, rfl, h⟩
theorem call_enumT {prog : Program} {w : World} {A : Around} {E : Value → Shared → Prop} {s : Shared} {l : Addr} {vs : Array Value} {Q : Value → Shared → Prop} (hL : s.heap.IsTuple l vs)
    (h : ∀ h', IsEnum h' (s.heap.objs.size + 1) s.heap.objs.size 0 .none → h'.IsTupleIter s.heap.objs.size l 0 → (∀ b o, s.heap.get? b = some o → h'.get? b = some o) → Q (.ref (s.heap.objs.size + 1)) { s with heap := h' }) :
    wpAny (model prog w) A (call (.type "enumerate") [.ref l]) Q E s := by
  obtain ⟨⟨c, dct, dt, sl⟩, hl, hc, n, hd⟩ := hL
  replace hc : c = .type "tuple" := hc; replace hd : dt = .seq vs n := hd; subst hc hd
  refine callType_new F.called_enumerate (by decide) (F.typeCall_enumerate_1 _) (F.newCall_enumerate_1 _) (fun obj => F.args_object_init_2 obj _) F.entry_enumerate_new (enum_newT l vs n dct sl) ⟨hl, ?_⟩
  have hz : (s.heap.push (tIt l)).objs.size = s.heap.objs.size + 1 := Heap.size_push ..
  show _ ∧ _
  rw [hz]
  have he : IsEnum ((s.heap.push (tIt l)).push (enO s.heap.objs.size)) (s.heap.objs.size + 1) s.heap.objs.size 0 .none := by
    have := Heap.get?_push_size (s.heap.push (tIt l)) (o := enO s.heap.objs.size) rfl
    rw [hz] at this; exact this
  exact ⟨⟨_, he, rfl⟩, h _ he ⟨_, Heap.get?_push_of_some _ (Heap.get?_push_size _ rfl), rfl, rfl⟩ fun b o x => Heap.get?_push_of_some _ (Heap.get?_push_of_some _ x)⟩
theorem call_enum {prog : Program} {w : World} {A : Around} {E : Value → Shared → Prop} {s : Shared} {S : Sr} {vs : Array Value} {v : Value} {Q : Value → Shared → Prop} (e : S.val v) (x : S.has s.heap vs)
    (h : ∀ h', IsEnum h' (s.heap.objs.size + 1) s.heap.objs.size 0 .none → S.it h' s.heap.objs.size 0 → (∀ b o, s.heap.get? b = some o → h'.get? b = some o) → Q (.ref (s.heap.objs.size + 1)) { s with heap := h' }) :
    wpAny (model prog w) A (call (.type "enumerate") [v]) Q E s := by
  cases S with
  | lst a => cases (show v = .ref a from e); exact call_enumerate_list x fun h' a b _ c => h h' a b c
  | tup a => cases (show v = .ref a from e); exact call_enumT x h
  | str z => obtain ⟨t, rfl⟩ := (show ∃ t, v = .str z t from e); exact call_enumerate_str fun h' a b _ c => h h' a ⟨t, b⟩ c
end L2
namespace L2
open PySem PySem.Spec PyProof.Rows
section
variable {X : Cx} {pins : List (Addr × Obj)} {σ : St} {H : Hp} {s : Shared} {h' : Heap}
theorem Inv.turneds {t' : Nat} {ch : List Addr} (I : Inv X pins σ H s) (k : ∀ b o, b ∉ ch → s.heap.get? b = some o → h'.get? b = some o) (hf : ∀ b ∈ ch, FpOk X pins H b) : Inv X pins σ H { s with heap := h', toks := t' } := by
  have nit : ∀ b u, H b = some u → b ∉ ch := fun b u e z => by rw [(hf b z).1] at e; cases e
  refine I.step (g' := s.gens) (d' := s.drawn) (ch := ch) (fun b hb => ?_) (fun b o _ _ hc e _ => k b o hc e) (fun b o _ _ hc e _ => ⟨o.slots, k b o hc e⟩) (fun _ _ _ _ n => n) (fun b o hc e => ⟨o, k b o hc e⟩) (fun _ _ e => e) (fun _ _ _ e => e)
    (fun b ps e => ⟨#[], by rw [e]; simp⟩) (fun m hm => ?_) (fun b u e => ?_) I.bare
  · obtain ⟨f0, f1, f2, f3, f4, f5⟩ := hf b hb
    exact ⟨f3, f1, f4, f5⟩
  · obtain ⟨o, es, ep, ho, r⟩ := hm
    exact ⟨o, es, ep, k _ o (fun z => (hf _ z).2.1 rfl) ho, r⟩
  · refine (I.hok b u e).stay (fun c v hc q => k c v ?_ q) (fun _ q => q) fun _ _ q => q
    rcases hc with z | z
    · rw [z]; exact nit b u e
    · exact nit c _ z
theorem Inv.track {a : Addr} {o : HO} (I : Inv X pins σ H s) (hs : X.s₀.heap.objs.size ≤ a) (f : FpOk X pins H a) (new : ObjOk X.prog X.w (upd H a o) s.heap a o) : Inv X pins σ (upd H a o) s :=
  ⟨I.ok, I.os, I.bare, I.base.track hs f.1, I.loc, I.cell, by rw [upd_ne (Ne.symm f.2.1)]; exact I.free, fun x c e => by rw [upd_ne (f.2.2.2.2.1 x c e)]; exact I.freeC x c e, fun p hp => by
    obtain ⟨e, n, r⟩ := I.pin p hp
    exact ⟨e, by rw [upd_ne (f.2.2.2.2.2 p hp)]; exact n, r⟩, I.hok.track f.1 new, I.len⟩
end
def signs (x : Str) : List V := x.cps.toList.map fun c => V.str ⟨#[c]⟩
def Sr.vals (K : PySem.W.Frag) (H : Hp) : Sr → List V → Prop
  | .lst a, xs => SqL K H a xs
  | .tup a, xs => SqT K H a xs
  | .str x, xs => xs = signs x
def Sr.ofV : Sr → V → Prop
  | .lst a, v => v = .ref a
  | .tup a, v => v = .ref a
  | .str x, v => v = .str x
section
variable {X : Cx} {pins : List (Addr × Obj)} {σ : St} {H : Hp} {s : Shared} {S : Sr} {xs ys : List V}
theorem Sr.vals.get (I : Inv X pins σ H s) (h : S.vals X.K H xs) : ∃ vs, S.has s.heap vs ∧ vs.size = xs.length ∧ ∀ i x v, xs[i]? = some x → S.is vs i v → RelV x v := by
  cases S with
  | lst a =>
    obtain ⟨its, rv, p, hz⟩ := I.list h
    refine ⟨its.toArray, p.isList, by have := rv.length; simp; omega, fun i x v e1 e2 => ?_⟩
    obtain ⟨u, hu, ru⟩ := rv.get e1
    have e2 : its.toArray[i]? = some v := e2
    rw [List.getElem?_toArray, hu] at e2
    cases e2
    exact ru
  | tup a =>
    obtain ⟨its, rv, p, hz⟩ := I.tuple h
    refine ⟨its.toArray, (show s.heap.IsTuple a its.toArray from p), by have := rv.length; simp; omega, fun i x v e1 e2 => ?_⟩
    obtain ⟨u, hu, ru⟩ := rv.get e1
    have e2 : its.toArray[i]? = some v := e2
    rw [List.getElem?_toArray, hu] at e2
    cases e2
    exact ru
  | str z =>
    cases (show xs = signs z from h)
    refine ⟨Array.replicate z.cps.size .none, by show (Array.replicate _ _).size = _; simp, by simp [signs], fun i x v e1 e2 => ?_⟩
    obtain ⟨c, u, ec, rfl⟩ := (show ∃ c u, z.cps[i]? = some c ∧ v = .str ⟨#[c]⟩ u from e2)
    have : (signs z)[i]? = some (V.str ⟨#[c]⟩) := by simp [signs, ec]
    rw [this] at e1
    cases e1
    exact ⟨u, rfl⟩
theorem Sr.vals.inj (I : Inv X pins σ H s) (h : S.vals X.K H xs) (h' : S.vals X.K H ys) : xs = ys := by
  cases S with
  | lst a => exact I.list_inj h h'
  | tup a => exact I.tuple_inj h h'
  | str z => exact (show xs = signs z from h).trans (show ys = signs z from h').symm
theorem Sr.ofV.val {x : V} {u : Value} (e : S.ofV x) (r : RelV x u) : S.val u := by
  cases S with
  | lst a => cases (show x = .ref a from e); exact r
  | tup a => cases (show x = .ref a from e); exact r
  | str z => cases (show x = .str z from e); exact r
end
theorem Sr.vals.same {K : PySem.W.Frag} {H H' : Hp} {S : Sr} {xs : List V} (h : S.vals K H xs) (hl : ∀ a, SqL K H a xs → SqL K H' a xs) (ht : ∀ a, SqT K H a xs → SqT K H' a xs) : S.vals K H' xs := by
  cases S with
  | lst a => exact hl a h
  | tup a => exact ht a h
  | str z => exact h
def Itz (K : PySem.W.Frag) (S1 S2 : Sr) : It :=
  ⟨fun i H => ∃ xs ys x y, S1.vals K H xs ∧ S2.vals K H ys ∧ xs[i]? = some x ∧ ys[i]? = some y,
   fun i H v H' => ∃ p x y, v = .ref p ∧ H p = none ∧ H' = upd H p (.tup [x, y]) ∧ (∀ xs, S1.vals K H xs → xs[i]? = some x) ∧ ∀ ys, S2.vals K H ys → ys[i]? = some y,
   fun i H => ∃ xs ys, S1.vals K H xs ∧ S2.vals K H ys ∧ (i = xs.length ∨ (i < xs.length ∧ i = ys.length))⟩
theorem turn_zip {P : Program} {w : World} {K : PySem.W.Frag} {es : List Expr} {kk : Nat} {tp : Pos} {S1 S2 : Sr} {z TI TO i1 i2 : Addr} (D : ZA S1 S2 z TI TO i1 i2) :
    Turn P w K (.Tuple es kk tp) (Itz K S1 S2) [z, TI, TO, i1, i2] z (fun i h => IsZip h z TI TO .none ∧ IsPair h TI (.ref i1) (.ref i2) ∧ (∃ a b, IsPair h TO a b) ∧ S1.it h i1 i ∧ S2.it h i2 i) where
  mem := by simp
  obj := fun i h st b hb => by
    obtain ⟨hz, hi, ⟨a, a', ho⟩, h1, h2⟩ := st
    simp only [List.mem_cons, List.not_mem_nil, or_false] at hb
    rcases hb with rfl | rfl | rfl | rfl | rfl
    · exact ⟨_, hz, fun v z => by simp at z⟩
    · exact ⟨_, hi, fun v z => by simp at z⟩
    · exact ⟨_, ho, fun v z => by simp at z⟩
    · exact h1.obj
    · exact h2.obj
  keep := fun i h h' st k => by
    obtain ⟨hz, hi, ⟨a, a', ho⟩, h1, h2⟩ := st
    exact ⟨k z (by simp) _ hz, k TI (by simp) _ hi, ⟨a, a', k TO (by simp) _ ho⟩, h1.mv fun o e => k i1 (by simp) o e, h2.mv fun o e => k i2 (by simp) o e⟩
  item := by
    intro X hP hw hK hc i pins s σ H E I hf st hg
    subst hP hw hK
    obtain ⟨xs, ys, x, y, hx, hy, ex, ey⟩ := hg
    obtain ⟨v1, a1, z1, r1⟩ := Sr.vals.get I hx
    obtain ⟨v2, a2, z2, r2⟩ := Sr.vals.get I hy
    obtain ⟨hz, hi, ho, h1, h2⟩ := st
    have l1 := (List.getElem?_eq_some_iff.mp ex).1
    have l2 := (List.getElem?_eq_some_iff.mp ey).1
    have hT : s.TypeIs (.ref z) "zip" := ⟨_, hz, rfl⟩
    have lt : ∀ b ∈ [z, TI, TO, i1, i2], b ≠ s.heap.objs.size := fun b hb => by
      obtain ⟨a, a', ho⟩ := ho
      simp only [List.mem_cons, List.not_mem_nil, or_false] at hb
      rcases hb with rfl | rfl | rfl | rfl | rfl
      · exact Nat.ne_of_lt (Heap.lt_size hz)
      · exact Nat.ne_of_lt (Heap.lt_size hi)
      · exact Nat.ne_of_lt (Heap.lt_size ho)
      · obtain ⟨_, e, _⟩ := h1.obj; exact Nat.ne_of_lt (Heap.lt_size e)
      · obtain ⟨_, e, _⟩ := h2.obj; exact Nat.ne_of_lt (Heap.lt_size e)
    unfold pyNext
    refine wpAny_bind (wpAny_attempt (wpAny_callSpecial?_slot (name := Str.ofString "__next__") hT F.slot_zip_next (wpAny_call_entry F.slot_zip_next hT F.entry_zip_next
      (zip_item (A := X.A.in1) D (show X.A.in1.handled = none from I.ok.hd hc) ⟨hz, hi, ho, h1, h2, a1, a2⟩ (by omega) (by omega) fun xv yv h' tk px py Z hp hs up => wpAny_pure ?_) (F.args_zip_next_1 _))))
    refine ⟨_, rfl, wpAny_letOwnedTupleGo_zip Z.z fun h'' hz'' sb => ?_⟩
    have sb : Heap.SameBut z h' h'' := sb
    have kk : ∀ b o, b ∉ [z, TI, TO, i1, i2] → s.heap.get? b = some o → h''.get? b = some o := fun b o hb e => by
      simp only [List.mem_cons, List.not_mem_nil, or_false, not_or] at hb
      exact sb.extBut _ _ hb.1 (up b o hb.1 hb.2.2.1 hb.2.2.2.1 hb.2.2.2.2 e)
    have I1 : Inv X pins σ H { s with heap := h'', toks := tk } := I.turneds (t' := tk) kk hf
    have fT : FpOk X pins H s.heap.objs.size := I.fpOk (Nat.le_refl _) (I.hok.fresh (Nat.le_refl _))
    have zT : s.heap.objs.size ≠ z := Ne.symm (lt z (by simp))
    have oT : IsPair h'' s.heap.objs.size xv yv := sb.extBut _ _ zT hp
    have I2 : Inv X pins σ (upd H s.heap.objs.size (.tup [x, y])) { s with heap := h'', toks := tk } := I1.track (Nat.le_trans I.sz (Nat.le_refl _)) fT
      ⟨by show 2 ≤ sizeLine; decide, [xv, yv], .cons (r1 i x xv ex px) (.cons (r2 i y yv ey py) .nil), ⟨_, oT, rfl, _, rfl⟩, fun _ => ⟨_, oT, rfl⟩⟩
    refine ⟨.ref s.heap.objs.size, _, I2, rfl, ⟨_, x, y, rfl, fT.1, rfl, fun xs' h => by rw [Sr.vals.inj I h hx]; exact ex, fun ys' h => by rw [Sr.vals.inj I h hy]; exact ey⟩, ⟨hz'', sb.extBut _ _ D.a Z.ti, ?_, Z.s1.mv fun o e => sb.extBut _ _ D.c e, Z.s2.mv fun o e => sb.extBut _ _ D.d e⟩, fun b hb => ?_⟩
    · obtain ⟨a, a', ho⟩ := Z.to
      exact ⟨a, a', sb.extBut _ _ D.b ho⟩
    · rw [upd_ne (lt b hb)]
      exact (hf b hb).1
  done := by
    intro X hP hw hK hc i pins s σ H E I hf st hg
    subst hP hw hK
    obtain ⟨xs, ys, hx, hy, l⟩ := hg
    obtain ⟨v1, a1, z1, r1⟩ := Sr.vals.get I hx
    obtain ⟨v2, a2, z2, r2⟩ := Sr.vals.get I hy
    obtain ⟨hz, hi, ho, h1, h2⟩ := st
    have hT : s.TypeIs (.ref z) "zip" := ⟨_, hz, rfl⟩
    unfold pyNext
    refine wpAny_bind (wpAny_attempt (wpAny_callSpecial?_slot (name := Str.ofString "__next__") hT F.slot_zip_next (wpAny_call_entry F.slot_zip_next hT F.entry_zip_next
      (zip_end (A := X.A.in1) D (show X.A.in1.handled = none from I.ok.hd hc) ⟨hz, hi, ho, h1, h2, a1, a2⟩ (by omega) fun h' e tk up ⟨o, eo, co⟩ => ?_) (F.args_zip_next_1 _))))
    refine wpAny_bind (wpAny_isInstance (T := "StopIteration") (b := true) ⟨o, eo, co⟩ isSubtype_stop ?_)
    refine wpAny_pure ⟨rfl, I.turneds (ch := [z, TI, TO, i1, i2]) (t' := tk) (fun b o hb e => ?_) hf⟩
    simp only [List.mem_cons, List.not_mem_nil, or_false, not_or] at hb
    exact up b o hb.1 hb.2.2.1 hb.2.2.2.1 hb.2.2.2.2 e
  self := fun _ _ _ _ _ st h => wpAny_pyIter_zip st.1 h
def iZip (K : PySem.W.Frag) (ta : TA) : TI := fun σ H R => ta σ H fun vs H1 => ∃ S1 S2 x y xs ys, vs = [x, y] ∧ Sr.ofV S1 x ∧ Sr.ofV S2 y ∧ S1.vals K H1 xs ∧ S2.vals K H1 ys ∧ R (Itz K S1 S2) H1
theorem pi_zip {X : Cx} {a b : Expr} {ta : TA} {p pos tp : Pos} {es : List Expr} {kk : Nat} (hg : Gl X "zip") (hm : X.mg "zip" = none) (ha : PA X [a, b] ta) (hs : starEach [a, b] X.env = [(false, eval a X.env), (false, eval b X.env)] := by rfl)
    (hs2 : starEach [b] X.env = [(false, eval b X.env)] := by rfl) : PI X (.Tuple es kk tp) (.Call (.Name "zip" p) [a, b] [] pos) (iZip X.K ta) := by
  intro pins s σ H R I h
  refine Call_ (ld_blt I hg hm boot_zip (PyProof.Rows.callWith_type1 (thn (ha pos pins s σ H _ I h) fun us s1 ⟨vs, H1, I1, r1, q1⟩ => ?_) (by rw [hs, hs2]) (by rw [hs2]; rfl)))
  obtain ⟨S1, S2, x, y, xs, ys, e, e1, e2, hx, hy, q⟩ := q1
  subst e
  cases r1 with
  | cons r rr =>
    cases rr with
    | cons r' rr =>
      cases rr
      obtain ⟨v1, a1, z1, _⟩ := Sr.vals.get I1 hx
      obtain ⟨v2, a2, z2, _⟩ := Sr.vals.get I1 hy
      refine call_zip (e1.val r) (e2.val r') a1 a2 fun h' Z D up => wpAny_pyIter_zip Z.z ⟨_, _, _, _, H1, rfl, I1.kept (t' := s1.toks) up, turn_zip D, ⟨Z.z, Z.ti, Z.to, Z.s1, Z.s2⟩, fun b hb => ?_, q⟩
      simp only [List.mem_cons, List.not_mem_nil, or_false] at hb
      have le : s1.heap.objs.size ≤ b := by rcases hb with rfl | rfl | rfl | rfl | rfl <;> omega
      exact I1.fpOk le (I1.hok.fresh le)
def Ite (K : PySem.W.Frag) (S : Sr) : It :=
  ⟨fun i H => ∃ xs x, S.vals K H xs ∧ xs[i]? = some x, fun i H v H' => ∃ p x, v = .ref p ∧ H p = none ∧ H' = upd H p (.tup [.int i, x]) ∧ ∀ xs, S.vals K H xs → xs[i]? = some x, fun i H => ∃ xs, S.vals K H xs ∧ i = xs.length⟩
theorem Sr.fp_it (S : Sr) (I : Addr) : I ∈ S.fp I := by cases S <;> simp [Sr.fp]
theorem turn_enum {P : Program} {w : World} {K : PySem.W.Frag} {es : List Expr} {kk : Nat} {tp : Pos} {S : Sr} {e it : Addr} (D : e ≠ it) (o1 : S.off e) (o2 : S.off it) :
    Turn P w K (.Tuple es kk tp) (Ite K S) [e, it] e (fun i h => (∃ old, IsEnum h e it i old) ∧ S.it h it i) where
  mem := by simp
  obj := fun i h st b hb => by
    obtain ⟨⟨old, he⟩, h1⟩ := st
    simp only [List.mem_cons, List.not_mem_nil, or_false] at hb
    rcases hb with rfl | rfl
    · exact ⟨_, he, fun v z => by simp at z⟩
    · exact h1.obj
  keep := fun i h h' st k => by
    obtain ⟨⟨old, he⟩, h1⟩ := st
    exact ⟨⟨old, k e (by simp) _ he⟩, h1.mv fun o q => k it (by simp) o q⟩
  item := by
    intro X hP hw hK hc i pins s σ H E I hf st hg
    subst hP hw hK
    obtain ⟨xs, x, hx, ex⟩ := hg
    obtain ⟨vs, a1, z1, r1⟩ := Sr.vals.get I hx
    obtain ⟨⟨old, he⟩, h1⟩ := st
    have l1 := (List.getElem?_eq_some_iff.mp ex).1
    have lt : ∀ b ∈ [e, it], b < s.heap.objs.size := fun b hb => by
      simp only [List.mem_cons, List.not_mem_nil, or_false] at hb
      rcases hb with rfl | rfl
      · exact Heap.lt_size he
      · obtain ⟨_, q, _⟩ := h1.obj; exact Heap.lt_size q
    have hh : X.A.in1.handled = none := I.ok.hd hc
    have W := WalksT.enumerateD (prog := X.prog) (w := X.w) (A := X.A) (S.draws hh it o2 vs) e D (Sr.fp_off o1 D) (S.fp_it it)
    refine W.item i s _ E (by omega) ⟨⟨old, he⟩, h1, a1⟩ fun T vals h' tk hP hT ht hM hk => ⟨_, rfl, W.go es kk tp i T _ _ E hM fun h'' st'' hk'' => ?_⟩
    obtain ⟨t, xv, px, rfl⟩ := hP
    have kk : ∀ b o, b ∉ [e, it] → s.heap.get? b = some o → h''.get? b = some o := fun b o hb q => hk'' b o hb (hk b o hb q)
    have I1 : Inv X pins σ H { s with heap := h'', toks := tk } := I.turneds (t' := tk) kk hf
    have fT : FpOk X pins H T := I.fpOk hT (I.hok.fresh hT)
    have nT : T ∉ [e, it] := W.apart i T _ hM
    have oT : h''.IsTuple T #[.int i t, xv] := let ⟨o, q, r⟩ := ht; ⟨o, hk'' T o nT q, r⟩
    have I2 : Inv X pins σ (upd H T (.tup [.int i, x])) { s with heap := h'', toks := tk } := I1.track (Nat.le_trans I.sz hT) fT
      ⟨by show 2 ≤ sizeLine; decide, [.int i t, xv], .cons ⟨t, rfl⟩ (.cons (r1 i x xv ex px) .nil), oT, fun z => absurd rfl (z i x)⟩
    refine ⟨.ref T, _, I2, rfl, ⟨_, x, rfl, fT.1, rfl, fun xs' h => by rw [Sr.vals.inj I h hx]; exact ex⟩, ⟨st''.1, st''.2.1⟩, fun b hb => ?_⟩
    rw [upd_ne (Nat.ne_of_lt (Nat.lt_of_lt_of_le (lt b hb) hT))]
    exact (hf b hb).1
  done := by
    intro X hP hw hK hc i pins s σ H E I hf st hg
    subst hP hw hK
    obtain ⟨xs, hx, l⟩ := hg
    obtain ⟨vs, a1, z1, r1⟩ := Sr.vals.get I hx
    obtain ⟨⟨old, he⟩, h1⟩ := st
    have hh : X.A.in1.handled = none := I.ok.hd hc
    have W := WalksT.enumerateD (prog := X.prog) (w := X.w) (A := X.A) (S.draws hh it o2 vs) e D (Sr.fp_off o1 D) (S.fp_it it)
    have ei : i = vs.size := by omega
    subst ei
    exact W.done s _ E ⟨⟨old, he⟩, h1, a1⟩ fun h' tk hk => ⟨rfl, I.turneds (t' := tk) hk hf⟩
  self := fun _ _ _ _ _ st h => by
    obtain ⟨⟨old, he⟩, _⟩ := st
    exact wpAny_pyIter_enum he h
def iEnum (K : PySem.W.Frag) (ta : TA) : TI := fun σ H R => ta σ H fun vs H1 => ∃ S x xs, vs = [x] ∧ Sr.ofV S x ∧ S.vals K H1 xs ∧ R (Ite K S) H1
theorem pi_enum {X : Cx} {a : Expr} {ta : TA} {p pos tp : Pos} {es : List Expr} {kk : Nat} (hg : Gl X "enumerate") (hm : X.mg "enumerate" = none) (ha : PA X [a] ta) (hs : starEach [a] X.env = [(false, eval a X.env)] := by rfl) :
    PI X (.Tuple es kk tp) (.Call (.Name "enumerate" p) [a] [] pos) (iEnum X.K ta) := by
  intro pins s σ H R I h
  refine Call_ (ld_blt I hg hm boot_enumerate (PyProof.Rows.callWith_type1 (thn (ha pos pins s σ H _ I h) fun us s1 ⟨vs, H1, I1, r1, q1⟩ => ?_) hs rfl))
  obtain ⟨S, x, xs, e, e1, hx, q⟩ := q1
  subst e
  cases r1 with
  | cons r rr =>
    cases rr
    obtain ⟨v1, a1, z1, _⟩ := Sr.vals.get I1 hx
    have off : ∀ k : Nat, S.off (s1.heap.objs.size + k) := fun k => by
      cases S with
      | lst a => obtain ⟨o, q, _⟩ := a1; exact Nat.ne_of_lt (Nat.lt_of_lt_of_le (Heap.lt_size q) (Nat.le_add_right _ k))
      | tup a => obtain ⟨o, q, _⟩ := a1; exact Nat.ne_of_lt (Nat.lt_of_lt_of_le (Heap.lt_size q) (Nat.le_add_right _ k))
      | str z => exact trivial
    refine call_enum (e1.val r) a1 fun h' he hi up => wpAny_pyIter_enum he ⟨_, _, _, _, H1, rfl, I1.kept (t' := s1.toks) up, turn_enum (Nat.succ_ne_self _) (off 1) (off 0), ⟨⟨_, he⟩, hi⟩, fun b hb => ?_, q⟩
    simp only [List.mem_cons, List.not_mem_nil, or_false] at hb
    have le : s1.heap.objs.size ≤ b := by rcases hb with rfl | rfl <;> omega
    exact I1.fpOk le (I1.hok.fresh le)
end L2
namespace L2
open PySem PySem.Spec PyProof.Rows
section
variable {X : Cx}
def Its (z : Str) : It := ⟨fun i _ => i < z.cps.size, fun i H x H' => H' = H ∧ ∃ c, z.cps[i]? = some c ∧ x = .str ⟨#[c]⟩, fun i _ => z.cps.size ≤ i⟩
theorem turn_str {P : Program} {w : World} {K : PySem.W.Frag} {tg : Expr} (z : Str) (t : Tok) (it : Addr) : Turn P w K tg (Its z) [it] it (fun i h => h.IsStrIter it "str_ascii_iterator" z t i) where
  mem := by simp
  obj := fun i h st b hb => by
    have e : b = it := by simpa using hb
    subst e
    obtain ⟨o, e, c, d⟩ := st
    exact ⟨o, e, fun v q => by rw [d] at q; cases q⟩
  keep := fun i h h' st k => by
    obtain ⟨o, e, r⟩ := st
    exact ⟨o, k it (by simp) o e, r⟩
  item := by
    intro X hP hw hK hc i pins s σ H E I hf st hg
    subst hP hw hK
    have hg : i < z.cps.size := hg
    obtain ⟨f0, f1, f2, f3, f4, f5⟩ := hf it (by simp)
    refine wpAny_pyNext_ascii_item st (c := z.cps[i]) (by simp [hg]) fun h' st' sb => ?_
    have I1 : Inv X pins σ H { s with heap := h', toks := s.toks + 1 } := I.turned (t' := s.toks + 1) (fun b o hb e => (sb.2 b hb).trans e) f0 f1 f3 f4 f5
    obtain ⟨o, e, c, d⟩ := id st'
    exact ⟨_, rfl, go_of (s := { s with heap := h', toks := s.toks + 1 }) e c d (by decide) ⟨.str ⟨#[z.cps[i]]⟩, H, I1, ⟨_, rfl⟩, ⟨rfl, _, by simp [hg], rfl⟩, st', fun b hb => (hf b hb).1⟩⟩
  done := by
    intro X hP hw hK hc i pins s σ H E I hf st hg
    subst hP hw hK
    have hg : z.cps.size ≤ i := hg
    obtain ⟨f0, f1, f2, f3, f4, f5⟩ := hf it (by simp)
    exact wpAny_pyNext_ascii_end (I.ok.hd hc) st (by simp; omega) fun h' eb => ⟨rfl, I.turned (t' := s.toks) (fun b o hb e => eb b o hb e) f0 f1 f3 f4 f5⟩
  self := fun _ _ _ _ _ st h => wpAny_pyIter_striter_ascii st h
def iStr (tl : TE) : TI := fun σ H R => tl σ H fun x H1 => ∃ z, x = .str z ∧ z.cps.all (· < 128) = true ∧ R (Its z) H1
theorem pi_str {tg l : Expr} {tl : TE} (hl : PE X l tl) : PI X tg l (iStr tl) := by
  intro pins s σ H R I h
  refine thn (hl pins s σ H _ I h) fun v s1 ⟨x, H1, I1, r1, z, e, ha, q⟩ => ?_
  subst e
  obtain ⟨t, rfl⟩ := r1
  refine wpAny_pyIter_ascii ha ?_
  have hf : H1 s1.heap.objs.size = none := I1.hok.fresh (Nat.le_refl _)
  refine ⟨s1.heap.objs.size, [s1.heap.objs.size], _, Its z, H1, rfl, I1.kept (t' := s1.toks) (fun b ob q => Heap.get?_push_of_some _ q), turn_str z t _, ⟨_, Heap.get?_push_size _ rfl, rfl, rfl⟩, fun b hb => ?_, q⟩
  have e : b = s1.heap.objs.size := by simpa using hb
  subst e
  exact I1.fpOk (Nat.le_refl _) hf
end
end L2
namespace L2
open PySem PySem.Spec PyProof.Rows
section
variable {X : Cx}
end
end L2
namespace L2
open PySem PySem.Spec PyProof.Rows
section
variable {prog : Program} {w : World} {A : Around} {E : Value → Shared → Prop} {s : Shared}
end
theorem for_it {J : It} {n : Nat} {g : TG} {tb : TS} {D : Ends} {σ : St} {H : Hp} (Pv : Nat → St → Hp → Prop) (h0 : Pv 0 σ H)
    (hs : ∀ i σ H, i < n → Pv i σ H → J.go i H ∧ ∀ x H', J.yld i H x H' → g x σ H' fun σ2 H2 => tb { D with nx := Pv (i + 1), ct := Pv (i + 1), bk := D.nx } σ2 H2) (hd : ∀ σ H, Pv n σ H → J.stop n H ∧ D.nx σ H) :
    ∃ W : Nat → Nat → St → Hp → Prop, (∃ m, W 0 m σ H) ∧ ∀ i m σ H, W i m σ H →
      (J.stop i H ∧ D.nx σ H) ∨ (J.go i H ∧ ∃ N : St → Hp → Prop, (∀ σ' H', N σ' H' → ∃ m', m' < m ∧ W (i + 1) m' σ' H') ∧ ∀ x H', J.yld i H x H' → g x σ H' fun σ2 H2 => tb { D with nx := N, ct := N, bk := D.nx } σ2 H2) := by
  refine ⟨fun i m σ H => m = n - i ∧ i ≤ n ∧ Pv i σ H, ⟨n, by simp, Nat.zero_le _, h0⟩, ?_⟩
  rintro i m σ H ⟨rfl, hi, p⟩
  by_cases hlt : i < n
  · obtain ⟨a, b⟩ := hs i σ H hlt p
    exact .inr ⟨a, Pv (i + 1), fun σ' H' p' => ⟨n - (i + 1), by omega, rfl, hlt, p'⟩, b⟩
  · have e : i = n := by omega
    subst e
    exact .inl (hd σ H p)
theorem tuple_addW0 (l b : Addr) (items items2 : Array Value) (n n2 : Nat) (dd dd2 : Option Addr) (sl sl2 : Array (Option Value)) (hc0 : items.isEmpty = true) :
    Meets (Builtin.«tuple.__add__» ⟨[.ref l, .ref b], []⟩) (fun _ R s => s.heap.get? l = some { cls := .type "tuple", dict := dd, data := .seq items n, slots := sl } ∧ s.heap.get? b = some { cls := .type "tuple", dict := dd2, data := .seq items2 n2, slots := sl2 } ∧ R (.ok (.ret (Value.ref b))) { s with heap := s.heap, toks := s.toks }) :=
  .of_wp fun prog w A R s h => by obtain ⟨hp, g, d, tk, os⟩ := s; obtain ⟨hl, hb, h⟩ := h; have f1 := AutoSeq1.idx_int; have f2 := AutoSeq1.sub_tuple_tuple; wp_walk using AutoSeq1.wpAny_loadPart' hl, AutoSeq1.wpAny_loadPart' hb; exact ⟨_, rfl, h⟩
def rCatA : R2 := fun x y H Q => ∃ a b xs ys, x = .ref a ∧ y = .ref b ∧ H a = some (.tup xs) ∧ H b = some (.tup ys) ∧ xs.length + ys.length ≤ sizeLine ∧
  ∀ p H', Same H H' → H' p = some (.tup (xs ++ ys)) → Q (.ref p) H'
theorem op_catA {X : Cx} : OpR X (binaryOp .Add) rCatA := by
  intro pins s σ H x y v u Q I rx ry h
  obtain ⟨a, b, xs, ys, rfl, rfl, ha, hb, hz, q⟩ := h
  cases rx
  cases ry
  by_cases hx : xs = []
  · obtain ⟨its, r1, p1, _⟩ := I.tuple (SqT.of ha)
    obtain ⟨its2, r2, p2, _⟩ := I.tuple (SqT.of hb)
    have e0 : its = [] := r1.nil_iff.mpr hx
    obtain ⟨⟨cls, dd, data, sl⟩, ho, hc, n, hd⟩ := id p1
    obtain ⟨⟨cls2, dd2, data2, sl2⟩, ho2, hc2, n2, hd2⟩ := id p2
    simp only at hc hd hc2 hd2
    subst hc hd hc2 hd2
    exact concat_meets ⟨_, ho, rfl⟩ ⟨_, ho2, rfl⟩ noFill_tuple_add seq_tuple_add PySem.F.slot_tuple_add PySem.F.entry_tuple_add (PySem.F.args_tuple_add_2 _ _)
      (tuple_addW0 a b its.toArray its2.toArray n n2 dd dd2 sl sl2 (by rw [e0]; rfl)) ⟨ho, ho2, ⟨.ref b, H, I, rfl, q b H (Same.refl _) (by rw [hx]; exact hb)⟩⟩
  · exact op_catT pins s σ H (.ref a) (.ref b) (.ref a) (.ref b) Q I rfl rfl ⟨a, b, xs, ys, rfl, rfl, SqT.of ha, SqT.of hb, hx, hz, fun z => q a H (Same.refl _) (by rw [z, List.append_nil]; exact ha), fun _ p np => q p _ (same_upd np) upd_same⟩
end L2
namespace L2
open PySem PySem.Spec PyProof.Rows
def SameT (H H' : Hp) : Prop := ∀ p vs, H p = some (.tup vs) → H' p = some (.tup vs)
theorem SameT.refl (H : Hp) : SameT H H := fun _ _ h => h
theorem SameT.trans {H H1 H2 : Hp} (x : SameT H H1) (y : SameT H1 H2) : SameT H H2 := fun p vs h => y p vs (x p vs h)
theorem Same.t {H H' : Hp} (x : Same H H') : SameT H H' := fun p vs h => x p _ h
def Ents (Pd : Nat → V → Hp → Prop) (ys : List V) (n : Nat) (H : Hp) : Prop := ys.length = n ∧ ∀ j, j < n → ∃ u, ys[j]? = some u ∧ Pd j u H
section
variable {Pd Pe : Nat → V → Hp → Prop} {ys : List V} {n : Nat} {H H' : Hp} {v : V}
theorem Ents.nil : Ents Pd [] 0 H := ⟨rfl, fun j h => absurd h (Nat.not_lt_zero j)⟩
theorem Ents.mono (h : Ents Pd ys n H) (s : ∀ j u, j < n → Pd j u H → Pe j u H') : Ents Pe ys n H' := ⟨h.1, fun j hj => by
  obtain ⟨u, e, p⟩ := h.2 j hj
  exact ⟨u, e, s j u hj p⟩⟩
theorem Ents.snoc (h : Ents Pd ys n H) (p : Pd n v H) : Ents Pd (ys ++ [v]) (n + 1) H := ⟨by rw [List.length_append, h.1]; rfl, fun j hj => by
  by_cases hn : j < n
  · obtain ⟨u, e, q⟩ := h.2 j hn
    exact ⟨u, by rw [List.getElem?_append_left (by rw [h.1]; exact hn)]; exact e, q⟩
  · have e : j = n := by omega
    subst e
    exact ⟨v, by rw [List.getElem?_append_right (by rw [h.1]; exact Nat.le_refl _), h.1, Nat.sub_self]; rfl, p⟩⟩
theorem Ents.at (h : Ents Pd ys n H) {j : Nat} {u : V} (e : ys[j]? = some u) : j < n ∧ Pd j u H := by
  have hj : j < n := by rw [← h.1]; exact (List.getElem?_eq_some_iff.mp e).1
  obtain ⟨u', e', p⟩ := h.2 j hj
  rw [e] at e'
  cases e'
  exact ⟨hj, p⟩
end
def TupOf (Pd : Nat → V → Hp → Prop) (n : Nat) (v : V) (H : Hp) : Prop := ∃ p vs, v = .ref p ∧ H p = some (.tup vs) ∧ Ents Pd vs n H
def SeqOf (K : PySem.W.Frag) (Pd : Nat → V → Hp → Prop) (n : Nat) (v : V) (H : Hp) : Prop := ∃ S vs, Sr.ofV S v ∧ S.vals K H vs ∧ (∀ H', Same H H' → S.vals K H' vs ∧ LenV K v H' vs.length) ∧ Ents Pd vs n H
theorem TupOf.seq {K : PySem.W.Frag} {Pd : Nat → V → Hp → Prop} {n : Nat} {v : V} {H : Hp} (h : TupOf Pd n v H) : SeqOf K Pd n v H := by
  obtain ⟨p, vs, rfl, hp, e⟩ := h
  exact ⟨.tup p, vs, rfl, SqT.of hp, fun H' q => ⟨SqT.of (q _ _ hp), .inr ⟨_, SqT.of (q _ _ hp), rfl⟩⟩, e⟩
theorem TupOf.mono {Pd Pe : Nat → V → Hp → Prop} {n : Nat} {v : V} {H H' : Hp} (h : TupOf Pd n v H) (s : SameT H H') (m : ∀ j u, j < n → Pd j u H → Pe j u H') : TupOf Pe n v H' := by
  obtain ⟨p, vs, rfl, hp, e⟩ := h
  exact ⟨p, vs, rfl, s _ _ hp, e.mono m⟩
theorem SeqOf.mono {K : PySem.W.Frag} {Pd Pe : Nat → V → Hp → Prop} {n : Nat} {v : V} {H H' : Hp} (h : SeqOf K Pd n v H) (s : Same H H') (m : ∀ j u, j < n → Pd j u H → Pe j u H') : SeqOf K Pe n v H' := by
  obtain ⟨S, vs, e, hv, hs, he⟩ := h
  exact ⟨S, vs, e, (hs _ s).1, fun H2 q => hs _ (s.trans q), he.mono m⟩
theorem SeqOf.list {K : PySem.W.Frag} {Pd : Nat → V → Hp → Prop} {n : Nat} {p : Addr} {vs : List V} {H : Hp} (hp : H p = some (.lst vs)) (e : Ents Pd vs n H) : SeqOf K Pd n (.ref p) H :=
  ⟨.lst p, vs, rfl, SqL.of hp, fun H' q => ⟨SqL.of (q _ _ hp), .inl ⟨_, SqL.of (q _ _ hp), rfl⟩⟩, e⟩
theorem TupOf.len {K : PySem.W.Frag} {Pd : Nat → V → Hp → Prop} {n : Nat} {v : V} {H : Hp} (h : TupOf Pd n v H) : LenV K v H n := by
  obtain ⟨p, vs, rfl, hp, e⟩ := h
  have e1 := e.1
  subst e1
  exact .inr ⟨_, SqT.of hp, rfl⟩
theorem SeqOf.len {K : PySem.W.Frag} {Pd : Nat → V → Hp → Prop} {n : Nat} {v : V} {H : Hp} (h : SeqOf K Pd n v H) : LenV K v H n := by
  obtain ⟨S, vs, _, _, hs, e⟩ := h
  have q := (hs _ (Same.refl _)).2
  rw [e.1] at q
  exact q
theorem comp_go {J : It} {n k : Nat} {g : TG} {te : TE} {σ : St} {Q : VK} {H1 : Hp} (Pv : Nat → List V → Hp → Prop) (hn : n ≤ 1000) (h0 : Pv 0 [] H1) (hl : ∀ i ys H, Pv i ys H → ys.length = i)
    (hgo : ∀ i ys H, i < n → Pv i ys H → J.go i H ∧ ∀ x H', J.yld i H x H' → g x (σ ++ List.replicate k none) H' fun σ2 H2 => (∃ zs, σ2 = σ ++ zs ∧ zs.length = k) ∧ te σ2 H2 fun v H3 => Pv (i + 1) (ys ++ [v]) H3)
    (hstop : ∀ ys H, Pv n ys H → J.stop n H) (hend : ∀ ys H p, Pv n ys H → H p = none → Q (.ref p) (upd H p (.lst ys))) :
    CTail J k g te σ Q H1 := by
  have z : 1000 < sizeLine := by decide
  refine ⟨fun i m ys H => m = n - i ∧ i ≤ n ∧ Pv i ys H, ⟨n, rfl, Nat.zero_le _, h0⟩, ?_⟩
  rintro i m ys H ⟨rfl, hi, p⟩
  have yl := hl i ys H p
  by_cases hlt : i < n
  · obtain ⟨a, b⟩ := hgo i ys H hlt p
    refine .inr ⟨a, by omega, fun x H' y => ?_⟩
    have c := b x H' y
    have e : (fun σ2 H2 => (∃ zs, σ2 = σ ++ zs ∧ zs.length = k) ∧ te σ2 H2 fun v H3 => ∃ m', m' < n - i ∧ m' = n - (i + 1) ∧ i + 1 ≤ n ∧ Pv (i + 1) (ys ++ [v]) H3) = fun σ2 H2 => (∃ zs, σ2 = σ ++ zs ∧ zs.length = k) ∧ te σ2 H2 fun v H3 => Pv (i + 1) (ys ++ [v]) H3 := by
      funext σ2 H2
      congr 2
      funext v H3
      exact propext ⟨fun ⟨_, _, _, _, q⟩ => q, fun q => ⟨_, by omega, rfl, hlt, q⟩⟩
    rw [e]
    exact c
  · have e : i = n := by omega
    subst e
    exact .inl ⟨hstop ys H p, by omega, fun q nq => hend ys H q p nq⟩
end L2
namespace Mine
def sm (S : SR) (f : Nat → S.W) : Nat → S.W
  | 0 => S.zero
  | n + 1 => S.add (sm S f n) (f n)
section
variable {S : SR}
theorem sm_congr {f g : Nat → S.W} : ∀ {n : Nat}, (∀ i, i < n → f i = g i) → sm S f n = sm S g n
  | 0, _ => rfl
  | n + 1, h => by
    show S.add _ _ = S.add _ _
    rw [sm_congr fun i hi => h i (Nat.lt_succ_of_lt hi), h n (Nat.lt_succ_self n)]
theorem sm_zero : ∀ n : Nat, sm S (fun _ => S.zero) n = S.zero
  | 0 => rfl
  | n + 1 => by show S.add _ _ = _; rw [sm_zero n, S.add_zero]
theorem sm_add (f g : Nat → S.W) : ∀ n : Nat, sm S (fun i => S.add (f i) (g i)) n = S.add (sm S f n) (sm S g n)
  | 0 => (S.add_zero S.zero).symm
  | n + 1 => by
    show S.add _ _ = S.add (S.add _ _) (S.add _ _)
    rw [sm_add f g n, S.add_assoc, S.add_assoc]
    congr 1
    rw [← S.add_assoc, S.add_comm (sm S g n) (f n), S.add_assoc]
theorem sm_mul (c : S.W) (f : Nat → S.W) : ∀ n : Nat, S.mul c (sm S f n) = sm S (fun i => S.mul c (f i)) n
  | 0 => S.mul_zero c
  | n + 1 => by
    show S.mul c (S.add _ _) = S.add _ _
    rw [S.distrib, sm_mul c f n]
theorem sm_mulr (c : S.W) (f : Nat → S.W) (n : Nat) : S.mul (sm S f n) c = sm S (fun i => S.mul (f i) c) n := by
  rw [S.mul_comm, sm_mul]
  exact sm_congr fun i _ => S.mul_comm _ _
theorem sm_swap (f : Nat → Nat → S.W) (k : Nat) : ∀ n : Nat, sm S (fun i => sm S (fun j => f i j) k) n = sm S (fun j => sm S (fun i => f i j) n) k
  | 0 => (sm_zero k).symm
  | n + 1 => by
    show S.add _ _ = _
    rw [sm_swap f k n, ← sm_add]
    rfl
theorem sm_assoc (r : Nat → S.W) (A : Nat → Nat → S.W) (b : Nat → S.W) (h w : Nat) :
    sm S (fun j => S.mul (sm S (fun i => S.mul (r i) (A i j)) h) (b j)) w = sm S (fun i => S.mul (r i) (sm S (fun j => S.mul (A i j) (b j)) w)) h := by
  have e1 : ∀ j, j < w → S.mul (sm S (fun i => S.mul (r i) (A i j)) h) (b j) = sm S (fun i => S.mul (r i) (S.mul (A i j) (b j))) h := fun j _ => by
    rw [sm_mulr]
    exact sm_congr fun i _ => S.mul_assoc _ _ _
  have e2 : ∀ i, i < h → S.mul (r i) (sm S (fun j => S.mul (A i j) (b j)) w) = sm S (fun j => S.mul (r i) (S.mul (A i j) (b j))) w := fun i _ => sm_mul _ _ _
  rw [sm_congr e1, sm_congr e2, sm_swap]
end
end Mine
namespace Mine
structure Fld (S : SR) where
  neg : S.W → S.W
  inv : S.W → S.W
  add_neg : ∀ x, S.add x (neg x) = S.zero
  mul_inv : ∀ x, x ≠ S.zero → S.mul x (inv x) = S.one
  sz_neg : ∀ m x, S.sz m x → S.sz m (neg x)
  sz_inv : ∀ m x, x ≠ S.zero → S.sz m x → S.sz m (inv x)
section
variable {S : SR} {F : Fld S}
theorem f_za (x : S.W) : S.add S.zero x = x := by rw [S.add_comm, S.add_zero]
theorem f_zm (x : S.W) : S.mul S.zero x = S.zero := by rw [S.mul_comm, S.mul_zero]
theorem f_om (x : S.W) : S.mul S.one x = x := by rw [S.mul_comm, S.mul_one]
theorem f_dr (x y z : S.W) : S.mul (S.add x y) z = S.add (S.mul x z) (S.mul y z) := by rw [S.mul_comm, S.distrib, S.mul_comm z x, S.mul_comm z y]
theorem f_uniq {x y : S.W} (h : S.add x y = S.zero) : y = F.neg x := by
  have e : S.add (F.neg x) (S.add x y) = y := by rw [← S.add_assoc, S.add_comm (F.neg x) x, F.add_neg, f_za]
  rw [h, S.add_zero] at e
  exact e.symm
theorem f_nz : F.neg S.zero = S.zero := (f_uniq (F := F) (S.add_zero S.zero)).symm
theorem f_nm (x y : S.W) : S.mul (F.neg x) y = F.neg (S.mul x y) := f_uniq (by rw [← f_dr, F.add_neg, f_zm])
theorem f_mn (x y : S.W) : S.mul x (F.neg y) = F.neg (S.mul x y) := by rw [S.mul_comm, f_nm, S.mul_comm]
theorem f_na (x y : S.W) : F.neg (S.add x y) = S.add (F.neg x) (F.neg y) := (f_uniq (F := F) (by
  rw [S.add_assoc, ← S.add_assoc y, S.add_comm y, S.add_assoc, F.add_neg, S.add_zero, F.add_neg])).symm
theorem f_add4 (a b c d : S.W) : S.add (S.add a b) (S.add c d) = S.add (S.add a c) (S.add b d) := by
  rw [S.add_assoc, S.add_assoc]
  congr 1
  rw [← S.add_assoc, S.add_comm b c, S.add_assoc]
theorem sm_one {f : Nat → S.W} {i : Nat} : ∀ {n : Nat}, i < n → (∀ k, k < n → k ≠ i → f k = S.zero) → sm S f n = f i
  | 0, h, _ => absurd h (Nat.not_lt_zero _)
  | n + 1, h, z => by
    show S.add _ _ = _
    by_cases e : i = n
    · subst e
      rw [sm_congr (g := fun _ => S.zero) (fun k hk => z k (by omega) (by omega)), sm_zero, f_za]
    · rw [sm_one (i := i) (by omega) (fun k hk hn => z k (by omega) hn), z n (by omega) (by omega), S.add_zero]
def lin (S : SR) (c : Nat → S.W) (vs : Nat → Nat → S.W) (n : Nat) : Nat → S.W := fun j => sm S (fun k => S.mul (c k) (vs k j)) n
theorem lin_add (c d : Nat → S.W) (vs : Nat → Nat → S.W) (n j : Nat) : lin S (fun k => S.add (c k) (d k)) vs n j = S.add (lin S c vs n j) (lin S d vs n j) := by
  unfold lin
  rw [← sm_add]
  exact sm_congr fun k _ => f_dr _ _ _
theorem lin_mul (a : S.W) (c : Nat → S.W) (vs : Nat → Nat → S.W) (n j : Nat) : lin S (fun k => S.mul a (c k)) vs n j = S.mul a (lin S c vs n j) := by
  unfold lin
  rw [sm_mul]
  exact sm_congr fun k _ => S.mul_assoc _ _ _
theorem lin_zero (vs : Nat → Nat → S.W) (n j : Nat) : lin S (fun _ => S.zero) vs n j = S.zero := by
  unfold lin
  rw [sm_congr (g := fun _ => S.zero) fun k _ => f_zm _, sm_zero]
theorem lin_one {vs : Nat → Nat → S.W} {n i j : Nat} (h : i < n) : lin S (fun k => if k = i then S.one else S.zero) vs n j = vs i j := by
  unfold lin
  rw [sm_one (i := i) h fun k _ hk => by dsimp only; rw [if_neg hk, f_zm]]
  dsimp only
  rw [if_pos rfl, f_om]
theorem lin_neg (F : Fld S) (c : Nat → S.W) (vs : Nat → Nat → S.W) (n j : Nat) : lin S (fun k => F.neg (c k)) vs n j = F.neg (lin S c vs n j) := by
  refine f_uniq ?_
  rw [← lin_add]
  unfold lin
  rw [sm_congr (g := fun _ => S.zero) fun k _ => by dsimp only; rw [F.add_neg, f_zm], sm_zero]
theorem lin_lin (c : Nat → S.W) (A : Nat → Nat → S.W) (vs : Nat → Nat → S.W) (m n j : Nat) : sm S (fun i => S.mul (c i) (lin S (A i) vs n j)) m = lin S (fun k => sm S (fun i => S.mul (c i) (A i k)) m) vs n j := (sm_assoc c A (fun k => vs k j) m n).symm
def Spn (S : SR) (w n : Nat) (vs : Nat → Nat → S.W) (u : Nat → S.W) : Prop := ∃ c, ∀ j, j < w → u j = lin S c vs n j
theorem Spn.add {w n : Nat} {vs : Nat → Nat → S.W} {u v : Nat → S.W} (h : Spn S w n vs u) (g : Spn S w n vs v) : Spn S w n vs fun j => S.add (u j) (v j) := by
  obtain ⟨c, hc⟩ := h
  obtain ⟨d, hd⟩ := g
  exact ⟨fun k => S.add (c k) (d k), fun j hj => by dsimp only; rw [lin_add, hc j hj, hd j hj]⟩
theorem Spn.mul {w n : Nat} {vs : Nat → Nat → S.W} {u : Nat → S.W} (a : S.W) (h : Spn S w n vs u) : Spn S w n vs fun j => S.mul a (u j) := by
  obtain ⟨c, hc⟩ := h
  exact ⟨fun k => S.mul a (c k), fun j hj => by dsimp only; rw [lin_mul, hc j hj]⟩
theorem Spn.gen {w n i : Nat} {vs : Nat → Nat → S.W} (h : i < n) : Spn S w n vs (vs i) := ⟨_, fun j _ => (lin_one h).symm⟩
theorem Spn.lin {w m n : Nat} {us vs : Nat → Nat → S.W} {c : Nat → S.W} (h : ∀ i, i < m → Spn S w n vs (us i)) : Spn S w n vs (lin S c us m) := by
  have hc : ∀ i, ∃ d : Nat → S.W, i < m → ∀ j, j < w → us i j = Mine.lin S d vs n j := fun i => by
    by_cases hi : i < m
    · obtain ⟨d, hd⟩ := h i hi
      exact ⟨d, fun _ => hd⟩
    · exact ⟨fun _ => S.zero, fun z => absurd z hi⟩
  refine ⟨fun k => sm S (fun i => S.mul (c i) ((hc i).choose k)) m, fun j hj => ?_⟩
  rw [← lin_lin c fun i => (hc i).choose]
  exact sm_congr fun i hi => by rw [(hc i).choose_spec hi j hj]
theorem Spn.congr {w n : Nat} {vs : Nat → Nat → S.W} {u v : Nat → S.W} (h : Spn S w n vs u) (e : ∀ j, j < w → v j = u j) : Spn S w n vs v := by
  obtain ⟨c, hc⟩ := h
  exact ⟨c, fun j hj => by rw [e j hj, hc j hj]⟩
def stp (F : Fld S) (k : Nat × (Nat → S.W)) (r : Nat → S.W) : Nat → S.W := fun j => S.add (r j) (S.mul (F.neg (r k.1)) (k.2 j))
def clr (F : Fld S) (ks : List (Nat × (Nat → S.W))) (r : Nat → S.W) : Nat → S.W := ks.foldl (fun r k => stp F k r) r
theorem clr_cons (k : Nat × (Nat → S.W)) (ks : List (Nat × (Nat → S.W))) (r : Nat → S.W) : clr F (k :: ks) r = clr F ks (stp F k r) := rfl
theorem clr_snoc (k : Nat × (Nat → S.W)) (ks : List (Nat × (Nat → S.W))) (r : Nat → S.W) : clr F (ks ++ [k]) r = stp F k (clr F ks r) := by
  unfold clr
  rw [List.foldl_append]; rfl
theorem stp_zero {k : Nat × (Nat → S.W)} {r : Nat → S.W} (h : r k.1 = S.zero) : stp F k r = r := by
  funext j
  unfold stp
  rw [h, f_nz, f_zm, S.add_zero]
theorem stp_add (k : Nat × (Nat → S.W)) (u v : Nat → S.W) : stp F k (fun j => S.add (u j) (v j)) = fun j => S.add (stp F k u j) (stp F k v j) := by
  funext j
  unfold stp
  rw [f_na, f_dr, f_add4]
theorem stp_mul (k : Nat × (Nat → S.W)) (a : S.W) (u : Nat → S.W) : stp F k (fun j => S.mul a (u j)) = fun j => S.mul a (stp F k u j) := by
  funext j
  unfold stp
  rw [S.distrib, ← S.mul_assoc, f_mn]
theorem clr_add : ∀ (ks : List (Nat × (Nat → S.W))) (u v : Nat → S.W), clr F ks (fun j => S.add (u j) (v j)) = fun j => S.add (clr F ks u j) (clr F ks v j)
  | [], _, _ => rfl
  | k :: ks, u, v => by rw [clr_cons, stp_add, clr_add ks]; rfl
theorem clr_mul : ∀ (ks : List (Nat × (Nat → S.W))) (a : S.W) (u : Nat → S.W), clr F ks (fun j => S.mul a (u j)) = fun j => S.mul a (clr F ks u j)
  | [], _, _ => rfl
  | k :: ks, a, u => by rw [clr_cons, stp_mul, clr_mul ks]; rfl
theorem clr_zero : ∀ (ks : List (Nat × (Nat → S.W))), clr F ks (fun _ => S.zero) = fun _ => S.zero
  | [] => rfl
  | k :: ks => by rw [clr_cons, stp_zero rfl, clr_zero ks]
theorem clr_lin (ks : List (Nat × (Nat → S.W))) (c : Nat → S.W) (vs : Nat → Nat → S.W) : ∀ n, clr F ks (lin S c vs n) = lin S c (fun k => clr F ks (vs k)) n
  | 0 => clr_zero ks
  | n + 1 => by
    have e : lin S c vs (n + 1) = fun j => S.add (lin S c vs n j) (S.mul (c n) (vs n j)) := rfl
    rw [e, clr_add, clr_lin ks c vs n, clr_mul]; rfl
theorem clr_cong {w : Nat} : ∀ {ks : List (Nat × (Nat → S.W))} {u v : Nat → S.W}, (∀ k ∈ ks, k.1 < w) → (∀ j, j < w → u j = v j) → ∀ j, j < w → clr F ks u j = clr F ks v j
  | [], _, _, _, e => e
  | k :: ks, u, v, h, e => by
    rw [clr_cons, clr_cons]
    refine clr_cong (fun q hq => h q (List.mem_cons_of_mem _ hq)) fun j hj => ?_
    unfold stp
    rw [e j hj, e k.1 (h k (List.mem_cons_self ..))]
structure Kp (S : SR) (w : Nat) (ks : List (Nat × (Nat → S.W))) : Prop where
  lt : ∀ k ∈ ks, k.1 < w
  one : ∀ k ∈ ks, k.2 k.1 = S.one
  tri : ks.Pairwise fun a b => b.2 a.1 = S.zero
theorem Kp.nil {w : Nat} : Kp S w [] := ⟨by simp, by simp, .nil⟩
theorem clr_keep {p : Nat} : ∀ {ks : List (Nat × (Nat → S.W))} {u : Nat → S.W}, (∀ k ∈ ks, k.2 p = S.zero) → clr F ks u p = u p
  | [], _, _ => rfl
  | k :: ks, u, h => by
    rw [clr_cons, clr_keep fun q hq => h q (List.mem_cons_of_mem _ hq)]
    unfold stp
    rw [h k (List.mem_cons_self ..), S.mul_zero, S.add_zero]
theorem Kp.tail {w : Nat} {k : Nat × (Nat → S.W)} {ks : List (Nat × (Nat → S.W))} (h : Kp S w (k :: ks)) : Kp S w ks := ⟨fun q hq => h.lt q (List.mem_cons_of_mem _ hq), fun q hq => h.one q (List.mem_cons_of_mem _ hq), (List.pairwise_cons.mp h.tri).2⟩
theorem Kp.clr {w : Nat} : ∀ {ks : List (Nat × (Nat → S.W))} {u : Nat → S.W}, Kp S w ks → ∀ k ∈ ks, clr F ks u k.1 = S.zero
  | [], _, _, k, hk => by cases hk
  | q :: ks, u, h, k, hk => by
    rw [clr_cons]
    rcases List.mem_cons.mp hk with rfl | hk
    · rw [clr_keep fun b hb => (List.pairwise_cons.mp h.tri).1 b hb]
      unfold stp
      rw [h.one k (List.mem_cons_self ..), S.mul_one, F.add_neg]
    · exact Kp.clr h.tail k hk
theorem len_le : ∀ (w : Nat) (l : List Nat), l.Nodup → (∀ x ∈ l, x < w) → l.length ≤ w
  | 0, l, _, h => by
    cases l with
    | nil => exact Nat.le_refl _
    | cons a l => exact absurd (h a (List.mem_cons_self ..)) (Nat.not_lt_zero _)
  | w + 1, l, nd, h => by
    have := len_le w (l.erase w) (nd.erase w) fun x hx => by
      have h1 := (nd.mem_erase_iff.mp hx)
      have := h x h1.2
      have := h1.1
      omega
    have e := List.length_erase (a := w) (l := l)
    split at e <;> omega
theorem all_of_len {w : Nat} {l : List Nat} (nd : l.Nodup) (h : ∀ x ∈ l, x < w) (e : l.length = w) {j : Nat} (hj : j < w) : j ∈ l := by
  refine Classical.byContradiction fun n => ?_
  have := len_le w (j :: l) (List.nodup_cons.mpr ⟨n, nd⟩) fun x hx => by
    rcases List.mem_cons.mp hx with rfl | hx
    · exact hj
    · exact h x hx
  rw [List.length_cons] at this
  omega
theorem Kp.places {w : Nat} {ks : List (Nat × (Nat → S.W))} (h : Kp S w ks) : (ks.map Prod.fst).Nodup := by
  rw [List.nodup_iff_pairwise_ne, List.pairwise_map]
  refine List.Pairwise.imp_of_mem (fun {a b} ha hb e z => ?_) h.tri
  have := h.one b hb
  rw [← z, e] at this
  exact S.zo this
theorem Kp.len {w : Nat} {ks : List (Nat × (Nat → S.W))} (h : Kp S w ks) : ks.length ≤ w := by
  have := len_le w _ h.places fun x hx => by
    obtain ⟨k, hk, rfl⟩ := List.mem_map.mp hx
    exact h.lt k hk
  rw [List.length_map] at this
  exact this
theorem Kp.full {w : Nat} {ks : List (Nat × (Nat → S.W))} {u : Nat → S.W} (h : Kp S w ks) (e : ks.length = w) : ∀ j, j < w → Mine.clr F ks u j = S.zero := fun j hj => by
  have := all_of_len h.places (fun x hx => by
    obtain ⟨k, hk, rfl⟩ := List.mem_map.mp hx
    exact h.lt k hk) (by rw [List.length_map]; exact e) hj
  obtain ⟨k, hk, rfl⟩ := List.mem_map.mp this
  exact h.clr k hk
open Classical in
noncomputable def lead (v : Nat → S.W) : Nat → Option Nat
  | 0 => none
  | w + 1 => match lead v w with
    | some p => some p
    | none => if v w = S.zero then none else some w
theorem lead_none {v : Nat → S.W} : ∀ {w : Nat}, lead v w = none → ∀ j, j < w → v j = S.zero
  | 0, _, j, hj => absurd hj (Nat.not_lt_zero j)
  | w + 1, h, j, hj => by
    unfold lead at h
    split at h
    · cases h
    · rename_i e
      split at h
      · rename_i z
        by_cases e' : j = w
        · rw [e']; exact z
        · exact lead_none e j (by omega)
      · cases h
theorem lead_some {v : Nat → S.W} {p : Nat} : ∀ {w : Nat}, lead v w = some p → p < w ∧ v p ≠ S.zero ∧ ∀ j, j < p → v j = S.zero
  | 0, h => by cases h
  | w + 1, h => by
    unfold lead at h
    split at h
    · rename_i q e
      cases h
      obtain ⟨a, b⟩ := lead_some e
      exact ⟨by omega, b⟩
    · rename_i e
      split at h
      · cases h
      · rename_i z
        cases h
        exact ⟨by omega, z, lead_none e⟩
theorem lead_of_zero {v : Nat → S.W} {w : Nat} (h : ∀ j, j < w → v j = S.zero) : lead v w = none := by
  cases e : lead v w with
  | none => rfl
  | some p => exact absurd (h p (lead_some e).1) (lead_some e).2.1
open Classical in
noncomputable def kpF (F : Fld S) (w : Nat) (ks : List (Nat × (Nat → S.W))) (r : Nat → S.W) : List (Nat × (Nat → S.W)) :=
  if ks.length = w then ks else match lead (clr F ks r) w with
    | none => ks
    | some p => ks ++ [(p, fun j => S.mul (F.inv (clr F ks r p)) (clr F ks r j))]
theorem kpF_cases {w : Nat} {ks : List (Nat × (Nat → S.W))} {r : Nat → S.W} (M : List (Nat × (Nat → S.W)) → Prop) (h1 : ks.length = w → M ks) (h2 : (∀ j, j < w → clr F ks r j = S.zero) → M ks) (h3 : ∀ p, p < w → clr F ks r p ≠ S.zero → M (ks ++ [(p, fun j => S.mul (F.inv (clr F ks r p)) (clr F ks r j))])) : M (kpF F w ks r) := by
  unfold kpF
  split
  · rename_i e; exact h1 e
  · split
    · rename_i e; exact h2 (lead_none e)
    · rename_i p e; exact h3 p (lead_some e).1 (lead_some e).2.1
theorem kpF_Kp {w : Nat} {ks : List (Nat × (Nat → S.W))} {r : Nat → S.W} (h : Kp S w ks) : Kp S w (kpF F w ks r) := by
  refine kpF_cases (fun l => Kp S w l) (fun _ => h) (fun _ => h) fun p hp np => ?_
  refine ⟨fun k hk => ?_, fun k hk => ?_, List.pairwise_append.mpr ⟨h.tri, List.pairwise_singleton _ _, fun a ha b hb => ?_⟩⟩
  · rcases List.mem_append.mp hk with hk | hk
    · exact h.lt k hk
    · rw [List.mem_singleton.mp hk]; exact hp
  · rcases List.mem_append.mp hk with hk | hk
    · exact h.one k hk
    · rw [List.mem_singleton.mp hk]
      show S.mul _ _ = _
      rw [S.mul_comm, F.mul_inv _ np]
  · rw [List.mem_singleton.mp hb]
    show S.mul _ (clr F ks r a.1) = _
    rw [h.clr a ha, S.mul_zero]
theorem kpF_old {w : Nat} {ks : List (Nat × (Nat → S.W))} {r u : Nat → S.W} (z : ∀ j, j < w → clr F ks u j = S.zero) : ∀ j, j < w → clr F (kpF F w ks r) u j = S.zero := by
  refine kpF_cases (fun l => ∀ j, j < w → clr F l u j = S.zero) (fun _ => z) (fun _ => z) fun p hp np j hj => ?_
  rw [clr_snoc]
  unfold stp
  rw [z j hj, z p hp, f_nz, f_zm, S.add_zero]
theorem kpF_new {w : Nat} {ks : List (Nat × (Nat → S.W))} {r : Nat → S.W} (h : Kp S w ks) : ∀ j, j < w → clr F (kpF F w ks r) r j = S.zero := by
  refine kpF_cases (fun l => ∀ j, j < w → clr F l r j = S.zero) (fun e => h.full e) (fun z => z) fun p hp np j hj => ?_
  rw [clr_snoc]
  show S.add _ (S.mul (F.neg (clr F ks r p)) (S.mul (F.inv _) _)) = _
  rw [← S.mul_assoc, f_nm, F.mul_inv _ np, f_nm, f_om, F.add_neg]
noncomputable def kpL (F : Fld S) (w : Nat) (rs : List (Nat → S.W)) : List (Nat × (Nat → S.W)) := rs.foldl (kpF F w) []
theorem kpL_snoc {w : Nat} {rs : List (Nat → S.W)} {r : Nat → S.W} : kpL F w (rs ++ [r]) = kpF F w (kpL F w rs) r := by
  unfold kpL
  rw [List.foldl_append]; rfl
theorem kpL_ind {w : Nat} (M : List (Nat → S.W) → List (Nat × (Nat → S.W)) → Prop) (h0 : M [] []) (h1 : ∀ rs ks r, Kp S w ks → M rs ks → M (rs ++ [r]) (kpF F w ks r)) (rs : List (Nat → S.W)) : Kp S w (kpL F w rs) ∧ M rs (kpL F w rs) := by
  have key : ∀ n rs, rs.length = n → Kp S w (kpL F w rs) ∧ M rs (kpL F w rs) := by
    intro n
    induction n with
    | zero =>
      intro rs e
      cases List.length_eq_zero_iff.mp e
      exact ⟨Kp.nil, h0⟩
    | succ n ih =>
      intro rs e
      have ne : rs ≠ [] := fun z => by rw [z] at e; cases e
      have sp := List.dropLast_concat_getLast ne
      obtain ⟨a, b⟩ := ih rs.dropLast (by rw [List.length_dropLast, e]; rfl)
      rw [← sp, kpL_snoc]
      exact ⟨kpF_Kp a, h1 _ _ _ a b⟩
  exact key _ rs rfl
theorem kpL_Kp {w : Nat} (rs : List (Nat → S.W)) : Kp S w (kpL F w rs) := (kpL_ind (fun _ _ => True) trivial (fun _ _ _ _ _ => trivial) rs).1
theorem kpL_clr {w : Nat} (rs : List (Nat → S.W)) : ∀ r ∈ rs, ∀ j, j < w → clr F (kpL F w rs) r j = S.zero := (kpL_ind (fun rs ks => ∀ r ∈ rs, ∀ j, j < w → clr F ks r j = S.zero) (by simp) (fun rs ks r K M q hq => by
  rcases List.mem_append.mp hq with hq | hq
  · exact kpF_old (M q hq)
  · rw [List.mem_singleton.mp hq]; exact kpF_new K) rs).2
def kv (ks : List (Nat × (Nat → S.W))) : Nat → Nat → S.W := fun i => (ks.getD i (0, fun _ => S.zero)).2
def kp (ks : List (Nat × (Nat → S.W))) : Nat → Nat := fun i => (ks.getD i (0, fun _ => S.zero)).1
def Rl (S : SR) (w n : Nat) (rs : Nat → Nat → S.W) (u v : Nat → S.W) : Prop := ∀ j, j < w → v j = S.add (u j) (lin S (fun k => v (w + k)) rs n j)
theorem Rl.stp {w n : Nat} {rs : Nat → Nat → S.W} {u v : Nat → S.W} {k : Nat × (Nat → S.W)} (h : Rl S w n rs u v) (g : Rl S w n rs (fun _ => S.zero) k.2) : Rl S w n rs u (stp F k v) := fun j hj => by
  show S.add (v j) _ = _
  rw [h j hj, g j hj, f_za, S.add_assoc]
  congr 1
  rw [← lin_mul, ← lin_add]; rfl
theorem Rl.clr {w n : Nat} {rs : Nat → Nat → S.W} {u : Nat → S.W} : ∀ {ks : List (Nat × (Nat → S.W))} {v : Nat → S.W}, Rl S w n rs u v → (∀ k ∈ ks, Rl S w n rs (fun _ => S.zero) k.2) → Rl S w n rs u (clr F ks v)
  | [], _, h, _ => h
  | k :: ks, v, h, g => by
    rw [clr_cons]
    exact Rl.clr (h.stp (g k (List.mem_cons_self ..))) fun q hq => g q (List.mem_cons_of_mem _ hq)
theorem Rl.mul {w n : Nat} {rs : Nat → Nat → S.W} {v : Nat → S.W} (a : S.W) (h : Rl S w n rs (fun _ => S.zero) v) : Rl S w n rs (fun _ => S.zero) fun j => S.mul a (v j) := fun j hj => by
  show S.mul a (v j) = _
  rw [h j hj, f_za, f_za, ← lin_mul]
theorem kpL_Rl {w n : Nat} {rs : Nat → Nat → S.W} (ms : List (Nat → S.W)) (h : ∀ r ∈ ms, Rl S w n rs (fun _ => S.zero) r) : ∀ k ∈ kpL F w ms, Rl S w n rs (fun _ => S.zero) k.2 := by
  refine (kpL_ind (F := F) (w := w) (fun ms ks => (∀ r ∈ ms, Rl S w n rs (fun _ => S.zero) r) → ∀ k ∈ ks, Rl S w n rs (fun _ => S.zero) k.2) (fun _ => by simp) (fun ms ks r K M h => ?_) ms).2 h
  have M' := M fun q hq => h q (List.mem_append_left _ hq)
  refine kpF_cases (fun l => ∀ k ∈ l, Rl S w n rs (fun _ => S.zero) k.2) (fun _ => M') (fun _ => M') fun p hp np k hk => ?_
  rcases List.mem_append.mp hk with hk | hk
  · exact M' k hk
  · rw [List.mem_singleton.mp hk]
    exact ((h r (List.mem_append_right _ (List.mem_singleton_self r))).clr M').mul _
theorem Rl.parts (F : Fld S) {w n : Nat} {rs : Nat → Nat → S.W} {u v : Nat → S.W} (h : Rl S w n rs u v) (z : ∀ j, j < w → v j = S.zero) : ∀ j, j < w → u j = lin S (fun k => F.neg (v (w + k))) rs n j := fun j hj => by
  have e := h j hj
  rw [z j hj] at e
  rw [lin_neg]
  exact f_uniq (by rw [S.add_comm]; exact e.symm)
end
end Mine
namespace L2
open PySem Mine
def KAt (C : Addr) (fs : List (Str × V)) (H : Hp) (k : V) : Prop := ∃ p dx, k = .ref p ∧ H p = some (.ins C dx fs)
theorem KAt.same {C : Addr} {fs : List (Str × V)} {H H' : Hp} {k : V} (e : Same H H') (h : KAt C fs H k) : KAt C fs H' k := by
  obtain ⟨p, dx, rfl, h⟩ := h
  exact ⟨p, dx, rfl, e _ _ h⟩
def Sml (S : SR) (n : Nat) : Prop := n ≤ 60000000 ∨ ∀ k y, S.sz k y
theorem Sml.le {S : SR} {m n : Nat} (h : Sml S n) (e : m ≤ n) : Sml S m := h.imp (Nat.le_trans e) id
def spBin (C : Addr) (fs : List (Str × V)) (S : SR) (is : Hp → V → S.W → Prop) (f : S.W → S.W → S.W) : Sp := fun vs H Q _ => ∃ k x y a b m n, vs = [k, x, y] ∧
  (KAt C fs H k ∧ is H x a ∧ is H y b ∧ S.sz m a ∧ S.sz n b ∧ Sml S (m + n)) ∧ ∀ v H', Same H H' → is H' v (f a b) → Q v H'
def spNul (C : Addr) (fs : List (Str × V)) (S : SR) (is : Hp → V → S.W → Prop) (z : S.W) : Sp := fun vs H Q _ => ∃ k, vs = [k] ∧ KAt C fs H k ∧ ∀ v H', Same H H' → is H' v z → Q v H'
def spPk (b : Bool) : Sp := fun vs H Q _ => ∃ x, vs = [x] ∧ Q (.bl b) H
def spNeg (C : Addr) (fs : List (Str × V)) (S : SR) (is : Hp → V → S.W → Prop) (f : S.W → S.W) : Sp := fun vs H Q _ => ∃ k x a, vs = [k, x] ∧ (KAt C fs H k ∧ is H x a) ∧ ∀ v H', Same H H' → is H' v (f a) → Q v H'
def spInv (C : Addr) (fs : List (Str × V)) (S : SR) (is : Hp → V → S.W → Prop) (f : S.W → S.W) : Sp := fun vs H Q _ => ∃ k x a, vs = [k, x] ∧ (KAt C fs H k ∧ is H x a ∧ a ≠ S.zero) ∧ ∀ v H', Same H H' → is H' v (f a) → Q v H'
structure KindR (P : Program) (w : World) (K : PySem.W.Frag) (mg : Str → Option Value) (base : Heap) where
  S : SR
  C : Addr
  fs : List (Str × V)
  cl : Cls K C
  is : Hp → V → S.W → Prop
  same : ∀ {H H' : Hp} {v : V} {x : S.W}, SameT H H' → is H v x → is H' v x
  isd : ∀ {H : Hp} {v : V} {x : S.W}, is H v x → Is K H v (S.data x)
  F : Fld S
  f_minus : Addr
  d_minus : FuncData
  t_minus : Meth K C "minus" f_minus
  b_minus : Binds K d_minus ["self", "x"] []
  l_minus : fs.lookup ("minus" : Str) = none
  G_minus : FnOk P w K mg base CX0 40 f_minus d_minus ["self", "x"] (spNeg C fs S is F.neg)
  f_inverse : Addr
  d_inverse : FuncData
  t_inverse : Meth K C "inverse" f_inverse
  b_inverse : Binds K d_inverse ["self", "x"] []
  l_inverse : fs.lookup ("inverse" : Str) = none
  G_inverse : FnOk P w K mg base CX0 40 f_inverse d_inverse ["self", "x"] (spInv C fs S is F.inv)
  f_is_field : Addr
  d_is_field : FuncData
  t_is_field : Meth K C "is_field" f_is_field
  b_is_field : Binds K d_is_field ["self"] []
  l_is_field : fs.lookup ("is_field" : Str) = none
  G_is_field : FnOk P w K mg base CX0 40 f_is_field d_is_field ["self"] (spPk true)
  f_plus : Addr
  d_plus : FuncData
  t_plus : Meth K C "plus" f_plus
  b_plus : Binds K d_plus ["self", "x", "y"] []
  l_plus : fs.lookup ("plus" : Str) = none
  G_plus : FnOk P w K mg base CX0 40 f_plus d_plus ["self", "x", "y"] (spBin C fs S is S.add)
  f_times : Addr
  d_times : FuncData
  t_times : Meth K C "times" f_times
  b_times : Binds K d_times ["self", "x", "y"] []
  l_times : fs.lookup ("times" : Str) = none
  G_times : FnOk P w K mg base CX0 40 f_times d_times ["self", "x", "y"] (spBin C fs S is S.mul)
  f_nought : Addr
  d_nought : FuncData
  t_nought : Meth K C "nought" f_nought
  b_nought : Binds K d_nought ["self"] []
  l_nought : fs.lookup ("nought" : Str) = none
  G_nought : FnOk P w K mg base CX0 40 f_nought d_nought ["self"] (spNul C fs S is S.zero)
  f_one : Addr
  d_one : FuncData
  t_one : Meth K C "one" f_one
  b_one : Binds K d_one ["self"] []
  l_one : fs.lookup ("one" : Str) = none
  G_one : FnOk P w K mg base CX0 40 f_one d_one ["self"] (spNul C fs S is S.one)
section
variable {P : Program} {w : World} {K : PySem.W.Frag} {mg : Str → Option Value} {base : Heap}
theorem KindR.neD (R : KindR P w K mg base) {H : Hp} {x y : V} {a b : R.S.W} {Q : VK} (hx : R.is H x a) (hy : R.is H y b) (e : a = b) (q : Q (.bl false) H) : rNeD K x y H Q :=
  ⟨_, _, R.isd hx, R.isd hy, R.S.sh _, R.S.sh _, R.S.nm _ _, by subst e; rw [R.S.eq]; exact q⟩
theorem KindR.neT (R : KindR P w K mg base) {H : Hp} {x y : V} {a b : R.S.W} {Q : VK} (hx : R.is H x a) (hy : R.is H y b) (e : a ≠ b) (q : Q (.bl true) H) : rNeD K x y H Q :=
  ⟨_, _, R.isd hx, R.isd hy, R.S.sh _, R.S.sh _, R.S.nm _ _, by rw [R.S.ne _ _ e]; exact q⟩
end
def IsF (H : Hp) (v : V) (a b : Int) : Prop := ∃ p, v = .ref p ∧ H p = some (.tup [.int a, .int b])
theorem IsF.same {H H' : Hp} {v : V} {a b : Int} (e : SameT H H') (h : IsF H v a b) : IsF H' v a b := by
  obtain ⟨p, rfl, h⟩ := h
  exact ⟨p, rfl, e _ _ h⟩
theorem IsF.is {K : PySem.W.Frag} {H : Hp} {v : V} {a b : Int} (h : IsF H v a b) : Is K H v (.tuple [.int a, .int b]) := by
  obtain ⟨p, rfl, h⟩ := h
  exact .tup (SqT.of h) (.cons (.int _) (.cons (.int _) .nil))
theorem IsF.new {H : Hp} {p : Addr} {a b : Int} : IsF (upd H p (.tup [.int a, .int b])) (.ref p) a b := ⟨p, rfl, upd_same⟩
def isRe (p : Int) (_ : Hp) (v : V) (x : Re p) : Prop := v = .int x.x
def pfs (p : Int) : List (Str × V) := putF "prime" (.int p) []
theorem pfs_prime (p : Int) : (pfs p).lookup ("prime" : Str) = some (.int p) := by
  unfold pfs
  rw [lookup_putF, if_pos rfl]
theorem pfs_no (p : Int) {m : Str} (h : ¬ m = "prime") : (pfs p).lookup m = none := by
  unfold pfs
  rw [lookup_putF, if_neg h]; rfl
theorem same_made {H : Hp} {C x dx : Addr} {fs : List (Str × V)} (n : H x = none) (m : H dx = none) : Same H (upd (upd H dx (.own x)) x (.ins C dx fs)) := fun b o e => by
  rw [upd_ne (ne_of_none e n), upd_ne (ne_of_none e m)]; exact e
theorem cut_take (xs : List V) (k : Nat) : cutV xs none (some (k : Int)) = xs.take k := by
  unfold cutV
  rw [HT.sIx_none, HT.sIx_nat, List.drop_zero, Nat.sub_zero]
  by_cases h : k ≤ xs.length
  · rw [Nat.min_eq_left h]
  · rw [Nat.min_eq_right (by omega), List.take_length, List.take_of_length_le (by omega)]
def KindR.Wt {P : Program} {w : World} {K : PySem.W.Frag} {mg : Str → Option Value} {base : Heap} (R : KindR P w K mg base) (x : Nat → R.S.W) (m : Nat) : Nat → V → Hp → Prop := fun j u H => R.is H u (x j) ∧ R.S.sz m (x j)
abbrev KindR.Row {P : Program} {w : World} {K : PySem.W.Frag} {mg : Str → Option Value} {base : Heap} (R : KindR P w K mg base) (n : Nat) (x : Nat → R.S.W) (m : Nat) : V → Hp → Prop := TupOf (R.Wt x m) n
abbrev KindR.Seq {P : Program} {w : World} {K : PySem.W.Frag} {mg : Str → Option Value} {base : Heap} (R : KindR P w K mg base) (n : Nat) (x : Nat → R.S.W) (m : Nat) : V → Hp → Prop := SeqOf K (R.Wt x m) n
abbrev KindR.Tab {P : Program} {w : World} {K : PySem.W.Frag} {mg : Str → Option Value} {base : Heap} (R : KindR P w K mg base) (h n : Nat) (x : Nat → Nat → R.S.W) (m : Nat) : V → Hp → Prop := TupOf (fun j u H => R.Row n (x j) m u H) h
section
variable {P : Program} {w : World} {K : PySem.W.Frag} {mg : Str → Option Value} {base : Heap} {R : KindR P w K mg base} {h n m : Nat} {x : Nat → R.S.W} {y : Nat → Nat → R.S.W} {v : V} {H H' : Hp}
theorem KindR.Wt.same (s : SameT H H') {j : Nat} (e : R.Wt x m j v H) : R.Wt x m j v H' := ⟨R.same s e.1, e.2⟩
theorem KindR.Row.same (s : SameT H H') (e : R.Row n x m v H) : R.Row n x m v H' := e.mono s fun _ _ _ q => KindR.Wt.same s q
theorem KindR.Seq.same (s : Same H H') (e : R.Seq n x m v H) : R.Seq n x m v H' := e.mono s fun _ _ _ q => KindR.Wt.same s.t q
theorem KindR.Tab.same (s : SameT H H') (e : R.Tab h n y m v H) : R.Tab h n y m v H' := e.mono s fun _ _ _ q => KindR.Row.same s q
end
end L2
namespace L2
open PySem PySem.Spec PyProof.Rows
end L2
namespace L2
open PySem PySem.Spec PyProof.Rows PySem.Builtin PySem.Builtin.Str
section
variable {X : Cx}
theorem ps_forget {st : Stmt} {t : TS} (i : Nat) (h : PS X st t) : PS X st (fun D σ H => t D (σ.set i none) H) := by
  intro pins s σ H D I q
  refine h pins s (σ.set i none) H D (I.weak List.length_set fun j v e => ?_) q
  by_cases z : i = j
  · subst z
    by_cases z2 : i < σ.length
    · rw [List.getElem?_set_self z2] at e; cases e
    · rw [List.getElem?_eq_none (by rw [List.length_set]; omega)] at e; cases e
  · rwa [List.getElem?_set_ne z] at e
end
end L2
namespace L2
open PySem PySem.Spec PyProof.Rows
end L2
namespace HT
open PySem PySem.Spec PyProof.Rows L2
section
variable {prog : Program} {w : World} {A : Around} {E : Value → Shared → Prop} {s : Shared}
theorem getItem_tuple_all {t sl : Addr} {items : Array Value} {vl vu : Value} {lo hi : Option Int} {Q : Value → Shared → Prop} (ht : IsTup s.heap t items) (hs : s.heap.IsSliceOf sl vl vu .none) (pl : IsPart vl lo) (pu : IsPart vu hi)
    (hw : sIx items.size 0 lo = 0 ∧ sIx items.size items.size hi = items.size) (h : Q (.ref t) s) : wpAny (model prog w) A (getItem (.ref t) (.ref sl)) Q E s := by
  obtain ⟨os, hos, hcs, hds⟩ := id hs
  have hTs : s.TypeIs (.ref sl) "slice" := ⟨os, hos, hcs⟩
  unfold getItem
  try with_reducible refine wpAny_holding ?_
  first | refine wpAny_bind (wpAny_pure ?_) | skip
  refine wpAny_bind (wpAny_sequenceKey ht.typeIs (by decide) ?_)
  refine wpAny_bind (wpAny_callSpecial?_slot (name := Str.ofString "__getitem__") ht.typeIs PyProof.Rows.slot_tuple_getitem
    (wpAny_call_entry PyProof.Rows.slot_tuple_getitem ht.typeIs entry_tuple_getitem ?_ (args_tuple_getitem _ _)))
  show wpAny _ _ (Builtin.Tuple.tupleItemsOf (.ref t) >>= _) _ _ s
  refine wpAny_bind (tupleItemsOf_ ht ?_)
  refine wpAny_bind (wpAny_typeOf hTs ?_)
  rw [if_pos (by decide)]
  refine wpAny_bind (sliceApplied_gen hs pl pu ?_)
  rw [hw.1, hw.2]
  have hyes : ((((0 : Nat) : Int) == 0 && (1 : Int) == 1 && (items.size - 0) == items.size) = true) := by simp
  show wpAny _ _ (if ((((0 : Nat) : Int) == 0 && (1 : Int) == 1 && (items.size - 0) == items.size) = true) then _ else _) _ _ s
  rw [if_pos hyes]
  refine wpAny_bind (wpAny_bind (m := typeOf (.ref t)) (wpAny_typeOf ht.typeIs (wpAny_pure ?_)))
  rw [if_pos (by decide)]
  refine wpAny_bind (wpAny_rule ?_)
  exact wpAny_pure ⟨_, rfl, wpAny_pure h⟩
end
end HT
namespace L2
open PySem PySem.Spec PyProof.Rows
def rSlTA (K : PySem.W.Frag) : V → Option Int → Option Int → Hp → VK → Prop := fun x lo hi H Q => ∃ a xs, x = .ref a ∧ SqT K H a xs ∧ H a = some (.tup xs) ∧
  ∀ p H', Same H H' → H' p = some (.tup (cutV xs lo hi)) → Q (.ref p) H'
theorem sl_tupA {X : Cx} : SlR X (rSlTA X.K) := by
  intro pins s σ H x v vl vu lo hi sl Q I rx hs pl pu h
  obtain ⟨a, xs, rfl, hx, hx', q⟩ := h
  by_cases hw : HT.sIx xs.length 0 lo = 0 ∧ HT.sIx xs.length xs.length hi = xs.length
  · cases rx
    obtain ⟨its, r, ht, hz⟩ := I.tuple hx
    have hlen : its.toArray.size = xs.length := by rw [List.size_toArray]; exact r.length.symm
    refine ⟨"tuple", _, PyProof.Rows.slot_tuple_getitem.lookup, ht.typeIs, ?_⟩
    refine HT.getItem_tuple_all ht hs pl pu (by rw [hlen]; exact hw) ?_
    refine ⟨.ref a, H, I, rfl, q a H (Same.refl _) ?_⟩
    rw [hx']
    unfold cutV
    rw [hw.1, hw.2, Nat.sub_zero, List.drop_zero, List.take_length]
  · exact sl_tup pins s σ H _ v vl vu lo hi sl Q I rx hs pl pu ⟨a, xs, rfl, hx, hw, fun p n => q p _ (same_upd n) upd_same⟩
end L2
namespace HT
open PySem PyProof.Rows
section
open PySem.SeqAt
open PySem.AutoSeq1 (wpAny_loadPart')
open PySem.MeetsSeq PySem.MeetsSeq2 PySem.MeetsSeq3
end
end HT
namespace L2
open PySem PySem.Spec PyProof.Rows PySem.SeqAt
section
variable {X : Cx}
theorem Vals.ints {ns : List Int} {us : List Value} (r : Vals (ns.map V.int) us) : ∀ (j : Nat) a, ns[j]? = some a → ∃ t, us.toArray[j]? = some (.int a t) := fun j a e => by
  obtain ⟨u, h1, t, h2⟩ := r.get (i := j) (x := .int a) (by rw [List.getElem?_map, e]; rfl)
  exact ⟨t, by rw [← h2, ← h1]; simp⟩
end
end L2
namespace L2
open PySem PySem.Spec PyProof.Rows PySem.SeqAt
section
variable {X : Cx}
end
end L2
namespace L2
open PySem PySem.Spec PyProof.Rows
section
variable {X : Cx}
def tMethD (X : Cx) (m : Str) (ta : TE) (t : TA) : TE := fun σ H Q => ta σ H fun x H1 => ∃ (a C dx : Addr) (fs : List (Str × V)) (f : Addr) (fd : FuncData) (ps : List Str) (sp : Sp) (k : Nat), x = .ref a ∧ H1 a = some (.ins C dx fs) ∧ fs.lookup m = none ∧ Cls X.K C ∧ Meth X.K C m f ∧
  FnOk X.prog X.w X.K X.mg X.base CX0 k f fd ps sp ∧ Room k X.A ∧ Binds X.K fd ps [] ∧ t σ H1 fun vs H2 => sp (x :: vs) H2 Q E0
variable {m : Str} {pos apos : Pos} {e o : Expr} {es : List Expr} {ta : TE} {t : TA} {tx : TX}
theorem pe_methD0 {pl : Sem Bool} (he : PE X o ta) (hx : Passes CX0 X E0)
    (ht : eval (.Call (.Attribute o m apos) [] [] pos) X.env = (do
      let ov ← eval o X.env
      standAt apos.atName
      let (f, first) ← holding [ov] (getMethod ov m pl)
      callWith pos f first (backTo pos (starEach [] X.env)) (backToKw pos (keywordEach [] X.env))) := by rfl) :
    PE X (.Call (.Attribute o m apos) [] [] pos) (tMethD X m ta tNil) := by
  intro pins s σ H Q I h
  refine PySem.W.methodCall_KW (pl := pl) (thn (he pins s σ H _ I h) fun u s1 ⟨x, H1, I1, rx, a, C, dx, fs, f, fd, ps, sp, k, ex, ea, l, c, hm, F, hr, hb, q⟩ => ?_) ht
  subst ex
  obtain rfl : u = Value.ref a := rx
  refine getmeth_ok I1 ea c hm l ?_
  exact PySem.W.callWith_K0 (first := [.ref a]) I1.kIn hm.kp (run_fn (us := [.ref a]) (vs := [.ref a]) (dvs := []) F hr hb .nil hx I1 (.cons rfl .nil) (by rw [List.append_nil]; exact q))
end
end L2
namespace L2
open PySem PySem.Spec PyProof.Rows PySem.W
structure Tb (mg : Str → Option Value) (h : Heap) (c P : Addr) : Prop where
  cd : CodeHd h c P
  bl : h.BuiltinsAt mg P
  gl : mainGlobals ≠ P
section
variable {P : Program} {w : World} {H : Hp} {h h' : Heap} {p : Addr} {ps qs : Array Value}
theorem HOk.tab (x : HOk P w H h) (hp : H p = some (.tbl ps)) (hx : Heap.ExtBut p h h') (e : h'.get? p = some (tabObj qs)) : HOk P w (upd H p (.tbl qs)) h' := fun b u q => by
  have own : ∀ c a, H c = some (.own a) → upd H p (.tbl qs) c = some (.own a) := fun c a z => by rw [upd_ne (ne_of z hp (by simp))]; exact z
  have tup : ∀ c xs, H c = some (.tup xs) → upd H p (.tbl qs) c = some (.tup xs) := fun c xs z => by rw [upd_ne (ne_of z hp (by simp))]; exact z
  by_cases hb : b = p
  · subst hb; rw [upd_same] at q; cases q; exact e
  · rw [upd_ne hb] at q
    refine (x b u q).stay (fun c o hc z => hx c o ?_ z) (fun c z => own c b z) tup
    rcases hc with rfl | hc
    · exact hb
    · exact ne_of hc hp (by simp)
theorem Un.tab {fs ex : List Addr} (hp : H p = some (.tbl ps)) (hx : Heap.ExtBut p h h') (e : h'.get? p = some (tabObj (ps ++ qs))) : Un fs ex H (upd H p (.tbl (ps ++ qs))) h h' where
  keep := fun b o q n _ _ => hx b o (fun z => by rw [z, hp] at n; cases n) q
  slot := fun b o q n _ _ => ⟨o.slots, hx b o (fun z => by rw [z, hp] at n; cases n) q⟩
  free := fun b o q n _ => by rw [upd_ne (fun z => by rw [z, hp] at n; cases n)]; exact n
  there := fun b o q _ => by
    by_cases hb : b = p
    · exact ⟨_, hb ▸ e⟩
    · exact ⟨o, hx b o hb q⟩
  tups := fun b xs z => by rw [upd_ne (ne_of z hp (by simp))]; exact z
  frzs := fun b o u z => by rw [upd_ne (ne_of z hp (by simp))]; exact z
  tbls := fun b qs' z => by
    by_cases hb : b = p
    · subst hb; rw [hp] at z; cases z; exact ⟨qs, upd_same⟩
    · exact ⟨#[], by rw [upd_ne hb, z]; simp⟩
end
section
variable {X : Cx} {pins : List (Addr × Obj)} {σ : St} {H : Hp} {s : Shared}
theorem Tb.keeps {mg : Str → Option Value} {h h' : Heap} {c P : Addr} (t : Tb mg h c P) (k : ∀ b o, h.get? b = some o → h'.get? b = some o) : Tb mg h' c P :=
  ⟨t.cd.keeps k, let ⟨bm, o, a1, a2, a3, a4, a5, r⟩ := t.bl; ⟨bm, o, a1, a2, a3, a4, k _ _ a5, r⟩, t.gl⟩
theorem ext_push {P : Addr} {h h' : Heap} {o : Obj} (hx : Heap.ExtBut P h h') : Heap.ExtBut P h (h'.push o) := fun b u hb e => Heap.get?_push_of_some _ (hx b u hb e)
def tDef (i : Nat) (P : Addr) (pos : Pos) : TS := fun D σ H => ∃ ps, H P = some (.tbl ps) ∧ TriplesOk ps.toList ∧ codeAmong pos ps.toList = none ∧ ∀ f qs, D.nx (σ.set i (some (.ref f))) (upd H P (.tbl (ps ++ qs)))
theorem ps_def {i : Nat} {name : Str} {params : Arguments} {body : List Stmt} {scope : Scope} {pos : Pos} {c P : Addr} (hN : X.N.Nodup) (hi : X.N[i]? = some name) (hx : Loc X.env.scope name) (tb : Tb X.mg X.base c P) (hcode : X.env.code = .ref c)
    (hd0 : params.defaults = []) (hk0 : params.kw_defaults = []) (ha : annTrees params none X.env = []) (hfr : ∀ y ∈ scope.names, y.2 = .free → X.env.scope.names.lookup y.1 = some .cell ∨ X.env.scope.names.lookup y.1 = some .free)
    (hf : X.fn name = true ∨ X.env.scope.names.lookup name = some .local := by first | exact .inl rfl | exact .inr rfl | assumption) :
    PS X (.FunctionDef name params body [] none [] scope none name pos) (tDef i P pos) := by
  intro pins s σ H D I h
  obtain ⟨ps, hP, ht, hnf, q⟩ := h
  have tb' := tb.keeps I.bk
  have hcl := clo_closure (env := X.env) (scope := scope) fun n hn => I.ok.has n (hfr _ hn rfl)
  have hPo : s.heap.get? P = some (tabObj ps) := I.hok P _ hP
  refine nestDef_K hd0 hk0 ha (makeFunction_K (mg := X.mg) hcl I.ok.glob (I.mod.glob.keeps I.bk) hcode tb'.cd hPo ht hnf tb'.gl tb'.bl fun c' ctv doc h' tk hx' hge hlt hrec htb => ?_)
  have hlt' : P ≠ h'.objs.size := Nat.ne_of_lt (Heap.lt_size htb)
  have e : (h'.push (fnMade name (qualnameIn X.env name name) params body scope (cloOf X.env.cells scope.names []) doc ((X.mg "__name__").getD .none) c' ctv)).get? P = some (tabObj (ps ++ #[rawInt pos.line, rawInt pos.col, .ref c'])) := Heap.get?_push_of_some _ htb
  have I' := I.un (t' := tk) (Un.tab (fs := X.fs) (ex := []) hP (ext_push hx') e) (I.hok.tab hP (ext_push hx') e)
  exact store_ok I' hN hi hx (v := V.ref h'.objs.size) rfl (fun s2 I2 => ⟨_, _, I2, q _ _⟩) hf
end
def OnlyT (ts : List Addr) (H : Hp) : Prop := ∀ p ∈ ts, H p = some (.tbl #[])
theorem tabIn_code {K : Frag} {x qual : Str} {st : Stmt} {f c P : Addr} {fd : FuncData} {oc : Value} {od : Option Addr} {osl : Array (Option Value)} (ht : tabIn K x = some (c, P)) (hn : nsIn K mainGlobals x = some (some (.ref f))) (lk : K.lookup f = some ⟨oc, od, .func fd, osl⟩) : fd.code = .ref c := by
  unfold tabIn at ht
  rw [hn] at ht
  simp only [lk] at ht
  split at ht
  · rename_i c₂ hc
    split at ht
    · split at ht
      · cases ht; exact hc
      · cases ht
    · cases ht
  · cases ht
section
variable {P : Program} {w : World} {K : PySem.W.Frag} {mg : Str → Option Value} {base : Heap}
theorem Fun.okC {x qual : Str} {st : Stmt} {f c p : Addr} {fd : FuncData} {N ps : List Str} {k : Nat} {sp : Sp} (F : Fun K x qual st f fd) (S : FnScope N ps (defScope st)) (ht : tabIn K x = some (c, p)) (hn : nsIn K mainGlobals x = some (some (.ref f))) (len : ∀ vs H Q E, sp vs H Q E → vs.length = ps.length)
    (hbody : ∀ (A : Around) (outer : List Env) (s : Shared) (H : Hp) (vs : List V) (Q : VK) (E : XK), Room k (A.deeper (envOfC qual (defScope st) s.heap.objs.size f (.ref c))) → sp vs H Q E →
      ∃ t, PSs (cxOf CX0 P w K mg base N qual (defScope st) f (.ref c) A outer s H E).nox (defBody st) t ∧ t { nx := fun _ H' => Q .non H', rt := Q } (start N vs) H) : FnOk P w K mg base CX0 (k + 1) f fd ps sp := by
  obtain ⟨oc, od, kV, doc, pm, an, cdv, ct, osl, rfl, lk, hcd⟩ := F.ex
  have hc : cdv = .ref c := tabIn_code (st := st) (qual := qual) ht hn lk
  subst hc
  refine fn_of lk hcd S len fun A outer s H vs Q E hr hsp => ?_
  obtain ⟨t, h, q⟩ := hbody A outer s H vs Q E hr hsp
  exact ⟨t, h.nox, q⟩
end
theorem law_callT {P : Program} {w : World} {K : PySem.W.Frag} {mg mb : Str → Option Value} {CX : CXT} {k : Nat} {fa a : Addr} {fd : FuncData} {x : Str} {sp : Sp} {s₁ : Shared} {vs : List Value} {ns : List Int} {tabs : List (Addr × Addr)}
    (KX : K.In s₁.heap) (hns : s₁.heap.Ns mainGlobals mg) (hb : s₁.heap.Ns builtinsNs mb) (hbb : ∀ x : Str, x ≠ "__name__" → mb x = bootBuiltins x) (hlim : s₁.heap.NoLimit) (hsee : s₁.heap.NoSeer) (hg : s₁.gens = #[])
    (ha : s₁.heap.get? a = some { cls := .type "list", data := .seq vs.toArray }) (hi : IntsAre vs ns) (hl : ns.length ≤ sizeLine) (hr : Room k callerA)
    (hT : ∀ q ∈ tabs, Tb mg s₁.heap q.1 q.2 ∧ s₁.heap.TableAt q.1 q.2 #[] ∧ K.lookup q.2 = none)
    (F : ∀ base : Heap, K.In base → base.Ns mainGlobals mg → (∀ q ∈ tabs, Tb mg base q.1 q.2) → FnOk P w K mg base CX k fa fd [x] sp) (hbind : ∀ (s : Shared) (u : Value), BindsTo s fd ⟨[u], []⟩ [(x, u)])
    (hsp : ∀ H : Hp, OnlyT (tabs.map (·.2)) H → SqL K H a (ns.map V.int) → sp [.ref a] H (fun v _ => v = .bl true) fun _ _ _ => False)
    (hCX : ∀ H e s', CX [] H s₁ (fun _ _ _ => False) e s' → False) :
    codeAny (model P w) callerA (.call (.ref fa) ⟨[.ref a], []⟩) (fun r s' => r = .ok (.ret (.bool true)) ∧ OldK s₁.heap s'.heap ∧ s'.os = s₁.os ∧ AllBare s'.gens) s₁ := by
  have rv := vals_ints hi
  have lenV := hi.length
  have hTp : ∀ p ∈ tabs.map (·.2), s₁.heap.get? p = some (tabObj #[]) ∧ K.lookup p = none ∧ ∃ c, s₁.heap.TableAt c p #[] := fun p hp => by
    obtain ⟨q, hq, rfl⟩ := List.mem_map.mp hp
    exact ⟨(hT q hq).2.1.2, (hT q hq).2.2, _, (hT q hq).2.1⟩
  -- nothing but the script and the tables may be tracked
  have core : ∀ H : Hp, (∀ b, H b = none ∨ (∃ o xs, H b = some (.frz o (.lst xs)) ∧ b = a ∧ K.lookup a = none) ∨ (H b = some (.tbl #[]) ∧ b ∈ tabs.map (·.2))) → OnlyT (tabs.map (·.2)) H → SqL K H a (ns.map V.int) → HOk P w H s₁.heap →
      codeAny (model P w) callerA (.call (.ref fa) ⟨[.ref a], []⟩) (fun r s' => r = .ok (.ret (.bool true)) ∧ OldK s₁.heap s'.heap ∧ s'.os = s₁.os ∧ AllBare s'.gens) s₁ := by
    intro H hO hOT hS hok
    have base_of : ∀ {b : Addr} {o : Obj}, s₁.heap.get? b = some o → H b = none → (hidT s₁.heap H).get? b = some o := fun e n => hidT_get e n
    have isA : ∀ {b : Addr} {o : Obj}, s₁.heap.get? b = some o → o.cls ≠ .none → o.cls ≠ .type "list" → H b = none := fun {b o} e c1 c2 => by
      rcases hO b with z | ⟨_, _, _, rfl, _⟩ | ⟨_, hm⟩
      · exact z
      · rw [ha] at e; cases e; exact absurd rfl c2
      · rw [(hTp _ hm).1] at e; cases e; exact absurd rfl c1
    have noA : ∀ {b : Addr} {o : Obj} {es : Array DictEntry} {ep : Nat}, s₁.heap.get? b = some o → o.data = .dict es ep → H b = none := fun {b o es ep} e d => by
      rcases hO b with z | ⟨_, _, _, rfl, _⟩ | ⟨_, hm⟩
      · exact z
      · rw [ha] at e; cases e; cases (show Data.seq vs.toArray _ = Data.dict es ep from d)
      · rw [(hTp _ hm).1] at e; cases e; cases (show Data.fields #[] = Data.dict es ep from d)
    have nsK : ∀ {b : Addr} {m : Str → Option Value}, s₁.heap.Ns b m → (hidT s₁.heap H).Ns b m := fun {b m} ⟨o, es, ep, e, d, r⟩ => ⟨o, es, ep, base_of e (noA e d), d, r⟩
    have hKb : K.In (hidT s₁.heap H) := fun b o e => base_of (KX b o e) (by
      rcases hO b with z | ⟨_, _, _, rfl, hk⟩ | ⟨_, hm⟩
      · exact z
      · rw [hk] at e; cases e
      · rw [(hTp _ hm).2.1] at e; cases e)
    have ty : ∀ {x y : String}, x ≠ y → Value.type x ≠ Value.type y := fun n z => by injection z with z; exact n z
    have hM : Mod K mg (hidT s₁.heap H) := ⟨hKb, nsK hns, ⟨mb, nsK hb, hbb⟩, let ⟨mc, h1, h2⟩ := hlim; ⟨mc, nsK h1, h2⟩,
      ⟨let ⟨mc, h1, h2⟩ := hsee.statics; ⟨mc, nsK h1, h2⟩, let ⟨mc, h1, h2⟩ := hsee.mods; ⟨mc, nsK h1, h2⟩, let ⟨mc, h1, h2⟩ := hsee.imp; ⟨mc, nsK h1, h2⟩, by
        obtain ⟨mg', bm, ob, n1, n2, n3, n4, n5⟩ := hsee.main
        exact ⟨mg', bm, ob, nsK n1, n2, base_of n3 (isA n3 (by rw [n4]; nofun) (by rw [n4]; exact ty (by decide))), n4, n5⟩⟩⟩
    have e0 : Env0 P w K mg (hidT s₁.heap H) callerA [] s₁ H := ⟨rfl, hM, fun b o e => of_hidT e, Nat.le_of_eq (hidT_size _ _), trivial, fun b hb => absurd (show b ∈ ([] : List Addr) from hb) (by simp), hok, .of_eq hg⟩
    have hTb : ∀ q ∈ tabs, Tb mg (hidT s₁.heap H) q.1 q.2 := fun q hq => by
      obtain ⟨o, ws, file, tf, flags, tg, inF, text, tt, e1, r1, r2⟩ := (hT q hq).1.cd
      obtain ⟨bm, ob, a1, a2, a3, a4, a5, a6, a7⟩ := (hT q hq).1.bl
      exact ⟨⟨o, ws, file, tf, flags, tg, inF, text, tt, base_of e1 (isA e1 (by rw [r1]; nofun) (by rw [r1]; exact ty (by decide))), r1, r2⟩, ⟨bm, ob, a1, a2, a3, a4, base_of a5 (isA a5 (by rw [a6]; nofun) (by rw [a6]; exact ty (by decide))), a6, a7⟩, (hT q hq).1.gl⟩
    refine codeAny_mono ((F _ hKb (nsK hns) hTb).run callerA [] s₁ H ⟨[.ref a], []⟩ [.ref a] [.ref a] _ _ hr e0 (hbind s₁ (.ref a)) (.cons rfl .nil) (hsp H hOT hS)) fun r s' h => ?_
    cases r with
    | error e => exact (hCX H e s' h).elim
    | ok fl =>
      cases fl with
      | next => exact False.elim h
      | brk => exact False.elim h
      | cont => exact False.elim h
      | ret u =>
        obtain ⟨v, H', os, bare, un, hok', r', q⟩ := h
        have q' : v = .bl true := q
        subst q'
        obtain rfl : u = Value.bool true := r'
        refine ⟨rfl, ⟨fun b o e => ?_, fun b o e => un.there b o e (by simp)⟩, os, bare⟩
        rcases hO b with z | ⟨ob, xs, z, _, _⟩ | ⟨z, hm⟩
        · exact .inl (un.keep b o e z (by intro z; exact absurd (show b ∈ ([] : List Addr) from z) (by simp)) (by simp))
        · have z2 := un.frzs b ob _ z
          obtain ⟨e1, _⟩ := hok b _ z
          obtain ⟨e2, _⟩ := hok' b _ z2
          rw [e] at e1; cases e1
          exact .inl e2
        · obtain ⟨g1, _, c, g3⟩ := hTp b hm
          rw [g1] at e; cases e
          obtain ⟨more, z2⟩ := un.tbls b _ z
          exact .inr (.inl ⟨g3.isCodeTable, rfl, #[], more, rfl, hok' b _ z2⟩)
  have aT : a ∉ tabs.map (·.2) := fun z => by have e := (hTp a z).1; rw [ha] at e; cases e
  cases hk : K.lookup a with
  | some o =>
    have e := KX a o hk
    rw [ha] at e
    cases e
    refine core (fun b => if b ∈ tabs.map (·.2) then some (.tbl #[]) else none) (fun b => ?_) (fun p hp => if_pos hp) (.inr ⟨_, vs.toArray, _, hk, rfl, rfl, rfl, by rw [List.size_toArray, lenV]; exact hl, by simpa using rv⟩) fun b u z => ?_
    · by_cases hb : b ∈ tabs.map (·.2)
      · exact .inr (.inr ⟨if_pos hb, hb⟩)
      · exact .inl (if_neg hb)
    · by_cases hb : b ∈ tabs.map (·.2)
      · have z' := (if_pos hb).symm.trans z
        cases z'
        exact (hTp b hb).1
      · have z' := (if_neg hb).symm.trans z
        cases z'
  | none =>
    refine core (fun b => if b = a then some (.frz { cls := .type "list", data := .seq vs.toArray } (.lst (ns.map V.int))) else if b ∈ tabs.map (·.2) then some (.tbl #[]) else none) (fun b => ?_) (fun p hp => ?_) (.inl (.inr ⟨{ cls := .type "list", data := .seq vs.toArray }, if_pos rfl⟩)) fun b u z => ?_
    · by_cases hb : b = a
      · exact .inr (.inl ⟨_, _, if_pos hb, hb, hk⟩)
      · by_cases hb' : b ∈ tabs.map (·.2)
        · exact .inr (.inr ⟨(if_neg hb).trans (if_pos hb'), hb'⟩)
        · exact .inl ((if_neg hb).trans (if_neg hb'))
    · exact (if_neg (fun e : p = a => aT (by rw [← e]; exact hp))).trans (if_pos hp)
    · by_cases hb : b = a
      · have z' := (if_pos hb).symm.trans z
        cases z'
        subst hb
        exact ⟨ha, by rw [List.length_map]; exact hl, vs, _, rv, ha⟩
      · have z' := (if_neg hb).symm.trans z
        by_cases hb' : b ∈ tabs.map (·.2)
        · have z2 := (if_pos hb').symm.trans z'
          cases z2
          exact (hTp b hb').1
        · have z2 := (if_neg hb').symm.trans z'
          cases z2
theorem noTabs_lookup {K : Frag} (hK : noTabs K = true) {P : Addr} {h : Heap} {ps : Array Value} (X : K.In h) (e : h.get? P = some (tabObj ps)) : K.lookup P = none := by
  cases q : K.lookup P with
  | none => rfl
  | some o =>
    have e2 := X _ _ q
    rw [e] at e2
    cases e2
    have h2 := List.all_eq_true.mp hK (P, tabObj ps) (mem_of_lookupK q)
    exact absurd (show false = true from h2) Bool.false_ne_true
theorem walk_ofT {l : PySem.W.OpenLaw} {n k : Nat} {q : Program} {loose : List Str} {XP : (Str → Option Value) → Heap → Prop} {YP : World → Heap → Prop} {d : DefRec} {K : Params → PySem.W.Frag} {CX : CXT} {sp : PySem.W.Frag → Sp} {x : Str} (nms : List Str)
    (hn : l.most = some n) (hn2 : n ≤ sizeLine) (hdf : d.params.defaults = []) (hr : Room k callerA) (hq : importsNone q = true)
    (hY : ∀ (w : World) (h : Heap), YP w h → (K w.params).In h)
    (hnt : ∀ w : World, noTabs (K w.params) = true) (hrec : ∀ y ∈ nms, ((recsOf q).find? (fun e => e.name == y)).isSome = true)
    (F : ∀ (w : World) (mg : Str → Option Value) (fa : Addr) (h : Heap), (K w.params).In h → h.Ns mainGlobals mg → mg d.name = some (.ref fa) →
      ∃ fd : FuncData, (∀ (s : Shared) (u : Value), BindsTo s fd ⟨[u], []⟩ [(x, u)]) ∧
        ∀ base : Heap, (K w.params).In base → base.Ns mainGlobals mg → (∀ y ∈ nms, ∀ c P, tabIn (K w.params) y = some (c, P) → Tb mg base c P) → FnOk l.prog w (K w.params) mg base CX k fa fd [x] (sp (K w.params)))
    (hsp : ∀ (K : PySem.W.Frag) (H : Hp) (a : Addr) (ns : List Int), ns.length ≤ n → (∀ y ∈ nms, ∀ c P, tabIn K y = some (c, P) → H P = some (.tbl #[])) → SqL K H a (ns.map V.int) → sp K [.ref a] H (fun v _ => v = .bl true) fun _ _ _ => False)
    (hCX : ∀ (H : Hp) (s : Shared) (e : Value) (s' : Shared), CX [] H s (fun _ _ _ => False) e s' → False) :
    PySem.W.WalkO q loose XP YP l.row.toRowW d [] (fun f vs => PySem.call f vs) := by
  refine Att.attach_call hn hdf fun w s₀ s₁ mg mb fa o pm cd doc a vs ns G Y ho hd hcd hmg hobj hints hlen hg => ?_
  have KX := hY w _ Y
  obtain ⟨fd, hb, hF⟩ := F w mg fa _ KX G.T.g hmg
  have hmem : ∀ {y c P}, y ∈ nms → tabIn (K w.params) y = some (c, P) → (c, P) ∈ nms.filterMap (tabIn (K w.params)) := fun hy ht => List.mem_filterMap.mpr ⟨_, hy, ht⟩
  refine law_callT (tabs := nms.filterMap (tabIn (K w.params))) KX G.T.g G.T.b G.T.builtins G.T.nolimit (G.T.seer hq) hg hobj hints (Nat.le_trans hlen hn2) hr (fun t ht => ?_) (fun base kb nb hT => hF base kb nb fun y hy c P e => hT (c, P) (hmem hy e)) hb (fun H hO hS => hsp (K w.params) H a ns hlen (fun y hy c P e => hO P (List.mem_map.mpr ⟨(c, P), hmem hy e, rfl⟩)) hS) fun H e s' => hCX H s₁ e s'
  obtain ⟨y, hy, ht⟩ := List.mem_filterMap.mp ht
  obtain ⟨c, P⟩ := t
  obtain ⟨r, hr'⟩ := Option.isSome_iff_exists.mp (hrec y hy)
  obtain ⟨C, e⟩ := tab_of G.T KX hr' ht
  obtain ⟨bm, ob, b1, b2, b3, b4, b5, b6⟩ := G.T.bmain
  have gP : mainGlobals ≠ P := fun z => by
    obtain ⟨o', es, ep, e', hd', _⟩ := G.T.g
    rw [z, e] at e'; cases e'; cases hd'
  have bP : bm ≠ P := fun z => by
    rw [z, e] at b3; cases b3; cases b4
  have bG : bm ≠ mainGlobals := fun z => by
    obtain ⟨o', es, ep, e', hd', _⟩ := G.T.g
    rw [z, e'] at b3; cases b3
    rw [b6] at hd'; cases hd'
  exact ⟨⟨C, ⟨bm, ob, b1, b2, bG, bP, b3, b4, b5, b6⟩, gP⟩, C.tab e, noTabs_lookup (hnt w) KX e⟩
def rIsxT (K : PySem.W.Frag) : List V → Hp → VK → Prop := fun xs H Q => ∃ a C tp, ∃ (cs : List Addr), ∃ b, xs = [.ref a, .ref tp] ∧ H a = some (ExcO a C) ∧ ExcK K C ∧ H tp = some (.tup (cs.map V.ref)) ∧ PySem.W.kitAny K (.ref C) (cs.map Value.ref) = some b ∧ Q (.bl b) H
theorem vals_refs : ∀ {cs : List Addr} {its : List Value}, Vals (cs.map V.ref) its → its = cs.map Value.ref
  | [], _, .nil => rfl
  | c :: r, _, .cons e t => by
    cases (show _ = Value.ref c from e)
    rw [vals_refs t]; rfl
theorem call_isxT {X : Cx} : CallR X (.builtin "isinstance") (rIsxT X.K) := by
  intro pins s σ H xs us Q I r h
  obtain ⟨a, C, tp, cs, b, rfl, ea, ek, et, e, q⟩ := h
  cases r with
  | cons rx r1 =>
    cases r1 with
    | cons ry r2 =>
      cases r2
      cases (show _ = Value.ref a from rx)
      cases (show _ = Value.ref tp from ry)
      obtain ⟨p, _, _⟩ := (show ObjOk X.prog X.w H s.heap a (ExcO a C) from I.hok a _ ea)
      obtain ⟨_, its, rv, ⟨o, eo, hc, n, hd⟩, _⟩ := (show ObjOk X.prog X.w H s.heap tp (.tup (cs.map V.ref)) from I.hok tp _ et)
      cases vals_refs rv
      obtain ⟨cl, dd, dt, sl⟩ := o
      cases hc
      cases hd
      exact PySem.W.kia_tup (Mine.kitx_exc ek.ga ek.gt ek.cl ek.ob ek.be) I.kIn p eo e (fun z => nomatch z) fun tk => ⟨.bl b, H, I.tok _, rfl, q⟩
theorem call_isxTK {X : Cx} (K : PySem.W.Frag) (h : X.K = K) : CallR X (.builtin "isinstance") (rIsxT K) := h ▸ call_isxT
end L2

set_option maxHeartbeats 0
lay_quick PySem.Challenge.pw_weighwalk_k34_fields_alone
namespace H34
open PySem PySem.W
noncomputable section
abbrev q0 := SL.s658472552662922059x5
abbrev q1 := SL.s14018661285674007319x4
abbrev q2 := SL.s7097527257260152453x26
abbrev q3 := SL.s6070975301684473832x10
abbrev q4 := SL.s11030030927630378310x26
abbrev q5 := SL.s10062305145149207511x16
abbrev q6 := SL.s17162191345867700912x4
abbrev q7 := SL.s5946037652744460706x9
abbrev q8 := SL.s4278001404047624695x13
abbrev q9 := SL.s2742458400755230247x6
abbrev q10 := SL.s4209523147560561109x18
abbrev q11 := SL.s14755015743595814543x17
abbrev q12 := SL.s4290257624100764138x5
abbrev q13 := SL.s4860613602091757760x24
abbrev q14 := SL.s11443829558043349243x14
def i (n : Int) : Value := .int n 0
def r (n : Addr) : Value := .ref n
def tu (a : Array Value) (n : Nat) : Obj := ⟨.type SL.s2766695959194262286x5, none, .seq a n, #[]⟩
def co (a : Array Value) : Obj := ⟨.type SL.s5856160107412720595x4, none, .fields a, #[]⟩
def fo (n q : Str) (s : Stmt) (m c : Value) : Obj := ⟨.type SL.s7174869446012820540x8, none, .func ⟨n, q, L2.defArgs s, .stmts (L2.defBody s), L2.defScope s, 3, [], .none, .none, .none, m, none, c, .none, 0⟩, #[]⟩
def f0 (n q : Str) (s : Stmt) : Obj := ⟨.none, none, .func ⟨n, q, L2.defArgs s, .stmts (L2.defBody s), L2.defScope s, 0, [], .none, .none, .none, .none, none, .none, .none, 0⟩, #[]⟩
abbrev nd := @BT.node
abbrev nl := BT.nil
abbrev lf (x : Obj) : BT := .node x .nil .nil
abbrev kh := @PySem.PyData.keyHash
def topT (i : Nat) : Stmt := Fast.tw14804236204062971000.main.body.getD i (.Pass ⟨0, 0, 0, 0⟩)
def s0 : Str := ⟨⟨[60, 109, 111, 100, 117, 108, 101, 62]⟩⟩
def s1 : Str := ⟨⟨[47, 99, 108, 97, 105, 109, 47, 99, 117, 116, 46, 112, 121]⟩⟩
def s2 : Str := ⟨⟨[95, 95, 109, 97, 105, 110, 95, 95]⟩⟩
def s3 : Str := ⟨⟨[95, 95, 110, 97, 109, 101, 95, 95]⟩⟩
def s4 : Str := ⟨⟨[119, 101, 105, 103, 104, 119, 97, 108, 107, 46, 115, 112, 97, 110, 115]⟩⟩
def s5 : Str := ⟨⟨[95, 95, 100, 111, 99, 95, 95]⟩⟩
def s6 : Str := ⟨⟨[95, 95, 112, 97, 99, 107, 97, 103, 101, 95, 95]⟩⟩
def s7 : Str := ⟨⟨[95, 95, 108, 111, 97, 100, 101, 114, 95, 95]⟩⟩
def s8 : Str := ⟨⟨[95, 95, 115, 112, 101, 99, 95, 95]⟩⟩
def s9 : Str := ⟨⟨[95, 95, 97, 110, 110, 111, 116, 97, 116, 105, 111, 110, 115, 95, 95]⟩⟩
def s10 : Str := ⟨⟨[95, 95, 98, 117, 105, 108, 116, 105, 110, 115, 95, 95]⟩⟩
def s11 : Str := ⟨⟨[95, 95, 102, 105, 108, 101, 95, 95]⟩⟩
def s12 : Str := ⟨⟨[95, 95, 99, 97, 99, 104, 101, 100, 95, 95]⟩⟩
def s13 : Str := ⟨⟨[95, 119, 97, 108, 108]⟩⟩
def s14 : Str := ⟨⟨[87, 101, 105, 103, 104, 69, 114, 114, 111, 114]⟩⟩
def s15 : Str := ⟨⟨[78, 111, 75, 105, 110, 100]⟩⟩
def s16 : Str := ⟨⟨[87, 114, 111, 110, 103, 75, 105, 110, 100]⟩⟩
def s17 : Str := ⟨⟨[78, 111, 87, 101, 105, 103, 104, 116]⟩⟩
def s18 : Str := ⟨⟨[78, 111, 87, 111, 114, 100]⟩⟩
def s19 : Str := ⟨⟨[85, 110, 108, 105, 107, 101]⟩⟩
def s20 : Str := ⟨⟨[78, 111, 67, 108, 111, 115, 117, 114, 101]⟩⟩
def s21 : Str := ⟨⟨[84, 111, 111, 71, 114, 101, 97, 116]⟩⟩
def s22 : Str := ⟨⟨[78, 111, 84, 101, 120, 116]⟩⟩
def s23 : Str := ⟨⟨[78, 111, 78, 97, 109, 101]⟩⟩
def s24 : Str := ⟨⟨[78, 111, 82, 111, 119]⟩⟩
def s25 : Str := ⟨⟨[110, 111, 117, 103, 104, 116, 115]⟩⟩
def s26 : Str := ⟨⟨[117, 110, 105, 116]⟩⟩
def s27 : Str := ⟨⟨[116, 105, 109, 101, 115, 95, 114, 111, 119]⟩⟩
def s28 : Str := ⟨⟨[99, 111, 108, 117, 109, 110, 95, 97, 116]⟩⟩
def s29 : Str := ⟨⟨[99, 111, 108, 117, 109, 110, 115, 95, 111, 102]⟩⟩
def s30 : Str := ⟨⟨[100, 111, 116]⟩⟩
def s31 : Str := ⟨⟨[114, 111, 119, 95, 98, 121]⟩⟩
def s32 : Str := ⟨⟨[98, 121, 95, 99, 111, 108, 117, 109, 110]⟩⟩
def s33 : Str := ⟨⟨[98, 121, 95, 116, 97, 98, 108, 101]⟩⟩
def s34 : Str := ⟨⟨[110, 101, 101, 100, 95, 102, 105, 101, 108, 100]⟩⟩
def s35 : Str := ⟨⟨[108, 101, 97, 100, 105, 110, 103]⟩⟩
def s36 : Str := ⟨⟨[112, 108, 117, 115, 95, 114, 111, 119]⟩⟩
def s37 : Str := ⟨⟨[99, 108, 101, 97, 114, 101, 100]⟩⟩
def s38 : Str := ⟨⟨[107, 101, 101, 112]⟩⟩
def s39 : Str := ⟨⟨[107, 101, 112, 116, 95, 114, 111, 119, 115]⟩⟩
def s40 : Str := ⟨⟨[119, 105, 100, 116, 104, 95, 111, 102]⟩⟩
def s41 : Str := ⟨⟨[101, 99, 104, 101, 108, 111, 110]⟩⟩
def s42 : Str := ⟨⟨[109, 97, 114, 107, 101, 100]⟩⟩
def s43 : Str := ⟨⟨[107, 101, 112, 116, 95, 109, 97, 114, 107, 101, 100]⟩⟩
def s44 : Str := ⟨⟨[112, 97, 114, 116, 115, 95, 98, 121]⟩⟩
def s45 : Str := ⟨⟨[112, 97, 114, 116, 115]⟩⟩
def s46 : Str := ⟨⟨[107]⟩⟩
def s47 : Str := ⟨⟨[95, 95, 109, 111, 100, 117, 108, 101, 95, 95]⟩⟩
def s48 : Str := ⟨⟨[119, 101, 105, 103, 104, 119, 97, 108, 107, 46, 101, 114, 114, 111, 114, 115]⟩⟩
def s49 : Str := ⟨⟨[95, 95, 113, 117, 97, 108, 110, 97, 109, 101, 95, 95]⟩⟩
def s50 : Str := ⟨⟨[95, 95, 102, 105, 114, 115, 116, 108, 105, 110, 101, 110, 111, 95, 95]⟩⟩
def s51 : Str := ⟨⟨[95, 95, 115, 116, 97, 116, 105, 99, 95, 97, 116, 116, 114, 105, 98, 117, 116, 101, 115, 95, 95]⟩⟩
def s52 : Str := ⟨⟨[95, 95, 119, 101, 97, 107, 114, 101, 102, 95, 95]⟩⟩
def s53 : Str := ⟨⟨[119, 101, 105, 103, 104, 119, 97, 108, 107, 46, 116, 97, 98, 108, 101, 115]⟩⟩
def s54 : Str := ⟨⟨[107, 105, 110, 100]⟩⟩
def s55 : Str := ⟨⟨[114, 111, 119]⟩⟩
def s56 : Str := ⟨⟨[99, 111, 108, 117, 109, 110]⟩⟩
def s57 : Str := ⟨⟨[116, 111, 116, 97, 108]⟩⟩
def s58 : Str := ⟨⟨[120]⟩⟩
def s59 : Str := ⟨⟨[121]⟩⟩
def s60 : Str := ⟨⟨[119, 105, 100, 116, 104]⟩⟩
def s61 : Str := ⟨⟨[112, 108, 97, 99, 101]⟩⟩
def s62 : Str := ⟨⟨[107, 101, 112, 116]⟩⟩
def s63 : Str := ⟨⟨[114, 101, 115, 116]⟩⟩
def s64 : Str := ⟨⟨[111, 116, 104, 101, 114]⟩⟩
def s65 : Str := ⟨⟨[114, 111, 119, 115]⟩⟩
def s66 : Str := ⟨⟨[116, 111, 108, 100]⟩⟩
def s67 : Str := ⟨⟨[119, 101, 105, 103, 104, 119, 97, 108, 107, 46, 108, 101, 97, 115, 116]⟩⟩
def s68 : Str := ⟨⟨[114, 97, 110, 107]⟩⟩
def s69 : Str := ⟨⟨[102, 114, 101, 101]⟩⟩
def s70 : Str := ⟨⟨[105, 110, 118, 101, 114, 115, 101, 95, 111, 102]⟩⟩
def s71 : Str := ⟨⟨[105, 115, 95, 119, 104, 111, 108, 101]⟩⟩
def s72 : Str := ⟨⟨[105, 115, 95, 112, 114, 105, 109, 101]⟩⟩
def s73 : Str := ⟨⟨[70, 73, 71, 85, 82, 69, 83]⟩⟩
def s74 : Str := ⟨⟨[48, 49, 50, 51, 52, 53, 54, 55, 56, 57]⟩⟩
def s75 : Str := ⟨⟨[77, 79, 83, 84, 95, 70, 73, 71, 85, 82, 69, 83]⟩⟩
def s76 : Str := ⟨⟨[71, 82, 69, 65, 84, 69, 83, 84, 95, 80, 82, 73, 77, 69]⟩⟩
def s77 : Str := ⟨⟨[105, 115, 95, 119, 114, 105, 116, 116, 101, 110]⟩⟩
def s78 : Str := ⟨⟨[114, 101, 97, 100, 95, 119, 104, 111, 108, 101]⟩⟩
def s79 : Str := ⟨⟨[110, 101, 101, 100, 95, 116, 101, 120, 116]⟩⟩
def s80 : Str := ⟨⟨[75, 105, 110, 100]⟩⟩
def s81 : Str := ⟨⟨[70, 105, 101, 108, 100]⟩⟩
def s82 : Str := ⟨⟨[80, 105, 99, 107, 105, 110, 103]⟩⟩
def s83 : Str := ⟨⟨[82, 101, 115, 105, 100, 117, 101, 115]⟩⟩
def s84 : Str := ⟨⟨[67, 111, 115, 116, 115]⟩⟩
def s85 : Str := ⟨⟨[84, 114, 117, 116, 104, 115]⟩⟩
def s86 : Str := ⟨⟨[105, 115, 95, 119, 111, 114, 100]⟩⟩
def s87 : Str := ⟨⟨[110, 101, 101, 100, 95, 119, 111, 114, 100]⟩⟩
def s88 : Str := ⟨⟨[116, 97, 98, 108, 101, 95, 111, 102]⟩⟩
def s89 : Str := ⟨⟨[108, 111, 110, 103, 101, 114]⟩⟩
def s90 : Str := ⟨⟨[119, 111, 114, 100, 115]⟩⟩
def s91 : Str := ⟨⟨[97, 104, 101, 97, 100]⟩⟩
def s92 : Str := ⟨⟨[97, 108, 108, 95, 98, 101, 104, 105, 110, 100]⟩⟩
def s93 : Str := ⟨⟨[98, 101, 104, 105, 110, 100]⟩⟩
def s94 : Str := ⟨⟨[109, 105, 114, 114, 111, 114, 101, 100]⟩⟩
def s95 : Str := ⟨⟨[102, 114, 101, 101, 95, 119, 111, 114, 100, 115]⟩⟩
def s96 : Str := ⟨⟨[119, 105, 116, 104, 95, 108, 101, 116, 116, 101, 114, 95, 98, 101, 104, 105, 110, 100]⟩⟩
def s97 : Str := ⟨⟨[116, 104, 105, 110, 103]⟩⟩
def s98 : Str := ⟨⟨[119, 101, 105, 103, 104, 119, 97, 108, 107, 46, 114, 97, 116, 105, 111, 115]⟩⟩
def s99 : Str := ⟨⟨[110, 117, 109, 98, 101, 114]⟩⟩
def s100 : Str := ⟨⟨[102, 97, 99, 116, 111, 114]⟩⟩
def s101 : Str := ⟨⟨[119, 101, 105, 103, 104, 119, 97, 108, 107, 46, 107, 105, 110, 100, 115]⟩⟩
def s102 : Str := ⟨⟨[116, 101, 120, 116]⟩⟩
def s103 : Str := ⟨⟨[95, 95, 100, 105, 99, 116, 95, 95]⟩⟩
def s104 : Str := ⟨⟨[105, 115, 95, 102, 105, 101, 108, 100]⟩⟩
def s105 : Str := ⟨⟨[112, 105, 99, 107, 115]⟩⟩
def s106 : Str := ⟨⟨[115, 101, 108, 102]⟩⟩
def s107 : Str := ⟨⟨[70, 105, 101, 108, 100, 46, 105, 115, 95, 102, 105, 101, 108, 100]⟩⟩
def s108 : Str := ⟨⟨[70, 105, 101, 108, 100, 46, 112, 105, 99, 107, 115]⟩⟩
def s109 : Str := ⟨⟨[109, 105, 110, 117, 115]⟩⟩
def s110 : Str := ⟨⟨[105, 110, 118, 101, 114, 115, 101]⟩⟩
def s111 : Str := ⟨⟨[80, 105, 99, 107, 105, 110, 103, 46, 105, 115, 95, 102, 105, 101, 108, 100]⟩⟩
def s112 : Str := ⟨⟨[80, 105, 99, 107, 105, 110, 103, 46, 112, 105, 99, 107, 115]⟩⟩
def s113 : Str := ⟨⟨[80, 105, 99, 107, 105, 110, 103, 46, 109, 105, 110, 117, 115]⟩⟩
def s114 : Str := ⟨⟨[80, 105, 99, 107, 105, 110, 103, 46, 105, 110, 118, 101, 114, 115, 101]⟩⟩
def s115 : Str := ⟨⟨[95, 95, 105, 110, 105, 116, 95, 95]⟩⟩
def s116 : Str := ⟨⟨[110, 111, 117, 103, 104, 116]⟩⟩
def s117 : Str := ⟨⟨[111, 110, 101]⟩⟩
def s118 : Str := ⟨⟨[112, 108, 117, 115]⟩⟩
def s119 : Str := ⟨⟨[116, 105, 109, 101, 115]⟩⟩
def s120 : Str := ⟨⟨[105, 115, 95, 119, 101, 105, 103, 104, 116]⟩⟩
def s121 : Str := ⟨⟨[115, 104, 111, 119, 110]⟩⟩
def s122 : Str := ⟨⟨[114, 101, 97, 100]⟩⟩
def s123 : Str := ⟨⟨[112, 114, 105, 109, 101]⟩⟩
def s124 : Str := ⟨⟨[82, 101, 115, 105, 100, 117, 101, 115, 46, 95, 95, 105, 110, 105, 116, 95, 95]⟩⟩
def s125 : Str := ⟨⟨[82, 101, 115, 105, 100, 117, 101, 115, 46, 116, 111, 108, 100]⟩⟩
def s126 : Str := ⟨⟨[82, 101, 115, 105, 100, 117, 101, 115, 46, 110, 111, 117, 103, 104, 116]⟩⟩
def s127 : Str := ⟨⟨[82, 101, 115, 105, 100, 117, 101, 115, 46, 111, 110, 101]⟩⟩
def s128 : Str := ⟨⟨[82, 101, 115, 105, 100, 117, 101, 115, 46, 112, 108, 117, 115]⟩⟩
def s129 : Str := ⟨⟨[82, 101, 115, 105, 100, 117, 101, 115, 46, 116, 105, 109, 101, 115]⟩⟩
def s130 : Str := ⟨⟨[82, 101, 115, 105, 100, 117, 101, 115, 46, 109, 105, 110, 117, 115]⟩⟩
def s131 : Str := ⟨⟨[112, 114, 111, 100, 117, 99, 116]⟩⟩
def s132 : Str := ⟨⟨[115, 113, 117, 97, 114, 101]⟩⟩
def s133 : Str := ⟨⟨[108, 101, 102, 116]⟩⟩
def s134 : Str := ⟨⟨[82, 101, 115, 105, 100, 117, 101, 115, 46, 105, 110, 118, 101, 114, 115, 101]⟩⟩
def s135 : Str := ⟨⟨[82, 101, 115, 105, 100, 117, 101, 115, 46, 105, 115, 95, 119, 101, 105, 103, 104, 116]⟩⟩
def s136 : Str := ⟨⟨[82, 101, 115, 105, 100, 117, 101, 115, 46, 115, 104, 111, 119, 110]⟩⟩
def s137 : Str := ⟨⟨[82, 101, 115, 105, 100, 117, 101, 115, 46, 114, 101, 97, 100]⟩⟩
def s138 : Str := ⟨⟨[67, 111, 115, 116, 115, 46, 116, 111, 108, 100]⟩⟩
def s139 : Str := ⟨⟨[67, 111, 115, 116, 115, 46, 110, 111, 117, 103, 104, 116]⟩⟩
def s140 : Str := ⟨⟨[67, 111, 115, 116, 115, 46, 111, 110, 101]⟩⟩
def s141 : Str := ⟨⟨[67, 111, 115, 116, 115, 46, 112, 108, 117, 115]⟩⟩
def s142 : Str := ⟨⟨[67, 111, 115, 116, 115, 46, 116, 105, 109, 101, 115]⟩⟩
def s143 : Str := ⟨⟨[67, 111, 115, 116, 115, 46, 105, 115, 95, 119, 101, 105, 103, 104, 116]⟩⟩
def s144 : Str := ⟨⟨[67, 111, 115, 116, 115, 46, 115, 104, 111, 119, 110]⟩⟩
def s145 : Str := ⟨⟨[67, 111, 115, 116, 115, 46, 114, 101, 97, 100]⟩⟩
def s146 : Str := ⟨⟨[84, 114, 117, 116, 104, 115, 46, 116, 111, 108, 100]⟩⟩
def s147 : Str := ⟨⟨[84, 114, 117, 116, 104, 115, 46, 110, 111, 117, 103, 104, 116]⟩⟩
def s148 : Str := ⟨⟨[84, 114, 117, 116, 104, 115, 46, 111, 110, 101]⟩⟩
def s149 : Str := ⟨⟨[84, 114, 117, 116, 104, 115, 46, 112, 108, 117, 115]⟩⟩
def s150 : Str := ⟨⟨[84, 114, 117, 116, 104, 115, 46, 116, 105, 109, 101, 115]⟩⟩
def s151 : Str := ⟨⟨[84, 114, 117, 116, 104, 115, 46, 105, 115, 95, 119, 101, 105, 103, 104, 116]⟩⟩
def s152 : Str := ⟨⟨[84, 114, 117, 116, 104, 115, 46, 115, 104, 111, 119, 110]⟩⟩
def s153 : Str := ⟨⟨[84, 114, 117, 116, 104, 115, 46, 114, 101, 97, 100]⟩⟩
def s154 : Str := ⟨⟨[119, 101, 105, 103, 104, 119, 97, 108, 107, 46, 109, 97, 99, 104, 105, 110, 101, 115]⟩⟩
def s155 : Str := ⟨⟨[108, 101, 116, 116, 101, 114, 115]⟩⟩
def s156 : Str := ⟨⟨[109, 97, 99, 104, 105, 110, 101]⟩⟩
def s157 : Str := ⟨⟨[108, 101, 116, 116, 101, 114]⟩⟩
def s158 : Str := ⟨⟨[109, 111, 115, 116]⟩⟩
def s159 : Str := ⟨⟨[108, 97, 115, 116]⟩⟩
def s160 : Str := ⟨⟨[108, 101, 110, 103, 116, 104]⟩⟩
def s161 : Str := ⟨⟨[119, 111, 114, 100]⟩⟩
def s162 : Str := ⟨⟨[119, 101, 105, 103, 104, 119, 97, 108, 107, 46, 98, 117, 105, 108, 100, 105, 110, 103]⟩⟩
def s163 : Str := ⟨⟨[102, 105, 114, 115, 116]⟩⟩
def s164 : Str := ⟨⟨[103, 114, 111, 119, 110]⟩⟩
def s165 : Str := ⟨⟨[102, 114, 101, 115, 104]⟩⟩
def s166 : Str := ⟨⟨[112, 97, 105, 114]⟩⟩
def s167 : Str := ⟨⟨[108, 97, 119, 95, 119, 101, 105, 103, 104, 119, 97, 108, 107, 95, 107, 51, 52, 95, 102, 105, 101, 108, 100, 115, 95, 97, 108, 111, 110, 101]⟩⟩
def s168 : Str := ⟨⟨[119, 105, 116, 104, 95, 108, 101, 116, 116, 101, 114, 95, 97, 104, 101, 97, 100]⟩⟩
def s169 : Str := ⟨⟨[102, 114, 101, 101, 95, 97, 104, 101, 97, 100]⟩⟩
def s170 : Str := ⟨⟨[102, 114, 101, 101, 95, 98, 101, 104, 105, 110, 100]⟩⟩
def s171 : Str := ⟨⟨[97, 116, 95, 112, 108, 97, 99, 101, 115]⟩⟩
def s172 : Str := ⟨⟨[110, 97, 114, 114, 111, 119, 101, 100]⟩⟩
def s173 : Str := ⟨⟨[99, 111, 109, 101, 95, 116, 111]⟩⟩
def s174 : Str := ⟨⟨[116, 111, 108, 100, 95, 97, 112, 97, 114, 116]⟩⟩
def s175 : Str := ⟨⟨[104, 101, 97, 100, 115]⟩⟩
def s176 : Str := ⟨⟨[116, 97, 105, 108, 115]⟩⟩
def s177 : Str := ⟨⟨[108, 101, 97, 115, 116, 95, 111, 102]⟩⟩
def s178 : Str := ⟨⟨[108, 101, 97, 115, 116]⟩⟩
def s179 : Str := ⟨⟨[112, 97, 112, 101, 114]⟩⟩
def s180 : Str := ⟨⟨[97, 110, 115, 119, 101, 114]⟩⟩
def s181 : Str := ⟨⟨[108, 101, 97, 114, 110, 116]⟩⟩
def s182 : Str := ⟨⟨[95, 108, 97, 119, 95, 110, 101, 120, 116]⟩⟩
def s183 : Str := ⟨⟨[95, 108, 97, 119, 95, 115, 116, 97, 116, 101]⟩⟩
def s184 : Str := ⟨⟨[95, 108, 97, 119, 95, 119, 101, 105, 103, 104, 116]⟩⟩
def s185 : Str := ⟨⟨[95, 108, 97, 119, 95, 109, 97, 99, 104, 105, 110, 101]⟩⟩
def s186 : Str := ⟨⟨[95, 108, 97, 119, 95, 97, 115, 107, 101, 100]⟩⟩
def s187 : Str := ⟨⟨[95, 108, 97, 119, 95, 114, 101, 102, 117, 115, 101, 100]⟩⟩
def s188 : Str := ⟨⟨[108, 97, 119]⟩⟩
def s189 : Str := ⟨⟨[107, 110, 111, 119, 110]⟩⟩
def s190 : Str := ⟨⟨[97, 115, 107]⟩⟩
def s191 : Str := ⟨⟨[119, 101, 105, 103, 104, 119, 97, 108, 107, 46, 108, 101, 97, 114, 110]⟩⟩
def s192 : Str := ⟨⟨[95, 108, 97, 119, 95, 115, 116, 97, 116, 101, 95, 104, 101, 114, 101]⟩⟩
def s193 : Str := ⟨⟨[95, 108, 97, 119, 95, 109, 97, 110, 121]⟩⟩
def s194 : Str := ⟨⟨[95, 108, 97, 119, 95, 102, 111, 117, 110, 100]⟩⟩
def s195 : Str := ⟨⟨[95, 108, 97, 119, 95, 115, 99, 114, 105, 112, 116]⟩⟩
def s196 : Str := ⟨⟨[95, 108, 97, 119, 95, 115, 101, 101, 100]⟩⟩
def s197 : Str := ⟨⟨[95, 108, 97, 119, 95, 99, 101, 108, 108]⟩⟩
def s198 : Str := ⟨⟨[95, 108, 97, 119, 95, 116, 114, 117, 116, 104, 115]⟩⟩
def s199 : Str := ⟨⟨[95, 108, 97, 119, 95, 119, 104, 105, 99, 104]⟩⟩
def s200 : Str := ⟨⟨[95, 108, 97, 119, 95, 107, 105, 110, 100]⟩⟩
def s201 : Str := ⟨⟨[95, 108, 97, 119, 95, 114, 111, 119, 115]⟩⟩
def s202 : Str := ⟨⟨[95, 108, 97, 119, 95, 114, 111, 119]⟩⟩
def s203 : Str := ⟨⟨[95, 108, 97, 119, 95, 109, 97, 99, 104, 105, 110, 101, 95, 104, 101, 114, 101]⟩⟩
def s204 : Str := ⟨⟨[95, 108, 97, 119, 95, 97, 115, 107]⟩⟩
def s205 : Str := ⟨⟨[95, 108, 97, 119, 95, 107, 105, 110, 100, 115]⟩⟩
def s206 : Str := ⟨⟨[101]⟩⟩
def s207 : Str := ⟨⟨[95, 108, 97, 119, 95, 111, 116, 104, 101, 114, 115]⟩⟩
def o11a : Obj := tu #[] 0
def o12a : Obj := ⟨.none, none, .fields #[], #[]⟩
def o13a : Obj := co #[.str s0 182, .str s0 183, .str s1 184, i 1, i 0, i 0, i 0, i 0, r 11, .bool false, i 181, r 12, .none, .none, .none, .none, i 185, i 1, .str s1 186]
def o14a : Obj := ⟨.type q0, none, .plain, #[some (r 13), some (r 3), some (r 3), none, some (.str s2 164), none, some (r 0)]⟩
def o3_0 (P : Params) : Obj := ⟨.type q1, none, .dict #[⟨kh P s3, .str s3 165, .str s4 436⟩, ⟨kh P s5, .str s5 166, .none⟩, ⟨kh P s6, .str s6 167, .none⟩, ⟨kh P s7, .str s7 168, .builtin q2⟩, ⟨kh P s8, .str s8 169, .none⟩, ⟨kh P s9, .str s9 170, r 6⟩, ⟨kh P s10, .str s10 171, r 4⟩, ⟨kh P s11, .str s11 173, .str s1 172⟩, ⟨kh P s12, .str s12 174, .none⟩, ⟨kh P s13, .str s13 193, r 21⟩, ⟨kh P s14, .str s14 213, r 31⟩, ⟨kh P s15, .str s15 229, r 44⟩, ⟨kh P s16, .str s16 245, r 56⟩, ⟨kh P s17, .str s17 261, r 68⟩, ⟨kh P s18, .str s18 277, r 80⟩, ⟨kh P s19, .str s19 293, r 92⟩, ⟨kh P s20, .str s20 309, r 104⟩, ⟨kh P s21, .str s21 325, r 116⟩, ⟨kh P s22, .str s22 341, r 128⟩, ⟨kh P s23, .str s23 357, r 140⟩, ⟨kh P s24, .str s24 373, r 152⟩, ⟨kh P s25, .str s25 381, r 159⟩, ⟨kh P s26, .str s26 387, r 164⟩, ⟨kh P s27, .str s27 393, r 169⟩, ⟨kh P s28, .str s28 399, r 174⟩, ⟨kh P s29, .str s29 405, r 179⟩, ⟨kh P s30, .str s30 417, r 186⟩, ⟨kh P s31, .str s31 423, r 191⟩, ⟨kh P s32, .str s32 429, r 196⟩, ⟨kh P s33, .str s33 435, r 201⟩, ⟨kh P s34, .str s34 444, r 208⟩, ⟨kh P s35, .str s35 454, r 215⟩, ⟨kh P s36, .str s36 460, r 220⟩, ⟨kh P s37, .str s37 472, r 227⟩, ⟨kh P s38, .str s38 484, r 234⟩, ⟨kh P s39, .str s39 495, r 241⟩, ⟨kh P s40, .str s40 502, r 248⟩, ⟨kh P s41, .str s41 513, r 255⟩, ⟨kh P s42, .str s42 519, r 260⟩, ⟨kh P s43, .str s43 527, r 267⟩, ⟨kh P s44, .str s44 533, r 272⟩, ⟨kh P s45, .str s45 542, r 279⟩] 42, #[]⟩
def o12_0 : Obj := ⟨.none, none, .fields #[i 1, i 0, r 20, i 5, i 0, r 27, i 7, i 0, r 40, i 9, i 0, r 52, i 11, i 0, r 64, i 13, i 0, r 76, i 15, i 0, r 88, i 17, i 0, r 100, i 19, i 0, r 112, i 21, i 0, r 124, i 23, i 0, r 136, i 25, i 0, r 148, i 28, i 0, r 158, i 30, i 0, r 163, i 32, i 0, r 168, i 34, i 0, r 173, i 36, i 0, r 178, i 40, i 0, r 185, i 45, i 0, r 190, i 47, i 0, r 195, i 49, i 0, r 200, i 52, i 0, r 207, i 55, i 0, r 214, i 60, i 0, r 219, i 62, i 0, r 226, i 68, i 0, r 233, i 77, i 0, r 240, i 82, i 0, r 247, i 84, i 0, r 254, i 89, i 0, r 259, i 91, i 0, r 266, i 93, i 0, r 271, i 99, i 0, r 278], #[]⟩
def o15 : Obj := tu #[] 0
def o16 : Obj := ⟨.none, none, .fields #[], #[]⟩
def o17 : Obj := tu #[.str s46 190] 0
def o18 : Obj := tu #[] 0
def o19 : Obj := f0 s13 s13 (topT 0)
def o20 : Obj := co #[.str s13 187, .str s13 188, .str s1 189, i 1, i 1, i 0, i 0, i 3, r 15, .bool true, i 181, r 16, .none, r 17, r 18, r 19, i 191, i 1, .str s1 192]
def o21 : Obj := fo s13 s13 (topT 0) (.str s2 164) (r 20)
def o22 : Obj := tu #[.type q3] 0
def o23 : Obj := ⟨.type q4, none, .fields #[.builtin q5, .type q6], #[]⟩
def o24 (P : Params) : Obj := ⟨.type q1, none, .dict #[⟨kh P s47, .str s47 203, .str s48 194⟩, ⟨kh P s49, .str s49 205, .str s14 204⟩, ⟨kh P s50, .str s50 207, .int 5 206⟩, ⟨kh P s51, .str s51 208, r 29⟩] 4, #[]⟩
def o25 : Obj := tu #[] 0
def o26 : Obj := ⟨.none, none, .fields #[], #[]⟩
def o27 : Obj := co #[.str s14 198, .str s14 199, .str s1 200, i 5, i 0, i 0, i 0, i 0, r 25, .bool false, i 181, r 26, .none, .none, .none, .none, i 201, i 5, .str s1 202]
def o28 : Obj := ⟨.type q0, none, .plain, #[some (r 27), some (r 3), some (r 24), none, some (.str s48 194), none, some (r 0)]⟩
def o29 : Obj := tu #[] 0
def o30 (P : Params) : Obj := ⟨.type q1, none, .dict #[⟨kh P s47, .str s47 203, .str s48 194⟩, ⟨kh P s50, .str s50 207, .int 5 206⟩, ⟨kh P s51, .str s51 208, r 29⟩, ⟨kh P s52, .str s52 210, r 32⟩, ⟨kh P s5, .str s5 211, .none⟩] 3, #[]⟩
def o31 : Obj := ⟨.type q6, none, .cls ⟨s14, [.type q3], [r 31, .type q3, .type q7, .type q8, .type q9], 30, s14, true, [], [r 44, r 56, r 68, r 80, r 92, r 104, r 116, r 128, r 140, r 152], false, none, false⟩, #[some (r 22), none, some (.str s14 196), some (.str s14 204), some (.builtin q10), some (.bool true)]⟩
def o32 : Obj := ⟨.type q11, none, .fields #[.str s52 209, r 31, .builtin SL.s10220274742760427390x26, .none], #[]⟩
def o33 : Obj := ⟨.type q12, none, .fields #[r 31, r 31, r 31], #[]⟩
def o34 : Obj := ⟨.type q4, none, .fields #[.builtin q13, r 31], #[]⟩
def o35 : Obj := tu #[r 31] 0
def o36 : Obj := ⟨.type q4, none, .fields #[.builtin q5, .type q6], #[]⟩
def o37 (P : Params) : Obj := ⟨.type q1, none, .dict #[⟨kh P s47, .str s47 221, .str s48 194⟩, ⟨kh P s49, .str s49 223, .str s15 222⟩, ⟨kh P s50, .str s50 225, .int 7 224⟩, ⟨kh P s51, .str s51 226, r 42⟩] 4, #[]⟩
def o38 : Obj := tu #[] 0
def o39 : Obj := ⟨.none, none, .fields #[], #[]⟩
def o40 : Obj := co #[.str s15 216, .str s15 217, .str s1 218, i 7, i 0, i 0, i 0, i 0, r 38, .bool false, i 181, r 39, .none, .none, .none, .none, i 219, i 7, .str s1 220]
def o41 : Obj := ⟨.type q0, none, .plain, #[some (r 40), some (r 3), some (r 37), none, some (.str s48 194), none, some (r 0)]⟩
def o42 : Obj := tu #[] 0
def o43 (P : Params) : Obj := ⟨.type q1, none, .dict #[⟨kh P s47, .str s47 221, .str s48 194⟩, ⟨kh P s50, .str s50 225, .int 7 224⟩, ⟨kh P s51, .str s51 226, r 42⟩, ⟨kh P s5, .str s5 227, .none⟩] 2, #[]⟩
def o44 : Obj := ⟨.type q6, none, .cls ⟨s15, [r 31], [r 44, r 31, .type q3, .type q7, .type q8, .type q9], 43, s15, true, [], [], false, none, false⟩, #[some (r 35), none, some (.str s15 214), some (.str s15 222), some (.builtin q10), some (.bool true)]⟩
def o45 : Obj := ⟨.type q12, none, .fields #[r 44, r 44, r 44], #[]⟩
def o46 : Obj := ⟨.type q4, none, .fields #[.builtin q13, r 44], #[]⟩
def o47 : Obj := tu #[r 31] 0
def o48 : Obj := ⟨.type q4, none, .fields #[.builtin q5, .type q6], #[]⟩
def o49 (P : Params) : Obj := ⟨.type q1, none, .dict #[⟨kh P s47, .str s47 237, .str s48 194⟩, ⟨kh P s49, .str s49 239, .str s16 238⟩, ⟨kh P s50, .str s50 241, .int 9 240⟩, ⟨kh P s51, .str s51 242, r 54⟩] 4, #[]⟩
def o50 : Obj := tu #[] 0
def o51 : Obj := ⟨.none, none, .fields #[], #[]⟩
def o52 : Obj := co #[.str s16 232, .str s16 233, .str s1 234, i 9, i 0, i 0, i 0, i 0, r 50, .bool false, i 181, r 51, .none, .none, .none, .none, i 235, i 9, .str s1 236]
def o53 : Obj := ⟨.type q0, none, .plain, #[some (r 52), some (r 3), some (r 49), none, some (.str s48 194), none, some (r 0)]⟩
def o54 : Obj := tu #[] 0
def o55 (P : Params) : Obj := ⟨.type q1, none, .dict #[⟨kh P s47, .str s47 237, .str s48 194⟩, ⟨kh P s50, .str s50 241, .int 9 240⟩, ⟨kh P s51, .str s51 242, r 54⟩, ⟨kh P s5, .str s5 243, .none⟩] 2, #[]⟩
def o56 : Obj := ⟨.type q6, none, .cls ⟨s16, [r 31], [r 56, r 31, .type q3, .type q7, .type q8, .type q9], 55, s16, true, [], [], false, none, false⟩, #[some (r 47), none, some (.str s16 230), some (.str s16 238), some (.builtin q10), some (.bool true)]⟩
def o57 : Obj := ⟨.type q12, none, .fields #[r 56, r 56, r 56], #[]⟩
def o58 : Obj := ⟨.type q4, none, .fields #[.builtin q13, r 56], #[]⟩
def o59 : Obj := tu #[r 31] 0
def o60 : Obj := ⟨.type q4, none, .fields #[.builtin q5, .type q6], #[]⟩
def o61 (P : Params) : Obj := ⟨.type q1, none, .dict #[⟨kh P s47, .str s47 253, .str s48 194⟩, ⟨kh P s49, .str s49 255, .str s17 254⟩, ⟨kh P s50, .str s50 257, .int 11 256⟩, ⟨kh P s51, .str s51 258, r 66⟩] 4, #[]⟩
def o62 : Obj := tu #[] 0
def o63 : Obj := ⟨.none, none, .fields #[], #[]⟩
def o64 : Obj := co #[.str s17 248, .str s17 249, .str s1 250, i 11, i 0, i 0, i 0, i 0, r 62, .bool false, i 181, r 63, .none, .none, .none, .none, i 251, i 11, .str s1 252]
def o65 : Obj := ⟨.type q0, none, .plain, #[some (r 64), some (r 3), some (r 61), none, some (.str s48 194), none, some (r 0)]⟩
def o66 : Obj := tu #[] 0
def o67 (P : Params) : Obj := ⟨.type q1, none, .dict #[⟨kh P s47, .str s47 253, .str s48 194⟩, ⟨kh P s50, .str s50 257, .int 11 256⟩, ⟨kh P s51, .str s51 258, r 66⟩, ⟨kh P s5, .str s5 259, .none⟩] 2, #[]⟩
def o68 : Obj := ⟨.type q6, none, .cls ⟨s17, [r 31], [r 68, r 31, .type q3, .type q7, .type q8, .type q9], 67, s17, true, [], [], false, none, false⟩, #[some (r 59), none, some (.str s17 246), some (.str s17 254), some (.builtin q10), some (.bool true)]⟩
def o69 : Obj := ⟨.type q12, none, .fields #[r 68, r 68, r 68], #[]⟩
def o70 : Obj := ⟨.type q4, none, .fields #[.builtin q13, r 68], #[]⟩
def o71 : Obj := tu #[r 31] 0
def o72 : Obj := ⟨.type q4, none, .fields #[.builtin q5, .type q6], #[]⟩
def o73 (P : Params) : Obj := ⟨.type q1, none, .dict #[⟨kh P s47, .str s47 269, .str s48 194⟩, ⟨kh P s49, .str s49 271, .str s18 270⟩, ⟨kh P s50, .str s50 273, .int 13 272⟩, ⟨kh P s51, .str s51 274, r 78⟩] 4, #[]⟩
def o74 : Obj := tu #[] 0
def o75 : Obj := ⟨.none, none, .fields #[], #[]⟩
def o76 : Obj := co #[.str s18 264, .str s18 265, .str s1 266, i 13, i 0, i 0, i 0, i 0, r 74, .bool false, i 181, r 75, .none, .none, .none, .none, i 267, i 13, .str s1 268]
def o77 : Obj := ⟨.type q0, none, .plain, #[some (r 76), some (r 3), some (r 73), none, some (.str s48 194), none, some (r 0)]⟩
def o78 : Obj := tu #[] 0
def o79 (P : Params) : Obj := ⟨.type q1, none, .dict #[⟨kh P s47, .str s47 269, .str s48 194⟩, ⟨kh P s50, .str s50 273, .int 13 272⟩, ⟨kh P s51, .str s51 274, r 78⟩, ⟨kh P s5, .str s5 275, .none⟩] 2, #[]⟩
def o80 : Obj := ⟨.type q6, none, .cls ⟨s18, [r 31], [r 80, r 31, .type q3, .type q7, .type q8, .type q9], 79, s18, true, [], [], false, none, false⟩, #[some (r 71), none, some (.str s18 262), some (.str s18 270), some (.builtin q10), some (.bool true)]⟩
def o81 : Obj := ⟨.type q12, none, .fields #[r 80, r 80, r 80], #[]⟩
def o82 : Obj := ⟨.type q4, none, .fields #[.builtin q13, r 80], #[]⟩
def o83 : Obj := tu #[r 31] 0
def o84 : Obj := ⟨.type q4, none, .fields #[.builtin q5, .type q6], #[]⟩
def o85 (P : Params) : Obj := ⟨.type q1, none, .dict #[⟨kh P s47, .str s47 285, .str s48 194⟩, ⟨kh P s49, .str s49 287, .str s19 286⟩, ⟨kh P s50, .str s50 289, .int 15 288⟩, ⟨kh P s51, .str s51 290, r 90⟩] 4, #[]⟩
def o86 : Obj := tu #[] 0
def o87 : Obj := ⟨.none, none, .fields #[], #[]⟩
def o88 : Obj := co #[.str s19 280, .str s19 281, .str s1 282, i 15, i 0, i 0, i 0, i 0, r 86, .bool false, i 181, r 87, .none, .none, .none, .none, i 283, i 15, .str s1 284]
def o89 : Obj := ⟨.type q0, none, .plain, #[some (r 88), some (r 3), some (r 85), none, some (.str s48 194), none, some (r 0)]⟩
def o90 : Obj := tu #[] 0
def o91 (P : Params) : Obj := ⟨.type q1, none, .dict #[⟨kh P s47, .str s47 285, .str s48 194⟩, ⟨kh P s50, .str s50 289, .int 15 288⟩, ⟨kh P s51, .str s51 290, r 90⟩, ⟨kh P s5, .str s5 291, .none⟩] 2, #[]⟩
def o92 : Obj := ⟨.type q6, none, .cls ⟨s19, [r 31], [r 92, r 31, .type q3, .type q7, .type q8, .type q9], 91, s19, true, [], [], false, none, false⟩, #[some (r 83), none, some (.str s19 278), some (.str s19 286), some (.builtin q10), some (.bool true)]⟩
def o93 : Obj := ⟨.type q12, none, .fields #[r 92, r 92, r 92], #[]⟩
def o94 : Obj := ⟨.type q4, none, .fields #[.builtin q13, r 92], #[]⟩
def o95 : Obj := tu #[r 31] 0
def o96 : Obj := ⟨.type q4, none, .fields #[.builtin q5, .type q6], #[]⟩
def o97 (P : Params) : Obj := ⟨.type q1, none, .dict #[⟨kh P s47, .str s47 301, .str s48 194⟩, ⟨kh P s49, .str s49 303, .str s20 302⟩, ⟨kh P s50, .str s50 305, .int 17 304⟩, ⟨kh P s51, .str s51 306, r 102⟩] 4, #[]⟩
def o98 : Obj := tu #[] 0
def o99 : Obj := ⟨.none, none, .fields #[], #[]⟩
def o100 : Obj := co #[.str s20 296, .str s20 297, .str s1 298, i 17, i 0, i 0, i 0, i 0, r 98, .bool false, i 181, r 99, .none, .none, .none, .none, i 299, i 17, .str s1 300]
def o101 : Obj := ⟨.type q0, none, .plain, #[some (r 100), some (r 3), some (r 97), none, some (.str s48 194), none, some (r 0)]⟩
def o102 : Obj := tu #[] 0
def o103 (P : Params) : Obj := ⟨.type q1, none, .dict #[⟨kh P s47, .str s47 301, .str s48 194⟩, ⟨kh P s50, .str s50 305, .int 17 304⟩, ⟨kh P s51, .str s51 306, r 102⟩, ⟨kh P s5, .str s5 307, .none⟩] 2, #[]⟩
def o104 : Obj := ⟨.type q6, none, .cls ⟨s20, [r 31], [r 104, r 31, .type q3, .type q7, .type q8, .type q9], 103, s20, true, [], [], false, none, false⟩, #[some (r 95), none, some (.str s20 294), some (.str s20 302), some (.builtin q10), some (.bool true)]⟩
def o105 : Obj := ⟨.type q12, none, .fields #[r 104, r 104, r 104], #[]⟩
def o106 : Obj := ⟨.type q4, none, .fields #[.builtin q13, r 104], #[]⟩
def o107 : Obj := tu #[r 31] 0
def o108 : Obj := ⟨.type q4, none, .fields #[.builtin q5, .type q6], #[]⟩
def o109 (P : Params) : Obj := ⟨.type q1, none, .dict #[⟨kh P s47, .str s47 317, .str s48 194⟩, ⟨kh P s49, .str s49 319, .str s21 318⟩, ⟨kh P s50, .str s50 321, .int 19 320⟩, ⟨kh P s51, .str s51 322, r 114⟩] 4, #[]⟩
def o110 : Obj := tu #[] 0
def o111 : Obj := ⟨.none, none, .fields #[], #[]⟩
def o112 : Obj := co #[.str s21 312, .str s21 313, .str s1 314, i 19, i 0, i 0, i 0, i 0, r 110, .bool false, i 181, r 111, .none, .none, .none, .none, i 315, i 19, .str s1 316]
def o113 : Obj := ⟨.type q0, none, .plain, #[some (r 112), some (r 3), some (r 109), none, some (.str s48 194), none, some (r 0)]⟩
def o114 : Obj := tu #[] 0
def o115 (P : Params) : Obj := ⟨.type q1, none, .dict #[⟨kh P s47, .str s47 317, .str s48 194⟩, ⟨kh P s50, .str s50 321, .int 19 320⟩, ⟨kh P s51, .str s51 322, r 114⟩, ⟨kh P s5, .str s5 323, .none⟩] 2, #[]⟩
def o116 : Obj := ⟨.type q6, none, .cls ⟨s21, [r 31], [r 116, r 31, .type q3, .type q7, .type q8, .type q9], 115, s21, true, [], [], false, none, false⟩, #[some (r 107), none, some (.str s21 310), some (.str s21 318), some (.builtin q10), some (.bool true)]⟩
def o117 : Obj := ⟨.type q12, none, .fields #[r 116, r 116, r 116], #[]⟩
def o118 : Obj := ⟨.type q4, none, .fields #[.builtin q13, r 116], #[]⟩
def o119 : Obj := tu #[r 31] 0
def o120 : Obj := ⟨.type q4, none, .fields #[.builtin q5, .type q6], #[]⟩
def o121 (P : Params) : Obj := ⟨.type q1, none, .dict #[⟨kh P s47, .str s47 333, .str s48 194⟩, ⟨kh P s49, .str s49 335, .str s22 334⟩, ⟨kh P s50, .str s50 337, .int 21 336⟩, ⟨kh P s51, .str s51 338, r 126⟩] 4, #[]⟩
def o122 : Obj := tu #[] 0
def o123 : Obj := ⟨.none, none, .fields #[], #[]⟩
def o124 : Obj := co #[.str s22 328, .str s22 329, .str s1 330, i 21, i 0, i 0, i 0, i 0, r 122, .bool false, i 181, r 123, .none, .none, .none, .none, i 331, i 21, .str s1 332]
def o125 : Obj := ⟨.type q0, none, .plain, #[some (r 124), some (r 3), some (r 121), none, some (.str s48 194), none, some (r 0)]⟩
def o126 : Obj := tu #[] 0
def o127 (P : Params) : Obj := ⟨.type q1, none, .dict #[⟨kh P s47, .str s47 333, .str s48 194⟩, ⟨kh P s50, .str s50 337, .int 21 336⟩, ⟨kh P s51, .str s51 338, r 126⟩, ⟨kh P s5, .str s5 339, .none⟩] 2, #[]⟩
def o128 : Obj := ⟨.type q6, none, .cls ⟨s22, [r 31], [r 128, r 31, .type q3, .type q7, .type q8, .type q9], 127, s22, true, [], [], false, none, false⟩, #[some (r 119), none, some (.str s22 326), some (.str s22 334), some (.builtin q10), some (.bool true)]⟩
def o129 : Obj := ⟨.type q12, none, .fields #[r 128, r 128, r 128], #[]⟩
def o130 : Obj := ⟨.type q4, none, .fields #[.builtin q13, r 128], #[]⟩
def o131 : Obj := tu #[r 31] 0
def o132 : Obj := ⟨.type q4, none, .fields #[.builtin q5, .type q6], #[]⟩
def o133 (P : Params) : Obj := ⟨.type q1, none, .dict #[⟨kh P s47, .str s47 349, .str s48 194⟩, ⟨kh P s49, .str s49 351, .str s23 350⟩, ⟨kh P s50, .str s50 353, .int 23 352⟩, ⟨kh P s51, .str s51 354, r 138⟩] 4, #[]⟩
def o134 : Obj := tu #[] 0
def o135 : Obj := ⟨.none, none, .fields #[], #[]⟩
def o136 : Obj := co #[.str s23 344, .str s23 345, .str s1 346, i 23, i 0, i 0, i 0, i 0, r 134, .bool false, i 181, r 135, .none, .none, .none, .none, i 347, i 23, .str s1 348]
def o137 : Obj := ⟨.type q0, none, .plain, #[some (r 136), some (r 3), some (r 133), none, some (.str s48 194), none, some (r 0)]⟩
def o138 : Obj := tu #[] 0
def o139 (P : Params) : Obj := ⟨.type q1, none, .dict #[⟨kh P s47, .str s47 349, .str s48 194⟩, ⟨kh P s50, .str s50 353, .int 23 352⟩, ⟨kh P s51, .str s51 354, r 138⟩, ⟨kh P s5, .str s5 355, .none⟩] 2, #[]⟩
def o140 : Obj := ⟨.type q6, none, .cls ⟨s23, [r 31], [r 140, r 31, .type q3, .type q7, .type q8, .type q9], 139, s23, true, [], [], false, none, false⟩, #[some (r 131), none, some (.str s23 342), some (.str s23 350), some (.builtin q10), some (.bool true)]⟩
def o141 : Obj := ⟨.type q12, none, .fields #[r 140, r 140, r 140], #[]⟩
def o142 : Obj := ⟨.type q4, none, .fields #[.builtin q13, r 140], #[]⟩
def o143 : Obj := tu #[r 31] 0
def o144 : Obj := ⟨.type q4, none, .fields #[.builtin q5, .type q6], #[]⟩
def o145 (P : Params) : Obj := ⟨.type q1, none, .dict #[⟨kh P s47, .str s47 365, .str s48 194⟩, ⟨kh P s49, .str s49 367, .str s24 366⟩, ⟨kh P s50, .str s50 369, .int 25 368⟩, ⟨kh P s51, .str s51 370, r 150⟩] 4, #[]⟩
def o146 : Obj := tu #[] 0
def o147 : Obj := ⟨.none, none, .fields #[], #[]⟩
def o148 : Obj := co #[.str s24 360, .str s24 361, .str s1 362, i 25, i 0, i 0, i 0, i 0, r 146, .bool false, i 181, r 147, .none, .none, .none, .none, i 363, i 25, .str s1 364]
def o149 : Obj := ⟨.type q0, none, .plain, #[some (r 148), some (r 3), some (r 145), none, some (.str s48 194), none, some (r 0)]⟩
def o150 : Obj := tu #[] 0
def o151 (P : Params) : Obj := ⟨.type q1, none, .dict #[⟨kh P s47, .str s47 365, .str s48 194⟩, ⟨kh P s50, .str s50 369, .int 25 368⟩, ⟨kh P s51, .str s51 370, r 150⟩, ⟨kh P s5, .str s5 371, .none⟩] 2, #[]⟩
def o152 : Obj := ⟨.type q6, none, .cls ⟨s24, [r 31], [r 152, r 31, .type q3, .type q7, .type q8, .type q9], 151, s24, true, [], [], false, none, false⟩, #[some (r 143), none, some (.str s24 358), some (.str s24 366), some (.builtin q10), some (.bool true)]⟩
def o153 : Obj := ⟨.type q12, none, .fields #[r 152, r 152, r 152], #[]⟩
def o154 : Obj := ⟨.type q4, none, .fields #[.builtin q13, r 152], #[]⟩
def o155 : Obj := tu #[] 0
def o156 : Obj := ⟨.none, none, .fields #[], #[]⟩
def o157 : Obj := f0 s25 s25 (topT 14)
def o158 : Obj := co #[.str s25 376, .str s25 377, .str s1 378, i 28, i 2, i 0, i 0, i 3, r 155, .bool true, i 181, r 156, .none, .none, .none, r 157, i 379, i 28, .str s1 380]
def o159 : Obj := fo s25 s25 (topT 14) (.str s53 374) (r 158)
def o160 : Obj := tu #[] 0
def o161 : Obj := ⟨.none, none, .fields #[], #[]⟩
def o162 : Obj := f0 s26 s26 (topT 15)
def o163 : Obj := co #[.str s26 382, .str s26 383, .str s1 384, i 30, i 3, i 0, i 0, i 3, r 160, .bool true, i 181, r 161, .none, .none, .none, r 162, i 385, i 30, .str s1 386]
def o164 : Obj := fo s26 s26 (topT 15) (.str s53 374) (r 163)
def o165 : Obj := tu #[] 0
def o166 : Obj := ⟨.none, none, .fields #[], #[]⟩
def o167 : Obj := f0 s27 s27 (topT 16)
def o168 : Obj := co #[.str s27 388, .str s27 389, .str s1 390, i 32, i 3, i 0, i 0, i 3, r 165, .bool true, i 181, r 166, .none, .none, .none, r 167, i 391, i 32, .str s1 392]
def o169 : Obj := fo s27 s27 (topT 16) (.str s53 374) (r 168)
def o170 : Obj := tu #[] 0
def o171 : Obj := ⟨.none, none, .fields #[], #[]⟩
def o172 : Obj := f0 s28 s28 (topT 17)
def o173 : Obj := co #[.str s28 394, .str s28 395, .str s1 396, i 34, i 2, i 0, i 0, i 3, r 170, .bool true, i 181, r 171, .none, .none, .none, r 172, i 397, i 34, .str s1 398]
def o174 : Obj := fo s28 s28 (topT 17) (.str s53 374) (r 173)
def o175 : Obj := tu #[] 0
def o176 : Obj := ⟨.none, none, .fields #[], #[]⟩
def o177 : Obj := f0 s29 s29 (topT 18)
def o178 : Obj := co #[.str s29 400, .str s29 401, .str s1 402, i 36, i 1, i 0, i 0, i 3, r 175, .bool true, i 181, r 176, .none, .none, .none, r 177, i 403, i 36, .str s1 404]
def o179 : Obj := fo s29 s29 (topT 18) (.str s53 374) (r 178)
def o180 : Obj := tu #[] 0
def o181 : Obj := ⟨.none, none, .fields #[], #[]⟩
def o182 : Obj := tu #[.str s54 409, .str s55 410, .str s56 411, .str s57 412, .str s58 413, .str s59 414] 0
def o183 : Obj := tu #[] 0
def o184 : Obj := f0 s30 s30 (topT 19)
def o185 : Obj := co #[.str s30 406, .str s30 407, .str s1 408, i 40, i 3, i 0, i 0, i 3, r 180, .bool true, i 181, r 181, .none, r 182, r 183, r 184, i 415, i 40, .str s1 416]
def o186 : Obj := fo s30 s30 (topT 19) (.str s53 374) (r 185)
def o187 : Obj := tu #[] 0
def o188 : Obj := ⟨.none, none, .fields #[], #[]⟩
def o189 : Obj := f0 s31 s31 (topT 20)
def o190 : Obj := co #[.str s31 418, .str s31 419, .str s1 420, i 45, i 3, i 0, i 0, i 3, r 187, .bool true, i 181, r 188, .none, .none, .none, r 189, i 421, i 45, .str s1 422]
def o191 : Obj := fo s31 s31 (topT 20) (.str s53 374) (r 190)
def o192 : Obj := tu #[] 0
def o193 : Obj := ⟨.none, none, .fields #[], #[]⟩
def o194 : Obj := f0 s32 s32 (topT 21)
def o195 : Obj := co #[.str s32 424, .str s32 425, .str s1 426, i 47, i 3, i 0, i 0, i 3, r 192, .bool true, i 181, r 193, .none, .none, .none, r 194, i 427, i 47, .str s1 428]
def o196 : Obj := fo s32 s32 (topT 21) (.str s53 374) (r 195)
def o197 : Obj := tu #[] 0
def o198 : Obj := ⟨.none, none, .fields #[], #[]⟩
def o199 : Obj := f0 s33 s33 (topT 22)
def o200 : Obj := co #[.str s33 430, .str s33 431, .str s1 432, i 49, i 3, i 0, i 0, i 3, r 197, .bool true, i 181, r 198, .none, .none, .none, r 199, i 433, i 49, .str s1 434]
def o201 : Obj := fo s33 s33 (topT 22) (.str s53 374) (r 200)
def o202 : Obj := tu #[] 0
def o203 : Obj := ⟨.none, none, .fields #[], #[]⟩
def o204 : Obj := tu #[.str s54 441] 0
def o205 : Obj := tu #[] 0
def o206 : Obj := f0 s34 s34 (topT 24)
def o207 : Obj := co #[.str s34 438, .str s34 439, .str s1 440, i 52, i 1, i 0, i 0, i 3, r 202, .bool true, i 181, r 203, .none, r 204, r 205, r 206, i 442, i 52, .str s1 443]
def o208 : Obj := fo s34 s34 (topT 24) (.str s4 436) (r 207)
def o209 : Obj := tu #[] 0
def o210 : Obj := ⟨.none, none, .fields #[], #[]⟩
def o211 : Obj := tu #[.str s54 448, .str s55 449, .str s60 450, .str s61 451] 0
def o212 : Obj := tu #[] 0
def o213 : Obj := f0 s35 s35 (topT 25)
def o214 : Obj := co #[.str s35 445, .str s35 446, .str s1 447, i 55, i 3, i 0, i 0, i 3, r 209, .bool true, i 181, r 210, .none, r 211, r 212, r 213, i 452, i 55, .str s1 453]
def o215 : Obj := fo s35 s35 (topT 25) (.str s4 436) (r 214)
def o216 : Obj := tu #[] 0
def o217 : Obj := ⟨.none, none, .fields #[], #[]⟩
def o218 : Obj := f0 s36 s36 (topT 26)
def o219 : Obj := co #[.str s36 455, .str s36 456, .str s1 457, i 60, i 3, i 0, i 0, i 3, r 216, .bool true, i 181, r 217, .none, .none, .none, r 218, i 458, i 60, .str s1 459]
def o220 : Obj := fo s36 s36 (topT 26) (.str s4 436) (r 219)
def o221 : Obj := tu #[] 0
def o222 : Obj := ⟨.none, none, .fields #[], #[]⟩
def o223 : Obj := tu #[.str s54 464, .str s62 465, .str s55 466, .str s63 467, .str s61 468, .str s64 469] 0
def o224 : Obj := tu #[] 0
def o225 : Obj := f0 s37 s37 (topT 27)
def o226 : Obj := co #[.str s37 461, .str s37 462, .str s1 463, i 62, i 3, i 0, i 0, i 3, r 221, .bool true, i 181, r 222, .none, r 223, r 224, r 225, i 470, i 62, .str s1 471]
def o227 : Obj := fo s37 s37 (topT 27) (.str s4 436) (r 226)
def o228 : Obj := tu #[] 0
def o229 : Obj := ⟨.none, none, .fields #[], #[]⟩
def o230 : Obj := tu #[.str s54 476, .str s62 477, .str s55 478, .str s60 479, .str s63 480, .str s61 481] 0
def o231 : Obj := tu #[] 0
def o232 : Obj := f0 s38 s38 (topT 28)
def o233 : Obj := co #[.str s38 473, .str s38 474, .str s1 475, i 68, i 4, i 0, i 0, i 3, r 228, .bool true, i 181, r 229, .none, r 230, r 231, r 232, i 482, i 68, .str s1 483]
def o234 : Obj := fo s38 s38 (topT 28) (.str s4 436) (r 233)
def o235 : Obj := tu #[] 0
def o236 : Obj := ⟨.none, none, .fields #[], #[]⟩
def o237 : Obj := tu #[.str s54 488, .str s65 489, .str s60 490, .str s62 491, .str s55 492] 0
def o238 : Obj := tu #[] 0
def o239 : Obj := f0 s39 s39 (topT 29)
def o240 : Obj := co #[.str s39 485, .str s39 486, .str s1 487, i 77, i 3, i 0, i 0, i 3, r 235, .bool true, i 181, r 236, .none, r 237, r 238, r 239, i 493, i 77, .str s1 494]
def o241 : Obj := fo s39 s39 (topT 29) (.str s4 436) (r 240)
def o242 : Obj := tu #[] 0
def o243 : Obj := ⟨.none, none, .fields #[], #[]⟩
def o244 : Obj := tu #[.str s65 499] 0
def o245 : Obj := tu #[] 0
def o246 : Obj := f0 s40 s40 (topT 30)
def o247 : Obj := co #[.str s40 496, .str s40 497, .str s1 498, i 82, i 1, i 0, i 0, i 3, r 242, .bool true, i 181, r 243, .none, r 244, r 245, r 246, i 500, i 82, .str s1 501]
def o248 : Obj := fo s40 s40 (topT 30) (.str s4 436) (r 247)
def o249 : Obj := tu #[] 0
def o250 : Obj := ⟨.none, none, .fields #[], #[]⟩
def o251 : Obj := tu #[.str s54 506, .str s65 507, .str s66 508, .str s61 509, .str s55 510] 0
def o252 : Obj := tu #[] 0
def o253 : Obj := f0 s41 s41 (topT 31)
def o254 : Obj := co #[.str s41 503, .str s41 504, .str s1 505, i 84, i 2, i 0, i 0, i 3, r 249, .bool true, i 181, r 250, .none, r 251, r 252, r 253, i 511, i 84, .str s1 512]
def o255 : Obj := fo s41 s41 (topT 31) (.str s4 436) (r 254)
def o256 : Obj := tu #[] 0
def o257 : Obj := ⟨.none, none, .fields #[], #[]⟩
def o258 : Obj := f0 s42 s42 (topT 32)
def o259 : Obj := co #[.str s42 514, .str s42 515, .str s1 516, i 89, i 2, i 0, i 0, i 3, r 256, .bool true, i 181, r 257, .none, .none, .none, r 258, i 517, i 89, .str s1 518]
def o260 : Obj := fo s42 s42 (topT 32) (.str s4 436) (r 259)
def o261 : Obj := tu #[] 0
def o262 : Obj := ⟨.none, none, .fields #[], #[]⟩
def o263 : Obj := tu #[.str s54 523, .str s65 524] 0
def o264 : Obj := tu #[] 0
def o265 : Obj := f0 s43 s43 (topT 33)
def o266 : Obj := co #[.str s43 520, .str s43 521, .str s1 522, i 91, i 2, i 0, i 0, i 3, r 261, .bool true, i 181, r 262, .none, r 263, r 264, r 265, i 525, i 91, .str s1 526]
def o267 : Obj := fo s43 s43 (topT 33) (.str s4 436) (r 266)
def o268 : Obj := tu #[] 0
def o269 : Obj := ⟨.none, none, .fields #[], #[]⟩
def o270 : Obj := f0 s44 s44 (topT 34)
def o271 : Obj := co #[.str s44 528, .str s44 529, .str s1 530, i 93, i 4, i 0, i 0, i 3, r 268, .bool true, i 181, r 269, .none, .none, .none, r 270, i 531, i 93, .str s1 532]
def o272 : Obj := fo s44 s44 (topT 34) (.str s4 436) (r 271)
def o273 : Obj := tu #[] 0
def o274 : Obj := ⟨.none, none, .fields #[], #[]⟩
def o275 : Obj := tu #[.str s54 537, .str s65 538, .str s55 539] 0
def o276 : Obj := tu #[] 0
def o277 : Obj := f0 s45 s45 (topT 35)
def o278 : Obj := co #[.str s45 534, .str s45 535, .str s1 536, i 99, i 3, i 0, i 0, i 3, r 273, .bool true, i 181, r 274, .none, r 275, r 276, r 277, i 540, i 99, .str s1 541]
def o279 : Obj := fo s45 s45 (topT 35) (.str s4 436) (r 278)
def o3_1 (P : Params) : Obj := ⟨.type q1, none, .dict #[⟨kh P s3, .str s3 165, .str s67 1054⟩, ⟨kh P s5, .str s5 166, .none⟩, ⟨kh P s6, .str s6 167, .none⟩, ⟨kh P s7, .str s7 168, .builtin q2⟩, ⟨kh P s8, .str s8 169, .none⟩, ⟨kh P s9, .str s9 170, r 6⟩, ⟨kh P s10, .str s10 171, r 4⟩, ⟨kh P s11, .str s11 173, .str s1 172⟩, ⟨kh P s12, .str s12 174, .none⟩, ⟨kh P s13, .str s13 193, r 21⟩, ⟨kh P s14, .str s14 213, r 31⟩, ⟨kh P s15, .str s15 229, r 44⟩, ⟨kh P s16, .str s16 245, r 56⟩, ⟨kh P s17, .str s17 261, r 68⟩, ⟨kh P s18, .str s18 277, r 80⟩, ⟨kh P s19, .str s19 293, r 92⟩, ⟨kh P s20, .str s20 309, r 104⟩, ⟨kh P s21, .str s21 325, r 116⟩, ⟨kh P s22, .str s22 341, r 128⟩, ⟨kh P s23, .str s23 357, r 140⟩, ⟨kh P s24, .str s24 373, r 152⟩, ⟨kh P s25, .str s25 381, r 159⟩, ⟨kh P s26, .str s26 387, r 164⟩, ⟨kh P s27, .str s27 393, r 169⟩, ⟨kh P s28, .str s28 399, r 174⟩, ⟨kh P s29, .str s29 405, r 179⟩, ⟨kh P s30, .str s30 417, r 186⟩, ⟨kh P s31, .str s31 423, r 191⟩, ⟨kh P s32, .str s32 429, r 196⟩, ⟨kh P s33, .str s33 435, r 201⟩, ⟨kh P s34, .str s34 444, r 208⟩, ⟨kh P s35, .str s35 454, r 215⟩, ⟨kh P s36, .str s36 460, r 220⟩, ⟨kh P s37, .str s37 472, r 227⟩, ⟨kh P s38, .str s38 484, r 234⟩, ⟨kh P s39, .str s39 495, r 241⟩, ⟨kh P s40, .str s40 502, r 248⟩, ⟨kh P s41, .str s41 513, r 255⟩, ⟨kh P s42, .str s42 519, r 260⟩, ⟨kh P s43, .str s43 527, r 267⟩, ⟨kh P s44, .str s44 533, r 272⟩, ⟨kh P s45, .str s45 542, r 279⟩, ⟨kh P s68, .str s68 550, r 286⟩, ⟨kh P s69, .str s69 558, r 293⟩, ⟨kh P s70, .str s70 564, r 298⟩, ⟨kh P s71, .str s71 573, r 305⟩, ⟨kh P s72, .str s72 581, r 312⟩, ⟨kh P s73, .str s73 585, .str s74 584⟩, ⟨kh P s75, .str s75 587, .int 30 586⟩, ⟨kh P s76, .str s76 589, .int 1000000 588⟩, ⟨kh P s77, .str s77 595, r 317⟩, ⟨kh P s78, .str s78 602, r 324⟩, ⟨kh P s79, .str s79 609, r 331⟩, ⟨kh P s80, .str s80 629, r 341⟩, ⟨kh P s81, .str s81 659, r 369⟩, ⟨kh P s82, .str s82 705, r 409⟩, ⟨kh P s83, .str s83 814, r 498⟩, ⟨kh P s84, .str s84 893, r 566⟩, ⟨kh P s85, .str s85 972, r 634⟩, ⟨kh P s86, .str s86 980, r 641⟩, ⟨kh P s87, .str s87 988, r 648⟩, ⟨kh P s88, .str s88 996, r 655⟩, ⟨kh P s89, .str s89 1002, r 660⟩, ⟨kh P s90, .str s90 1013, r 667⟩, ⟨kh P s91, .str s91 1024, r 674⟩, ⟨kh P s92, .str s92 1036, r 681⟩, ⟨kh P s93, .str s93 1045, r 688⟩, ⟨kh P s94, .str s94 1053, r 693⟩, ⟨kh P s95, .str s95 1069, r 700⟩, ⟨kh P s96, .str s96 1075, r 705⟩] 70, #[]⟩
def o12_1 : Obj := ⟨.none, none, .fields #[i 1, i 0, r 20, i 5, i 0, r 27, i 7, i 0, r 40, i 9, i 0, r 52, i 11, i 0, r 64, i 13, i 0, r 76, i 15, i 0, r 88, i 17, i 0, r 100, i 19, i 0, r 112, i 21, i 0, r 124, i 23, i 0, r 136, i 25, i 0, r 148, i 28, i 0, r 158, i 30, i 0, r 163, i 32, i 0, r 168, i 34, i 0, r 173, i 36, i 0, r 178, i 40, i 0, r 185, i 45, i 0, r 190, i 47, i 0, r 195, i 49, i 0, r 200, i 52, i 0, r 207, i 55, i 0, r 214, i 60, i 0, r 219, i 62, i 0, r 226, i 68, i 0, r 233, i 77, i 0, r 240, i 82, i 0, r 247, i 84, i 0, r 254, i 89, i 0, r 259, i 91, i 0, r 266, i 93, i 0, r 271, i 99, i 0, r 278, i 102, i 0, r 285, i 105, i 0, r 292, i 107, i 0, r 297, i 115, i 0, r 304, i 117, i 0, r 311, i 130, i 0, r 316, i 139, i 0, r 323, i 143, i 0, r 330, i 146, i 0, r 337, i 148, i 0, r 351, i 155, i 0, r 377, i 168, i 0, r 417, i 218, i 0, r 506, i 252, i 0, r 574, i 283, i 0, r 640, i 285, i 0, r 647, i 288, i 0, r 654, i 290, i 0, r 659, i 295, i 0, r 666, i 304, i 0, r 673, i 310, i 0, r 680, i 317, i 0, r 687, i 321, i 0, r 692, i 325, i 0, r 699, i 337, i 0, r 704], #[]⟩
def o280 : Obj := tu #[] 0
def o281 : Obj := ⟨.none, none, .fields #[], #[]⟩
def o282 : Obj := tu #[.str s54 546, .str s65 547] 0
def o283 : Obj := tu #[] 0
def o284 : Obj := f0 s68 s68 (topT 36)
def o285 : Obj := co #[.str s68 543, .str s68 544, .str s1 545, i 102, i 2, i 0, i 0, i 3, r 280, .bool true, i 181, r 281, .none, r 282, r 283, r 284, i 548, i 102, .str s1 549]
def o286 : Obj := fo s68 s68 (topT 36) (.str s4 436) (r 285)
def o287 : Obj := tu #[] 0
def o288 : Obj := ⟨.none, none, .fields #[], #[]⟩
def o289 : Obj := tu #[.str s54 554, .str s65 555] 0
def o290 : Obj := tu #[] 0
def o291 : Obj := f0 s69 s69 (topT 37)
def o292 : Obj := co #[.str s69 551, .str s69 552, .str s1 553, i 105, i 2, i 0, i 0, i 3, r 287, .bool true, i 181, r 288, .none, r 289, r 290, r 291, i 556, i 105, .str s1 557]
def o293 : Obj := fo s69 s69 (topT 37) (.str s4 436) (r 292)
def o294 : Obj := tu #[] 0
def o295 : Obj := ⟨.none, none, .fields #[], #[]⟩
def o296 : Obj := f0 s70 s70 (topT 38)
def o297 : Obj := co #[.str s70 559, .str s70 560, .str s1 561, i 107, i 2, i 0, i 0, i 3, r 294, .bool true, i 181, r 295, .none, .none, .none, r 296, i 562, i 107, .str s1 563]
def o298 : Obj := fo s70 s70 (topT 38) (.str s4 436) (r 297)
def o299 : Obj := tu #[] 0
def o300 : Obj := ⟨.none, none, .fields #[], #[]⟩
def o301 : Obj := tu #[.str s97 570] 0
def o302 : Obj := tu #[] 0
def o303 : Obj := f0 s71 s71 (topT 40)
def o304 : Obj := co #[.str s71 567, .str s71 568, .str s1 569, i 115, i 1, i 0, i 0, i 3, r 299, .bool true, i 181, r 300, .none, r 301, r 302, r 303, i 571, i 115, .str s1 572]
def o305 : Obj := fo s71 s71 (topT 40) (.str s98 565) (r 304)
def o306 : Obj := tu #[] 0
def o307 : Obj := ⟨.none, none, .fields #[], #[]⟩
def o308 : Obj := tu #[.str s99 577, .str s100 578] 0
def o309 : Obj := tu #[] 0
def o310 : Obj := f0 s72 s72 (topT 41)
def o311 : Obj := co #[.str s72 574, .str s72 575, .str s1 576, i 117, i 1, i 0, i 0, i 3, r 306, .bool true, i 181, r 307, .none, r 308, r 309, r 310, i 579, i 117, .str s1 580]
def o312 : Obj := fo s72 s72 (topT 41) (.str s98 565) (r 311)
def o313 : Obj := tu #[] 0
def o314 : Obj := ⟨.none, none, .fields #[], #[]⟩
def o315 : Obj := f0 s77 s77 (topT 46)
def o316 : Obj := co #[.str s77 590, .str s77 591, .str s1 592, i 130, i 1, i 0, i 0, i 3, r 313, .bool true, i 181, r 314, .none, .none, .none, r 315, i 593, i 130, .str s1 594]
def o317 : Obj := fo s77 s77 (topT 46) (.str s101 582) (r 316)
def o318 : Obj := tu #[] 0
def o319 : Obj := ⟨.none, none, .fields #[], #[]⟩
def o320 : Obj := tu #[.str s102 599] 0
def o321 : Obj := tu #[] 0
def o322 : Obj := f0 s78 s78 (topT 47)
def o323 : Obj := co #[.str s78 596, .str s78 597, .str s1 598, i 139, i 1, i 0, i 0, i 3, r 318, .bool true, i 181, r 319, .none, r 320, r 321, r 322, i 600, i 139, .str s1 601]
def o324 : Obj := fo s78 s78 (topT 47) (.str s101 582) (r 323)
def o325 : Obj := tu #[] 0
def o326 : Obj := ⟨.none, none, .fields #[], #[]⟩
def o327 : Obj := tu #[.str s102 606] 0
def o328 : Obj := tu #[] 0
def o329 : Obj := f0 s79 s79 (topT 48)
def o330 : Obj := co #[.str s79 603, .str s79 604, .str s1 605, i 143, i 1, i 0, i 0, i 3, r 325, .bool true, i 181, r 326, .none, r 327, r 328, r 329, i 607, i 143, .str s1 608]
def o331 : Obj := fo s79 s79 (topT 48) (.str s101 582) (r 330)
def o332 : Obj := tu #[] 0
def o333 : Obj := ⟨.type q4, none, .fields #[.builtin q5, .type q6], #[]⟩
def o334 (P : Params) : Obj := ⟨.type q1, none, .dict #[⟨kh P s47, .str s47 617, .str s101 582⟩, ⟨kh P s49, .str s49 619, .str s80 618⟩, ⟨kh P s50, .str s50 621, .int 146 620⟩, ⟨kh P s51, .str s51 622, r 339⟩] 4, #[]⟩
def o335 : Obj := tu #[] 0
def o336 : Obj := ⟨.none, none, .fields #[], #[]⟩
def o337 : Obj := co #[.str s80 612, .str s80 613, .str s1 614, i 146, i 0, i 0, i 0, i 0, r 335, .bool false, i 181, r 336, .none, .none, .none, .none, i 615, i 146, .str s1 616]
def o338 : Obj := ⟨.type q0, none, .plain, #[some (r 337), some (r 3), some (r 334), none, some (.str s101 582), none, some (r 0)]⟩
def o339 : Obj := tu #[] 0
def o340 (P : Params) : Obj := ⟨.type q1, none, .dict #[⟨kh P s47, .str s47 617, .str s101 582⟩, ⟨kh P s50, .str s50 621, .int 146 620⟩, ⟨kh P s51, .str s51 622, r 339⟩, ⟨kh P s103, .str s103 624, r 342⟩, ⟨kh P s52, .str s52 626, r 343⟩, ⟨kh P s5, .str s5 627, .none⟩] 4, #[]⟩
def o341 : Obj := ⟨.type q6, none, .cls ⟨s80, [.type q9], [r 341, .type q9], 340, s80, true, [], [r 369, r 409], false, none, false⟩, #[none, none, some (.str s80 610), some (.str s80 618), some (.builtin q14), some (.bool true)]⟩
def o342 : Obj := ⟨.type q11, none, .fields #[.str s103 623, r 341, .builtin SL.s6511155373996960695x17, .builtin SL.s12411053484034534018x21], #[]⟩
def o343 : Obj := ⟨.type q11, none, .fields #[.str s52 625, r 341, .builtin SL.s10220274742760427390x26, .none], #[]⟩
def o344 : Obj := ⟨.type q12, none, .fields #[r 341, r 341, r 341], #[]⟩
def o345 : Obj := ⟨.type q4, none, .fields #[.builtin q13, r 341], #[]⟩
def o346 : Obj := tu #[r 341] 0
def o347 : Obj := ⟨.type q4, none, .fields #[.builtin q5, .type q6], #[]⟩
def o348 (P : Params) : Obj := ⟨.type q1, none, .dict #[⟨kh P s47, .str s47 637, .str s101 582⟩, ⟨kh P s49, .str s49 639, .str s81 638⟩, ⟨kh P s50, .str s50 641, .int 148 640⟩, ⟨kh P s104, .str s104 648, r 359⟩, ⟨kh P s105, .str s105 655, r 366⟩, ⟨kh P s51, .str s51 656, r 367⟩] 6, #[]⟩
def o349 : Obj := tu #[] 0
def o350 : Obj := ⟨.none, none, .fields #[i 150, i 4, r 358, i 153, i 4, r 365], #[]⟩
def o351 : Obj := co #[.str s81 632, .str s81 633, .str s1 634, i 148, i 0, i 0, i 0, i 0, r 349, .bool false, i 181, r 350, .none, .none, .none, .none, i 635, i 148, .str s1 636]
def o352 : Obj := ⟨.type q0, none, .plain, #[some (r 351), some (r 3), some (r 348), none, some (.str s101 582), none, some (r 0)]⟩
def o353 : Obj := tu #[] 0
def o354 : Obj := ⟨.none, none, .fields #[], #[]⟩
def o355 : Obj := tu #[.str s106 645] 0
def o356 : Obj := tu #[] 0
def o357 : Obj := f0 s104 s107 (L2.inClass (topT 50) 0)
def o358 : Obj := co #[.str s104 642, .str s107 643, .str s1 644, i 150, i 1, i 0, i 0, i 3, r 353, .bool true, i 181, r 354, .none, r 355, r 356, r 357, i 646, i 150, .str s1 647]
def o359 : Obj := fo s104 s107 (L2.inClass (topT 50) 0) (.str s101 582) (r 358)
def o360 : Obj := tu #[] 0
def o361 : Obj := ⟨.none, none, .fields #[], #[]⟩
def o362 : Obj := tu #[.str s106 652] 0
def o363 : Obj := tu #[] 0
def o364 : Obj := f0 s105 s108 (L2.inClass (topT 50) 1)
def o365 : Obj := co #[.str s105 649, .str s108 650, .str s1 651, i 153, i 1, i 0, i 0, i 3, r 360, .bool true, i 181, r 361, .none, r 362, r 363, r 364, i 653, i 153, .str s1 654]
def o366 : Obj := fo s105 s108 (L2.inClass (topT 50) 1) (.str s101 582) (r 365)
def o367 : Obj := tu #[] 0
def o368 (P : Params) : Obj := ⟨.type q1, none, .dict #[⟨kh P s47, .str s47 637, .str s101 582⟩, ⟨kh P s50, .str s50 641, .int 148 640⟩, ⟨kh P s104, .str s104 648, r 359⟩, ⟨kh P s105, .str s105 655, r 366⟩, ⟨kh P s51, .str s51 656, r 367⟩, ⟨kh P s5, .str s5 657, .none⟩] 2, #[]⟩
def o369 : Obj := ⟨.type q6, none, .cls ⟨s81, [r 341], [r 369, r 341, .type q9], 368, s81, true, [], [r 498], false, none, false⟩, #[some (r 346), none, some (.str s81 630), some (.str s81 638), some (.builtin q14), some (.bool true)]⟩
def o370 : Obj := ⟨.type q12, none, .fields #[r 369, r 369, r 369], #[]⟩
def o371 : Obj := ⟨.type q4, none, .fields #[.builtin q13, r 369], #[]⟩
def o372 : Obj := tu #[r 341] 0
def o373 : Obj := ⟨.type q4, none, .fields #[.builtin q5, .type q6], #[]⟩
def o374 (P : Params) : Obj := ⟨.type q1, none, .dict #[⟨kh P s47, .str s47 667, .str s101 582⟩, ⟨kh P s49, .str s49 669, .str s82 668⟩, ⟨kh P s50, .str s50 671, .int 155 670⟩, ⟨kh P s104, .str s104 678, r 385⟩, ⟨kh P s105, .str s105 685, r 392⟩, ⟨kh P s109, .str s109 693, r 399⟩, ⟨kh P s110, .str s110 701, r 406⟩, ⟨kh P s51, .str s51 702, r 407⟩] 8, #[]⟩
def o375 : Obj := tu #[] 0
def o376 : Obj := ⟨.none, none, .fields #[i 157, i 4, r 384, i 160, i 4, r 391, i 163, i 4, r 398, i 166, i 4, r 405], #[]⟩
def o377 : Obj := co #[.str s82 662, .str s82 663, .str s1 664, i 155, i 0, i 0, i 0, i 0, r 375, .bool false, i 181, r 376, .none, .none, .none, .none, i 665, i 155, .str s1 666]
def o378 : Obj := ⟨.type q0, none, .plain, #[some (r 377), some (r 3), some (r 374), none, some (.str s101 582), none, some (r 0)]⟩
def o379 : Obj := tu #[] 0
def o380 : Obj := ⟨.none, none, .fields #[], #[]⟩
def o381 : Obj := tu #[.str s106 675] 0
def o382 : Obj := tu #[] 0
def o383 : Obj := f0 s104 s111 (L2.inClass (topT 51) 0)
def o384 : Obj := co #[.str s104 672, .str s111 673, .str s1 674, i 157, i 1, i 0, i 0, i 3, r 379, .bool true, i 181, r 380, .none, r 381, r 382, r 383, i 676, i 157, .str s1 677]
def o385 : Obj := fo s104 s111 (L2.inClass (topT 51) 0) (.str s101 582) (r 384)
def o386 : Obj := tu #[] 0
def o387 : Obj := ⟨.none, none, .fields #[], #[]⟩
def o388 : Obj := tu #[.str s106 682] 0
def o389 : Obj := tu #[] 0
def o390 : Obj := f0 s105 s112 (L2.inClass (topT 51) 1)
def o391 : Obj := co #[.str s105 679, .str s112 680, .str s1 681, i 160, i 1, i 0, i 0, i 3, r 386, .bool true, i 181, r 387, .none, r 388, r 389, r 390, i 683, i 160, .str s1 684]
def o392 : Obj := fo s105 s112 (L2.inClass (topT 51) 1) (.str s101 582) (r 391)
def o393 : Obj := tu #[] 0
def o394 : Obj := ⟨.none, none, .fields #[], #[]⟩
def o395 : Obj := tu #[.str s106 689, .str s58 690] 0
def o396 : Obj := tu #[] 0
def o397 : Obj := f0 s109 s113 (L2.inClass (topT 51) 2)
def o398 : Obj := co #[.str s109 686, .str s113 687, .str s1 688, i 163, i 2, i 0, i 0, i 3, r 393, .bool true, i 181, r 394, .none, r 395, r 396, r 397, i 691, i 163, .str s1 692]
def o399 : Obj := fo s109 s113 (L2.inClass (topT 51) 2) (.str s101 582) (r 398)
def o400 : Obj := tu #[] 0
def o401 : Obj := ⟨.none, none, .fields #[], #[]⟩
def o402 : Obj := tu #[.str s106 697, .str s58 698] 0
def o403 : Obj := tu #[] 0
def o404 : Obj := f0 s110 s114 (L2.inClass (topT 51) 3)
def o405 : Obj := co #[.str s110 694, .str s114 695, .str s1 696, i 166, i 2, i 0, i 0, i 3, r 400, .bool true, i 181, r 401, .none, r 402, r 403, r 404, i 699, i 166, .str s1 700]
def o406 : Obj := fo s110 s114 (L2.inClass (topT 51) 3) (.str s101 582) (r 405)
def o407 : Obj := tu #[] 0
def o408 (P : Params) : Obj := ⟨.type q1, none, .dict #[⟨kh P s47, .str s47 667, .str s101 582⟩, ⟨kh P s50, .str s50 671, .int 155 670⟩, ⟨kh P s104, .str s104 678, r 385⟩, ⟨kh P s105, .str s105 685, r 392⟩, ⟨kh P s109, .str s109 693, r 399⟩, ⟨kh P s110, .str s110 701, r 406⟩, ⟨kh P s51, .str s51 702, r 407⟩, ⟨kh P s5, .str s5 703, .none⟩] 2, #[]⟩
def o409 : Obj := ⟨.type q6, none, .cls ⟨s82, [r 341], [r 409, r 341, .type q9], 408, s82, true, [], [r 566, r 634], false, none, false⟩, #[some (r 372), none, some (.str s82 660), some (.str s82 668), some (.builtin q14), some (.bool true)]⟩
def o410 : Obj := ⟨.type q12, none, .fields #[r 409, r 409, r 409], #[]⟩
def o411 : Obj := ⟨.type q4, none, .fields #[.builtin q13, r 409], #[]⟩
def o412 : Obj := tu #[r 369] 0
def o413 : Obj := ⟨.type q4, none, .fields #[.builtin q5, .type q6], #[]⟩
def o414 (P : Params) : Obj := ⟨.type q1, none, .dict #[⟨kh P s47, .str s47 713, .str s101 582⟩, ⟨kh P s49, .str s49 715, .str s83 714⟩, ⟨kh P s50, .str s50 717, .int 168 716⟩, ⟨kh P s115, .str s115 725, r 425⟩, ⟨kh P s66, .str s66 733, r 432⟩, ⟨kh P s116, .str s116 740, r 439⟩, ⟨kh P s117, .str s117 747, r 446⟩, ⟨kh P s118, .str s118 756, r 453⟩, ⟨kh P s119, .str s119 765, r 460⟩, ⟨kh P s109, .str s109 773, r 467⟩, ⟨kh P s110, .str s110 784, r 474⟩, ⟨kh P s120, .str s120 792, r 481⟩, ⟨kh P s121, .str s121 800, r 488⟩, ⟨kh P s122, .str s122 809, r 495⟩, ⟨kh P s51, .str s51 811, r 496⟩] 15, #[]⟩
def o415 : Obj := tu #[] 0
def o416 : Obj := ⟨.none, none, .fields #[i 170, i 4, r 424, i 175, i 4, r 431, i 179, i 4, r 438, i 182, i 4, r 445, i 185, i 4, r 452, i 188, i 4, r 459, i 191, i 4, r 466, i 194, i 4, r 473, i 207, i 4, r 480, i 210, i 4, r 487, i 213, i 4, r 494], #[]⟩
def o417 : Obj := co #[.str s83 708, .str s83 709, .str s1 710, i 168, i 0, i 0, i 0, i 0, r 415, .bool false, i 181, r 416, .none, .none, .none, .none, i 711, i 168, .str s1 712]
def o418 : Obj := ⟨.type q0, none, .plain, #[some (r 417), some (r 3), some (r 414), none, some (.str s101 582), none, some (r 0)]⟩
def o419 : Obj := tu #[] 0
def o420 : Obj := ⟨.none, none, .fields #[], #[]⟩
def o421 : Obj := tu #[.str s106 721, .str s123 722] 0
def o422 : Obj := tu #[] 0
def o423 : Obj := f0 s115 s124 (L2.inClass (topT 52) 0)
def o424 : Obj := co #[.str s115 718, .str s124 719, .str s1 720, i 170, i 2, i 0, i 0, i 3, r 419, .bool true, i 181, r 420, .none, r 421, r 422, r 423, i 723, i 170, .str s1 724]
def o425 : Obj := fo s115 s124 (L2.inClass (topT 52) 0) (.str s101 582) (r 424)
def o426 : Obj := tu #[] 0
def o427 : Obj := ⟨.none, none, .fields #[], #[]⟩
def o428 : Obj := tu #[.str s106 729, .str s123 730] 0
def o429 : Obj := tu #[] 0
def o430 : Obj := f0 s66 s125 (L2.inClass (topT 52) 1)
def o431 : Obj := co #[.str s66 726, .str s125 727, .str s1 728, i 175, i 1, i 0, i 0, i 3, r 426, .bool true, i 181, r 427, .none, r 428, r 429, r 430, i 731, i 175, .str s1 732]
def o432 : Obj := fo s66 s125 (L2.inClass (topT 52) 1) (.str s101 582) (r 431)
def o433 : Obj := tu #[] 0
def o434 : Obj := ⟨.none, none, .fields #[], #[]⟩
def o435 : Obj := tu #[.str s106 737] 0
def o436 : Obj := tu #[] 0
def o437 : Obj := f0 s116 s126 (L2.inClass (topT 52) 2)
def o438 : Obj := co #[.str s116 734, .str s126 735, .str s1 736, i 179, i 1, i 0, i 0, i 3, r 433, .bool true, i 181, r 434, .none, r 435, r 436, r 437, i 738, i 179, .str s1 739]
def o439 : Obj := fo s116 s126 (L2.inClass (topT 52) 2) (.str s101 582) (r 438)
def o440 : Obj := tu #[] 0
def o441 : Obj := ⟨.none, none, .fields #[], #[]⟩
def o442 : Obj := tu #[.str s106 744] 0
def o443 : Obj := tu #[] 0
def o444 : Obj := f0 s117 s127 (L2.inClass (topT 52) 3)
def o445 : Obj := co #[.str s117 741, .str s127 742, .str s1 743, i 182, i 1, i 0, i 0, i 3, r 440, .bool true, i 181, r 441, .none, r 442, r 443, r 444, i 745, i 182, .str s1 746]
def o446 : Obj := fo s117 s127 (L2.inClass (topT 52) 3) (.str s101 582) (r 445)
def o447 : Obj := tu #[] 0
def o448 : Obj := ⟨.none, none, .fields #[], #[]⟩
def o449 : Obj := tu #[.str s106 751, .str s58 752, .str s59 753] 0
def o450 : Obj := tu #[] 0
def o451 : Obj := f0 s118 s128 (L2.inClass (topT 52) 4)
def o452 : Obj := co #[.str s118 748, .str s128 749, .str s1 750, i 185, i 3, i 0, i 0, i 3, r 447, .bool true, i 181, r 448, .none, r 449, r 450, r 451, i 754, i 185, .str s1 755]
def o453 : Obj := fo s118 s128 (L2.inClass (topT 52) 4) (.str s101 582) (r 452)
def o454 : Obj := tu #[] 0
def o455 : Obj := ⟨.none, none, .fields #[], #[]⟩
def o456 : Obj := tu #[.str s106 760, .str s58 761, .str s59 762] 0
def o457 : Obj := tu #[] 0
def o458 : Obj := f0 s119 s129 (L2.inClass (topT 52) 5)
def o459 : Obj := co #[.str s119 757, .str s129 758, .str s1 759, i 188, i 3, i 0, i 0, i 3, r 454, .bool true, i 181, r 455, .none, r 456, r 457, r 458, i 763, i 188, .str s1 764]
def o460 : Obj := fo s119 s129 (L2.inClass (topT 52) 5) (.str s101 582) (r 459)
def o461 : Obj := tu #[] 0
def o462 : Obj := ⟨.none, none, .fields #[], #[]⟩
def o463 : Obj := tu #[.str s106 769, .str s58 770] 0
def o464 : Obj := tu #[] 0
def o465 : Obj := f0 s109 s130 (L2.inClass (topT 52) 6)
def o466 : Obj := co #[.str s109 766, .str s130 767, .str s1 768, i 191, i 2, i 0, i 0, i 3, r 461, .bool true, i 181, r 462, .none, r 463, r 464, r 465, i 771, i 191, .str s1 772]
def o467 : Obj := fo s109 s130 (L2.inClass (topT 52) 6) (.str s101 582) (r 466)
def o468 : Obj := tu #[] 0
def o469 : Obj := ⟨.none, none, .fields #[], #[]⟩
def o470 : Obj := tu #[.str s106 777, .str s58 778, .str s131 779, .str s132 780, .str s133 781] 0
def o471 : Obj := tu #[] 0
def o472 : Obj := f0 s110 s134 (L2.inClass (topT 52) 7)
def o473 : Obj := co #[.str s110 774, .str s134 775, .str s1 776, i 194, i 2, i 0, i 0, i 3, r 468, .bool true, i 181, r 469, .none, r 470, r 471, r 472, i 782, i 194, .str s1 783]
def o474 : Obj := fo s110 s134 (L2.inClass (topT 52) 7) (.str s101 582) (r 473)
def o475 : Obj := tu #[] 0
def o476 : Obj := ⟨.none, none, .fields #[], #[]⟩
def o477 : Obj := tu #[.str s106 788, .str s97 789] 0
def o478 : Obj := tu #[] 0
def o479 : Obj := f0 s120 s135 (L2.inClass (topT 52) 8)
def o480 : Obj := co #[.str s120 785, .str s135 786, .str s1 787, i 207, i 2, i 0, i 0, i 3, r 475, .bool true, i 181, r 476, .none, r 477, r 478, r 479, i 790, i 207, .str s1 791]
def o481 : Obj := fo s120 s135 (L2.inClass (topT 52) 8) (.str s101 582) (r 480)
def o482 : Obj := tu #[] 0
def o483 : Obj := ⟨.none, none, .fields #[], #[]⟩
def o484 : Obj := tu #[.str s106 796, .str s58 797] 0
def o485 : Obj := tu #[] 0
def o486 : Obj := f0 s121 s136 (L2.inClass (topT 52) 9)
def o487 : Obj := co #[.str s121 793, .str s136 794, .str s1 795, i 210, i 2, i 0, i 0, i 3, r 482, .bool true, i 181, r 483, .none, r 484, r 485, r 486, i 798, i 210, .str s1 799]
def o488 : Obj := fo s121 s136 (L2.inClass (topT 52) 9) (.str s101 582) (r 487)
def o489 : Obj := tu #[] 0
def o490 : Obj := ⟨.none, none, .fields #[], #[]⟩
def o491 : Obj := tu #[.str s106 804, .str s102 805, .str s99 806] 0
def o492 : Obj := tu #[] 0
def o493 : Obj := f0 s122 s137 (L2.inClass (topT 52) 10)
def o494 : Obj := co #[.str s122 801, .str s137 802, .str s1 803, i 213, i 2, i 0, i 0, i 3, r 489, .bool true, i 181, r 490, .none, r 491, r 492, r 493, i 807, i 213, .str s1 808]
def o495 : Obj := fo s122 s137 (L2.inClass (topT 52) 10) (.str s101 582) (r 494)
def o496 : Obj := tu #[.str s123 810] 0
def o497 (P : Params) : Obj := ⟨.type q1, none, .dict #[⟨kh P s47, .str s47 713, .str s101 582⟩, ⟨kh P s50, .str s50 717, .int 168 716⟩, ⟨kh P s115, .str s115 725, r 425⟩, ⟨kh P s66, .str s66 733, r 432⟩, ⟨kh P s116, .str s116 740, r 439⟩, ⟨kh P s117, .str s117 747, r 446⟩, ⟨kh P s118, .str s118 756, r 453⟩, ⟨kh P s119, .str s119 765, r 460⟩, ⟨kh P s109, .str s109 773, r 467⟩, ⟨kh P s110, .str s110 784, r 474⟩, ⟨kh P s120, .str s120 792, r 481⟩, ⟨kh P s121, .str s121 800, r 488⟩, ⟨kh P s122, .str s122 809, r 495⟩, ⟨kh P s51, .str s51 811, r 496⟩, ⟨kh P s5, .str s5 812, .none⟩] 2, #[]⟩
def o498 : Obj := ⟨.type q6, none, .cls ⟨s83, [r 369], [r 498, r 369, r 341, .type q9], 497, s83, true, [], [], false, none, false⟩, #[some (r 412), none, some (.str s83 706), some (.str s83 714), some (.builtin q14), some (.bool true)]⟩
def o499 : Obj := ⟨.type q12, none, .fields #[r 498, r 498, r 498], #[]⟩
def o500 : Obj := ⟨.type q4, none, .fields #[.builtin q13, r 498], #[]⟩
def o501 : Obj := tu #[r 409] 0
def o502 : Obj := ⟨.type q4, none, .fields #[.builtin q5, .type q6], #[]⟩
def o503 (P : Params) : Obj := ⟨.type q1, none, .dict #[⟨kh P s47, .str s47 822, .str s101 582⟩, ⟨kh P s49, .str s49 824, .str s84 823⟩, ⟨kh P s50, .str s50 826, .int 218 825⟩, ⟨kh P s66, .str s66 833, r 514⟩, ⟨kh P s116, .str s116 840, r 521⟩, ⟨kh P s117, .str s117 847, r 528⟩, ⟨kh P s118, .str s118 856, r 535⟩, ⟨kh P s119, .str s119 865, r 542⟩, ⟨kh P s120, .str s120 873, r 549⟩, ⟨kh P s121, .str s121 881, r 556⟩, ⟨kh P s122, .str s122 889, r 563⟩, ⟨kh P s51, .str s51 890, r 564⟩] 12, #[]⟩
def o504 : Obj := tu #[] 0
def o505 : Obj := ⟨.none, none, .fields #[i 220, i 4, r 513, i 223, i 4, r 520, i 226, i 4, r 527, i 229, i 4, r 534, i 236, i 4, r 541, i 241, i 4, r 548, i 244, i 4, r 555, i 247, i 4, r 562], #[]⟩
def o506 : Obj := co #[.str s84 817, .str s84 818, .str s1 819, i 218, i 0, i 0, i 0, i 0, r 504, .bool false, i 181, r 505, .none, .none, .none, .none, i 820, i 218, .str s1 821]
def o507 : Obj := ⟨.type q0, none, .plain, #[some (r 506), some (r 3), some (r 503), none, some (.str s101 582), none, some (r 0)]⟩
def o508 : Obj := tu #[] 0
def o509 : Obj := ⟨.none, none, .fields #[], #[]⟩
def o510 : Obj := tu #[.str s106 830] 0
def o511 : Obj := tu #[] 0
def o512 : Obj := f0 s66 s138 (L2.inClass (topT 53) 0)
def o513 : Obj := co #[.str s66 827, .str s138 828, .str s1 829, i 220, i 1, i 0, i 0, i 3, r 508, .bool true, i 181, r 509, .none, r 510, r 511, r 512, i 831, i 220, .str s1 832]
def o514 : Obj := fo s66 s138 (L2.inClass (topT 53) 0) (.str s101 582) (r 513)
def o515 : Obj := tu #[] 0
def o516 : Obj := ⟨.none, none, .fields #[], #[]⟩
def o517 : Obj := tu #[.str s106 837] 0
def o518 : Obj := tu #[] 0
def o519 : Obj := f0 s116 s139 (L2.inClass (topT 53) 1)
def o520 : Obj := co #[.str s116 834, .str s139 835, .str s1 836, i 223, i 1, i 0, i 0, i 3, r 515, .bool true, i 181, r 516, .none, r 517, r 518, r 519, i 838, i 223, .str s1 839]
def o521 : Obj := fo s116 s139 (L2.inClass (topT 53) 1) (.str s101 582) (r 520)
def o522 : Obj := tu #[] 0
def o523 : Obj := ⟨.none, none, .fields #[], #[]⟩
def o524 : Obj := tu #[.str s106 844] 0
def o525 : Obj := tu #[] 0
def o526 : Obj := f0 s117 s140 (L2.inClass (topT 53) 2)
def o527 : Obj := co #[.str s117 841, .str s140 842, .str s1 843, i 226, i 1, i 0, i 0, i 3, r 522, .bool true, i 181, r 523, .none, r 524, r 525, r 526, i 845, i 226, .str s1 846]
def o528 : Obj := fo s117 s140 (L2.inClass (topT 53) 2) (.str s101 582) (r 527)
def o529 : Obj := tu #[] 0
def o530 : Obj := ⟨.none, none, .fields #[], #[]⟩
def o531 : Obj := tu #[.str s106 851, .str s58 852, .str s59 853] 0
def o532 : Obj := tu #[] 0
def o533 : Obj := f0 s118 s141 (L2.inClass (topT 53) 3)
def o534 : Obj := co #[.str s118 848, .str s141 849, .str s1 850, i 229, i 3, i 0, i 0, i 3, r 529, .bool true, i 181, r 530, .none, r 531, r 532, r 533, i 854, i 229, .str s1 855]
def o535 : Obj := fo s118 s141 (L2.inClass (topT 53) 3) (.str s101 582) (r 534)
def o536 : Obj := tu #[] 0
def o537 : Obj := ⟨.none, none, .fields #[], #[]⟩
def o538 : Obj := tu #[.str s106 860, .str s58 861, .str s59 862] 0
def o539 : Obj := tu #[] 0
def o540 : Obj := f0 s119 s142 (L2.inClass (topT 53) 4)
def o541 : Obj := co #[.str s119 857, .str s142 858, .str s1 859, i 236, i 3, i 0, i 0, i 3, r 536, .bool true, i 181, r 537, .none, r 538, r 539, r 540, i 863, i 236, .str s1 864]
def o542 : Obj := fo s119 s142 (L2.inClass (topT 53) 4) (.str s101 582) (r 541)
def o543 : Obj := tu #[] 0
def o544 : Obj := ⟨.none, none, .fields #[], #[]⟩
def o545 : Obj := tu #[.str s106 869, .str s97 870] 0
def o546 : Obj := tu #[] 0
def o547 : Obj := f0 s120 s143 (L2.inClass (topT 53) 5)
def o548 : Obj := co #[.str s120 866, .str s143 867, .str s1 868, i 241, i 2, i 0, i 0, i 3, r 543, .bool true, i 181, r 544, .none, r 545, r 546, r 547, i 871, i 241, .str s1 872]
def o549 : Obj := fo s120 s143 (L2.inClass (topT 53) 5) (.str s101 582) (r 548)
def o550 : Obj := tu #[] 0
def o551 : Obj := ⟨.none, none, .fields #[], #[]⟩
def o552 : Obj := tu #[.str s106 877, .str s58 878] 0
def o553 : Obj := tu #[] 0
def o554 : Obj := f0 s121 s144 (L2.inClass (topT 53) 6)
def o555 : Obj := co #[.str s121 874, .str s144 875, .str s1 876, i 244, i 2, i 0, i 0, i 3, r 550, .bool true, i 181, r 551, .none, r 552, r 553, r 554, i 879, i 244, .str s1 880]
def o556 : Obj := fo s121 s144 (L2.inClass (topT 53) 6) (.str s101 582) (r 555)
def o557 : Obj := tu #[] 0
def o558 : Obj := ⟨.none, none, .fields #[], #[]⟩
def o559 : Obj := tu #[.str s106 885, .str s102 886] 0
def o560 : Obj := tu #[] 0
def o561 : Obj := f0 s122 s145 (L2.inClass (topT 53) 7)
def o562 : Obj := co #[.str s122 882, .str s145 883, .str s1 884, i 247, i 2, i 0, i 0, i 3, r 557, .bool true, i 181, r 558, .none, r 559, r 560, r 561, i 887, i 247, .str s1 888]
def o563 : Obj := fo s122 s145 (L2.inClass (topT 53) 7) (.str s101 582) (r 562)
def o564 : Obj := tu #[] 0
def o565 (P : Params) : Obj := ⟨.type q1, none, .dict #[⟨kh P s47, .str s47 822, .str s101 582⟩, ⟨kh P s50, .str s50 826, .int 218 825⟩, ⟨kh P s66, .str s66 833, r 514⟩, ⟨kh P s116, .str s116 840, r 521⟩, ⟨kh P s117, .str s117 847, r 528⟩, ⟨kh P s118, .str s118 856, r 535⟩, ⟨kh P s119, .str s119 865, r 542⟩, ⟨kh P s120, .str s120 873, r 549⟩, ⟨kh P s121, .str s121 881, r 556⟩, ⟨kh P s122, .str s122 889, r 563⟩, ⟨kh P s51, .str s51 890, r 564⟩, ⟨kh P s5, .str s5 891, .none⟩] 2, #[]⟩
def o566 : Obj := ⟨.type q6, none, .cls ⟨s84, [r 409], [r 566, r 409, r 341, .type q9], 565, s84, true, [], [], false, none, false⟩, #[some (r 501), none, some (.str s84 815), some (.str s84 823), some (.builtin q14), some (.bool true)]⟩
def o567 : Obj := ⟨.type q12, none, .fields #[r 566, r 566, r 566], #[]⟩
def o568 : Obj := ⟨.type q4, none, .fields #[.builtin q13, r 566], #[]⟩
def o569 : Obj := tu #[r 409] 0
def o570 : Obj := ⟨.type q4, none, .fields #[.builtin q5, .type q6], #[]⟩
def o571 (P : Params) : Obj := ⟨.type q1, none, .dict #[⟨kh P s47, .str s47 901, .str s101 582⟩, ⟨kh P s49, .str s49 903, .str s85 902⟩, ⟨kh P s50, .str s50 905, .int 252 904⟩, ⟨kh P s66, .str s66 912, r 582⟩, ⟨kh P s116, .str s116 919, r 589⟩, ⟨kh P s117, .str s117 926, r 596⟩, ⟨kh P s118, .str s118 935, r 603⟩, ⟨kh P s119, .str s119 944, r 610⟩, ⟨kh P s120, .str s120 952, r 617⟩, ⟨kh P s121, .str s121 960, r 624⟩, ⟨kh P s122, .str s122 968, r 631⟩, ⟨kh P s51, .str s51 969, r 632⟩] 12, #[]⟩
def o572 : Obj := tu #[] 0
def o573 : Obj := ⟨.none, none, .fields #[i 254, i 4, r 581, i 257, i 4, r 588, i 260, i 4, r 595, i 263, i 4, r 602, i 266, i 4, r 609, i 269, i 4, r 616, i 272, i 4, r 623, i 275, i 4, r 630], #[]⟩
def o574 : Obj := co #[.str s85 896, .str s85 897, .str s1 898, i 252, i 0, i 0, i 0, i 0, r 572, .bool false, i 181, r 573, .none, .none, .none, .none, i 899, i 252, .str s1 900]
def o575 : Obj := ⟨.type q0, none, .plain, #[some (r 574), some (r 3), some (r 571), none, some (.str s101 582), none, some (r 0)]⟩
def o576 : Obj := tu #[] 0
def o577 : Obj := ⟨.none, none, .fields #[], #[]⟩
def o578 : Obj := tu #[.str s106 909] 0
def o579 : Obj := tu #[] 0
def o580 : Obj := f0 s66 s146 (L2.inClass (topT 54) 0)
def o581 : Obj := co #[.str s66 906, .str s146 907, .str s1 908, i 254, i 1, i 0, i 0, i 3, r 576, .bool true, i 181, r 577, .none, r 578, r 579, r 580, i 910, i 254, .str s1 911]
def o582 : Obj := fo s66 s146 (L2.inClass (topT 54) 0) (.str s101 582) (r 581)
def o583 : Obj := tu #[] 0
def o584 : Obj := ⟨.none, none, .fields #[], #[]⟩
def o585 : Obj := tu #[.str s106 916] 0
def o586 : Obj := tu #[] 0
def o587 : Obj := f0 s116 s147 (L2.inClass (topT 54) 1)
def o588 : Obj := co #[.str s116 913, .str s147 914, .str s1 915, i 257, i 1, i 0, i 0, i 3, r 583, .bool true, i 181, r 584, .none, r 585, r 586, r 587, i 917, i 257, .str s1 918]
def o589 : Obj := fo s116 s147 (L2.inClass (topT 54) 1) (.str s101 582) (r 588)
def o590 : Obj := tu #[] 0
def o591 : Obj := ⟨.none, none, .fields #[], #[]⟩
def o592 : Obj := tu #[.str s106 923] 0
def o593 : Obj := tu #[] 0
def o594 : Obj := f0 s117 s148 (L2.inClass (topT 54) 2)
def o595 : Obj := co #[.str s117 920, .str s148 921, .str s1 922, i 260, i 1, i 0, i 0, i 3, r 590, .bool true, i 181, r 591, .none, r 592, r 593, r 594, i 924, i 260, .str s1 925]
def o596 : Obj := fo s117 s148 (L2.inClass (topT 54) 2) (.str s101 582) (r 595)
def o597 : Obj := tu #[] 0
def o598 : Obj := ⟨.none, none, .fields #[], #[]⟩
def o599 : Obj := tu #[.str s106 930, .str s58 931, .str s59 932] 0
def o600 : Obj := tu #[] 0
def o601 : Obj := f0 s118 s149 (L2.inClass (topT 54) 3)
def o602 : Obj := co #[.str s118 927, .str s149 928, .str s1 929, i 263, i 3, i 0, i 0, i 3, r 597, .bool true, i 181, r 598, .none, r 599, r 600, r 601, i 933, i 263, .str s1 934]
def o603 : Obj := fo s118 s149 (L2.inClass (topT 54) 3) (.str s101 582) (r 602)
def o604 : Obj := tu #[] 0
def o605 : Obj := ⟨.none, none, .fields #[], #[]⟩
def o606 : Obj := tu #[.str s106 939, .str s58 940, .str s59 941] 0
def o607 : Obj := tu #[] 0
def o608 : Obj := f0 s119 s150 (L2.inClass (topT 54) 4)
def o609 : Obj := co #[.str s119 936, .str s150 937, .str s1 938, i 266, i 3, i 0, i 0, i 3, r 604, .bool true, i 181, r 605, .none, r 606, r 607, r 608, i 942, i 266, .str s1 943]
def o610 : Obj := fo s119 s150 (L2.inClass (topT 54) 4) (.str s101 582) (r 609)
def o611 : Obj := tu #[] 0
def o612 : Obj := ⟨.none, none, .fields #[], #[]⟩
def o613 : Obj := tu #[.str s106 948, .str s97 949] 0
def o614 : Obj := tu #[] 0
def o615 : Obj := f0 s120 s151 (L2.inClass (topT 54) 5)
def o616 : Obj := co #[.str s120 945, .str s151 946, .str s1 947, i 269, i 2, i 0, i 0, i 3, r 611, .bool true, i 181, r 612, .none, r 613, r 614, r 615, i 950, i 269, .str s1 951]
def o617 : Obj := fo s120 s151 (L2.inClass (topT 54) 5) (.str s101 582) (r 616)
def o618 : Obj := tu #[] 0
def o619 : Obj := ⟨.none, none, .fields #[], #[]⟩
def o620 : Obj := tu #[.str s106 956, .str s58 957] 0
def o621 : Obj := tu #[] 0
def o622 : Obj := f0 s121 s152 (L2.inClass (topT 54) 6)
def o623 : Obj := co #[.str s121 953, .str s152 954, .str s1 955, i 272, i 2, i 0, i 0, i 3, r 618, .bool true, i 181, r 619, .none, r 620, r 621, r 622, i 958, i 272, .str s1 959]
def o624 : Obj := fo s121 s152 (L2.inClass (topT 54) 6) (.str s101 582) (r 623)
def o625 : Obj := tu #[] 0
def o626 : Obj := ⟨.none, none, .fields #[], #[]⟩
def o627 : Obj := tu #[.str s106 964, .str s102 965] 0
def o628 : Obj := tu #[] 0
def o629 : Obj := f0 s122 s153 (L2.inClass (topT 54) 7)
def o630 : Obj := co #[.str s122 961, .str s153 962, .str s1 963, i 275, i 2, i 0, i 0, i 3, r 625, .bool true, i 181, r 626, .none, r 627, r 628, r 629, i 966, i 275, .str s1 967]
def o631 : Obj := fo s122 s153 (L2.inClass (topT 54) 7) (.str s101 582) (r 630)
def o632 : Obj := tu #[] 0
def o633 (P : Params) : Obj := ⟨.type q1, none, .dict #[⟨kh P s47, .str s47 901, .str s101 582⟩, ⟨kh P s50, .str s50 905, .int 252 904⟩, ⟨kh P s66, .str s66 912, r 582⟩, ⟨kh P s116, .str s116 919, r 589⟩, ⟨kh P s117, .str s117 926, r 596⟩, ⟨kh P s118, .str s118 935, r 603⟩, ⟨kh P s119, .str s119 944, r 610⟩, ⟨kh P s120, .str s120 952, r 617⟩, ⟨kh P s121, .str s121 960, r 624⟩, ⟨kh P s122, .str s122 968, r 631⟩, ⟨kh P s51, .str s51 969, r 632⟩, ⟨kh P s5, .str s5 970, .none⟩] 2, #[]⟩
def o634 : Obj := ⟨.type q6, none, .cls ⟨s85, [r 409], [r 634, r 409, r 341, .type q9], 633, s85, true, [], [], false, none, false⟩, #[some (r 569), none, some (.str s85 894), some (.str s85 902), some (.builtin q14), some (.bool true)]⟩
def o635 : Obj := ⟨.type q12, none, .fields #[r 634, r 634, r 634], #[]⟩
def o636 : Obj := ⟨.type q4, none, .fields #[.builtin q13, r 634], #[]⟩
def o637 : Obj := tu #[] 0
def o638 : Obj := ⟨.none, none, .fields #[], #[]⟩
def o639 : Obj := f0 s86 s86 (topT 56)
def o640 : Obj := co #[.str s86 975, .str s86 976, .str s1 977, i 283, i 2, i 0, i 0, i 3, r 637, .bool true, i 181, r 638, .none, .none, .none, r 639, i 978, i 283, .str s1 979]
def o641 : Obj := fo s86 s86 (topT 56) (.str s154 973) (r 640)
def o642 : Obj := tu #[] 0
def o643 : Obj := ⟨.none, none, .fields #[], #[]⟩
def o644 : Obj := tu #[.str s155 984, .str s97 985] 0
def o645 : Obj := tu #[] 0
def o646 : Obj := f0 s87 s87 (topT 57)
def o647 : Obj := co #[.str s87 981, .str s87 982, .str s1 983, i 285, i 2, i 0, i 0, i 3, r 642, .bool true, i 181, r 643, .none, r 644, r 645, r 646, i 986, i 285, .str s1 987]
def o648 : Obj := fo s87 s87 (topT 57) (.str s154 973) (r 647)
def o649 : Obj := tu #[] 0
def o650 : Obj := ⟨.none, none, .fields #[], #[]⟩
def o651 : Obj := tu #[.str s156 992, .str s157 993] 0
def o652 : Obj := tu #[] 0
def o653 : Obj := f0 s88 s88 (topT 58)
def o654 : Obj := co #[.str s88 989, .str s88 990, .str s1 991, i 288, i 2, i 0, i 0, i 3, r 649, .bool true, i 181, r 650, .none, r 651, r 652, r 653, i 994, i 288, .str s1 995]
def o655 : Obj := fo s88 s88 (topT 58) (.str s154 973) (r 654)
def o656 : Obj := tu #[] 0
def o657 : Obj := ⟨.none, none, .fields #[], #[]⟩
def o658 : Obj := f0 s89 s89 (topT 59)
def o659 : Obj := co #[.str s89 997, .str s89 998, .str s1 999, i 290, i 2, i 0, i 0, i 3, r 656, .bool true, i 181, r 657, .none, .none, .none, r 658, i 1000, i 290, .str s1 1001]
def o660 : Obj := fo s89 s89 (topT 59) (.str s154 973) (r 659)
def o661 : Obj := tu #[] 0
def o662 : Obj := ⟨.none, none, .fields #[], #[]⟩
def o663 : Obj := tu #[.str s155 1006, .str s158 1007, .str s66 1008, .str s159 1009, .str s160 1010] 0
def o664 : Obj := tu #[] 0
def o665 : Obj := f0 s90 s90 (topT 60)
def o666 : Obj := co #[.str s90 1003, .str s90 1004, .str s1 1005, i 295, i 2, i 0, i 0, i 3, r 661, .bool true, i 181, r 662, .none, r 663, r 664, r 665, i 1011, i 295, .str s1 1012]
def o667 : Obj := fo s90 s90 (topT 60) (.str s154 973) (r 666)
def o668 : Obj := tu #[] 0
def o669 : Obj := ⟨.none, none, .fields #[], #[]⟩
def o670 : Obj := tu #[.str s54 1017, .str s156 1018, .str s161 1019, .str s55 1020, .str s157 1021] 0
def o671 : Obj := tu #[] 0
def o672 : Obj := f0 s91 s91 (topT 61)
def o673 : Obj := co #[.str s91 1014, .str s91 1015, .str s1 1016, i 304, i 3, i 0, i 0, i 3, r 668, .bool true, i 181, r 669, .none, r 670, r 671, r 672, i 1022, i 304, .str s1 1023]
def o674 : Obj := fo s91 s91 (topT 61) (.str s154 973) (r 673)
def o675 : Obj := tu #[] 0
def o676 : Obj := ⟨.none, none, .fields #[], #[]⟩
def o677 : Obj := tu #[.str s54 1028, .str s156 1029, .str s161 1030, .str s56 1031, .str s66 1032, .str s157 1033] 0
def o678 : Obj := tu #[] 0
def o679 : Obj := f0 s92 s92 (topT 62)
def o680 : Obj := co #[.str s92 1025, .str s92 1026, .str s1 1027, i 310, i 3, i 0, i 0, i 3, r 675, .bool true, i 181, r 676, .none, r 677, r 678, r 679, i 1034, i 310, .str s1 1035]
def o681 : Obj := fo s92 s92 (topT 62) (.str s154 973) (r 680)
def o682 : Obj := tu #[] 0
def o683 : Obj := ⟨.none, none, .fields #[], #[]⟩
def o684 : Obj := tu #[.str s54 1040, .str s156 1041, .str s161 1042] 0
def o685 : Obj := tu #[] 0
def o686 : Obj := f0 s93 s93 (topT 63)
def o687 : Obj := co #[.str s93 1037, .str s93 1038, .str s1 1039, i 317, i 3, i 0, i 0, i 3, r 682, .bool true, i 181, r 683, .none, r 684, r 685, r 686, i 1043, i 317, .str s1 1044]
def o688 : Obj := fo s93 s93 (topT 63) (.str s154 973) (r 687)
def o689 : Obj := tu #[] 0
def o690 : Obj := ⟨.none, none, .fields #[], #[]⟩
def o691 : Obj := f0 s94 s94 (topT 65)
def o692 : Obj := co #[.str s94 1048, .str s94 1049, .str s1 1050, i 321, i 1, i 0, i 0, i 3, r 689, .bool true, i 181, r 690, .none, .none, .none, r 691, i 1051, i 321, .str s1 1052]
def o693 : Obj := fo s94 s94 (topT 65) (.str s162 1046) (r 692)
def o694 : Obj := tu #[] 0
def o695 : Obj := ⟨.none, none, .fields #[], #[]⟩
def o696 : Obj := tu #[.str s54 1059, .str s163 1060, .str s164 1061, .str s62 1062, .str s66 1063, .str s159 1064, .str s165 1065, .str s166 1066] 0
def o697 : Obj := tu #[] 0
def o698 : Obj := f0 s95 s95 (topT 67)
def o699 : Obj := co #[.str s95 1056, .str s95 1057, .str s1 1058, i 325, i 3, i 0, i 0, i 3, r 694, .bool true, i 181, r 695, .none, r 696, r 697, r 698, i 1067, i 325, .str s1 1068]
def o700 : Obj := fo s95 s95 (topT 67) (.str s67 1054) (r 699)
def o701 : Obj := tu #[] 0
def o702 : Obj := ⟨.none, none, .fields #[], #[]⟩
def o703 : Obj := f0 s96 s96 (topT 68)
def o704 : Obj := co #[.str s96 1070, .str s96 1071, .str s1 1072, i 337, i 3, i 0, i 0, i 3, r 701, .bool true, i 181, r 702, .none, .none, .none, r 703, i 1073, i 337, .str s1 1074]
def o705 : Obj := fo s96 s96 (topT 68) (.str s67 1054) (r 704)
def o3_2 (P : Params) : Obj := ⟨.type q1, none, .dict #[⟨kh P s3, .str s3 165, .str s167 1175⟩, ⟨kh P s5, .str s5 166, .none⟩, ⟨kh P s6, .str s6 167, .none⟩, ⟨kh P s7, .str s7 168, .builtin q2⟩, ⟨kh P s8, .str s8 169, .none⟩, ⟨kh P s9, .str s9 170, r 6⟩, ⟨kh P s10, .str s10 171, r 4⟩, ⟨kh P s11, .str s11 173, .str s1 172⟩, ⟨kh P s12, .str s12 174, .none⟩, ⟨kh P s13, .str s13 193, r 21⟩, ⟨kh P s14, .str s14 213, r 31⟩, ⟨kh P s15, .str s15 229, r 44⟩, ⟨kh P s16, .str s16 245, r 56⟩, ⟨kh P s17, .str s17 261, r 68⟩, ⟨kh P s18, .str s18 277, r 80⟩, ⟨kh P s19, .str s19 293, r 92⟩, ⟨kh P s20, .str s20 309, r 104⟩, ⟨kh P s21, .str s21 325, r 116⟩, ⟨kh P s22, .str s22 341, r 128⟩, ⟨kh P s23, .str s23 357, r 140⟩, ⟨kh P s24, .str s24 373, r 152⟩, ⟨kh P s25, .str s25 381, r 159⟩, ⟨kh P s26, .str s26 387, r 164⟩, ⟨kh P s27, .str s27 393, r 169⟩, ⟨kh P s28, .str s28 399, r 174⟩, ⟨kh P s29, .str s29 405, r 179⟩, ⟨kh P s30, .str s30 417, r 186⟩, ⟨kh P s31, .str s31 423, r 191⟩, ⟨kh P s32, .str s32 429, r 196⟩, ⟨kh P s33, .str s33 435, r 201⟩, ⟨kh P s34, .str s34 444, r 208⟩, ⟨kh P s35, .str s35 454, r 215⟩, ⟨kh P s36, .str s36 460, r 220⟩, ⟨kh P s37, .str s37 472, r 227⟩, ⟨kh P s38, .str s38 484, r 234⟩, ⟨kh P s39, .str s39 495, r 241⟩, ⟨kh P s40, .str s40 502, r 248⟩, ⟨kh P s41, .str s41 513, r 255⟩, ⟨kh P s42, .str s42 519, r 260⟩, ⟨kh P s43, .str s43 527, r 267⟩, ⟨kh P s44, .str s44 533, r 272⟩, ⟨kh P s45, .str s45 542, r 279⟩, ⟨kh P s68, .str s68 550, r 286⟩, ⟨kh P s69, .str s69 558, r 293⟩, ⟨kh P s70, .str s70 564, r 298⟩, ⟨kh P s71, .str s71 573, r 305⟩, ⟨kh P s72, .str s72 581, r 312⟩, ⟨kh P s73, .str s73 585, .str s74 584⟩, ⟨kh P s75, .str s75 587, .int 30 586⟩, ⟨kh P s76, .str s76 589, .int 1000000 588⟩, ⟨kh P s77, .str s77 595, r 317⟩, ⟨kh P s78, .str s78 602, r 324⟩, ⟨kh P s79, .str s79 609, r 331⟩, ⟨kh P s80, .str s80 629, r 341⟩, ⟨kh P s81, .str s81 659, r 369⟩, ⟨kh P s82, .str s82 705, r 409⟩, ⟨kh P s83, .str s83 814, r 498⟩, ⟨kh P s84, .str s84 893, r 566⟩, ⟨kh P s85, .str s85 972, r 634⟩, ⟨kh P s86, .str s86 980, r 641⟩, ⟨kh P s87, .str s87 988, r 648⟩, ⟨kh P s88, .str s88 996, r 655⟩, ⟨kh P s89, .str s89 1002, r 660⟩, ⟨kh P s90, .str s90 1013, r 667⟩, ⟨kh P s91, .str s91 1024, r 674⟩, ⟨kh P s92, .str s92 1036, r 681⟩, ⟨kh P s93, .str s93 1045, r 688⟩, ⟨kh P s94, .str s94 1053, r 693⟩, ⟨kh P s95, .str s95 1069, r 700⟩, ⟨kh P s96, .str s96 1075, r 705⟩, ⟨kh P s168, .str s168 1081, r 710⟩, ⟨kh P s169, .str s169 1091, r 717⟩, ⟨kh P s170, .str s170 1101, r 724⟩, ⟨kh P s171, .str s171 1107, r 729⟩, ⟨kh P s172, .str s172 1113, r 734⟩, ⟨kh P s173, .str s173 1119, r 739⟩, ⟨kh P s174, .str s174 1127, r 746⟩, ⟨kh P s175, .str s175 1133, r 751⟩, ⟨kh P s176, .str s176 1139, r 756⟩, ⟨kh P s177, .str s177 1145, r 761⟩, ⟨kh P s178, .str s178 1151, r 766⟩, ⟨kh P s179, .str s179 1157, r 771⟩, ⟨kh P s180, .str s180 1168, r 778⟩, ⟨kh P s181, .str s181 1174, r 783⟩, ⟨kh P s182, .str s182 1185, r 790⟩, ⟨kh P s183, .str s183 1194, r 797⟩, ⟨kh P s184, .str s184 1202, r 804⟩, ⟨kh P s185, .str s185 1208, r 809⟩, ⟨kh P s186, .str s186 1220, r 816⟩, ⟨kh P s187, .str s187 1235, r 823⟩, ⟨kh P s188, .str s188 1241, r 828⟩] 91, #[]⟩
def o12_2 : Obj := ⟨.none, none, .fields #[i 1, i 0, r 20, i 5, i 0, r 27, i 7, i 0, r 40, i 9, i 0, r 52, i 11, i 0, r 64, i 13, i 0, r 76, i 15, i 0, r 88, i 17, i 0, r 100, i 19, i 0, r 112, i 21, i 0, r 124, i 23, i 0, r 136, i 25, i 0, r 148, i 28, i 0, r 158, i 30, i 0, r 163, i 32, i 0, r 168, i 34, i 0, r 173, i 36, i 0, r 178, i 40, i 0, r 185, i 45, i 0, r 190, i 47, i 0, r 195, i 49, i 0, r 200, i 52, i 0, r 207, i 55, i 0, r 214, i 60, i 0, r 219, i 62, i 0, r 226, i 68, i 0, r 233, i 77, i 0, r 240, i 82, i 0, r 247, i 84, i 0, r 254, i 89, i 0, r 259, i 91, i 0, r 266, i 93, i 0, r 271, i 99, i 0, r 278, i 102, i 0, r 285, i 105, i 0, r 292, i 107, i 0, r 297, i 115, i 0, r 304, i 117, i 0, r 311, i 130, i 0, r 316, i 139, i 0, r 323, i 143, i 0, r 330, i 146, i 0, r 337, i 148, i 0, r 351, i 155, i 0, r 377, i 168, i 0, r 417, i 218, i 0, r 506, i 252, i 0, r 574, i 283, i 0, r 640, i 285, i 0, r 647, i 288, i 0, r 654, i 290, i 0, r 659, i 295, i 0, r 666, i 304, i 0, r 673, i 310, i 0, r 680, i 317, i 0, r 687, i 321, i 0, r 692, i 325, i 0, r 699, i 337, i 0, r 704, i 342, i 0, r 709, i 347, i 0, r 716, i 349, i 0, r 723, i 351, i 0, r 728, i 353, i 0, r 733, i 360, i 0, r 738, i 363, i 0, r 745, i 365, i 0, r 750, i 368, i 0, r 755, i 371, i 0, r 760, i 377, i 0, r 765, i 383, i 0, r 770, i 394, i 0, r 777, i 398, i 0, r 782, i 413, i 0, r 789, i 422, i 0, r 796, i 429, i 0, r 803, i 433, i 0, r 808, i 444, i 0, r 815, i 462, i 0, r 822, i 471, i 0, r 827], #[]⟩
def o706 : Obj := tu #[] 0
def o707 : Obj := ⟨.none, none, .fields #[], #[]⟩
def o708 : Obj := f0 s168 s168 (topT 69)
def o709 : Obj := co #[.str s168 1076, .str s168 1077, .str s1 1078, i 342, i 3, i 0, i 0, i 3, r 706, .bool true, i 181, r 707, .none, .none, .none, r 708, i 1079, i 342, .str s1 1080]
def o710 : Obj := fo s168 s168 (topT 69) (.str s67 1054) (r 709)
def o711 : Obj := tu #[] 0
def o712 : Obj := ⟨.none, none, .fields #[], #[]⟩
def o713 : Obj := tu #[.str s54 1085, .str s156 1086] 0
def o714 : Obj := tu #[.str s54 1087, .str s156 1088] 0
def o715 : Obj := f0 s169 s169 (topT 70)
def o716 : Obj := co #[.str s169 1082, .str s169 1083, .str s1 1084, i 347, i 2, i 0, i 0, i 3, r 711, .bool true, i 181, r 712, .none, r 713, r 714, r 715, i 1089, i 347, .str s1 1090]
def o717 : Obj := fo s169 s169 (topT 70) (.str s67 1054) (r 716)
def o718 : Obj := tu #[] 0
def o719 : Obj := ⟨.none, none, .fields #[], #[]⟩
def o720 : Obj := tu #[.str s54 1095, .str s156 1096] 0
def o721 : Obj := tu #[.str s54 1097, .str s156 1098] 0
def o722 : Obj := f0 s170 s170 (topT 71)
def o723 : Obj := co #[.str s170 1092, .str s170 1093, .str s1 1094, i 349, i 2, i 0, i 0, i 3, r 718, .bool true, i 181, r 719, .none, r 720, r 721, r 722, i 1099, i 349, .str s1 1100]
def o724 : Obj := fo s170 s170 (topT 71) (.str s67 1054) (r 723)
def o725 : Obj := tu #[] 0
def o726 : Obj := ⟨.none, none, .fields #[], #[]⟩
def o727 : Obj := f0 s171 s171 (topT 72)
def o728 : Obj := co #[.str s171 1102, .str s171 1103, .str s1 1104, i 351, i 2, i 0, i 0, i 3, r 725, .bool true, i 181, r 726, .none, .none, .none, r 727, i 1105, i 351, .str s1 1106]
def o729 : Obj := fo s171 s171 (topT 72) (.str s67 1054) (r 728)
def o730 : Obj := tu #[] 0
def o731 : Obj := ⟨.none, none, .fields #[], #[]⟩
def o732 : Obj := f0 s172 s172 (topT 73)
def o733 : Obj := co #[.str s172 1108, .str s172 1109, .str s1 1110, i 353, i 3, i 0, i 0, i 3, r 730, .bool true, i 181, r 731, .none, .none, .none, r 732, i 1111, i 353, .str s1 1112]
def o734 : Obj := fo s172 s172 (topT 73) (.str s67 1054) (r 733)
def o735 : Obj := tu #[] 0
def o736 : Obj := ⟨.none, none, .fields #[], #[]⟩
def o737 : Obj := f0 s173 s173 (topT 74)
def o738 : Obj := co #[.str s173 1114, .str s173 1115, .str s1 1116, i 360, i 2, i 0, i 0, i 3, r 735, .bool true, i 181, r 736, .none, .none, .none, r 737, i 1117, i 360, .str s1 1118]
def o739 : Obj := fo s173 s173 (topT 74) (.str s67 1054) (r 738)
def o740 : Obj := tu #[] 0
def o741 : Obj := ⟨.none, none, .fields #[], #[]⟩
def o742 : Obj := tu #[.str s54 1123, .str s156 1124] 0
def o743 : Obj := tu #[] 0
def o744 : Obj := f0 s174 s174 (topT 75)
def o745 : Obj := co #[.str s174 1120, .str s174 1121, .str s1 1122, i 363, i 2, i 0, i 0, i 3, r 740, .bool true, i 181, r 741, .none, r 742, r 743, r 744, i 1125, i 363, .str s1 1126]
def o746 : Obj := fo s174 s174 (topT 75) (.str s67 1054) (r 745)
def o747 : Obj := tu #[] 0
def o748 : Obj := ⟨.none, none, .fields #[], #[]⟩
def o749 : Obj := f0 s175 s175 (topT 76)
def o750 : Obj := co #[.str s175 1128, .str s175 1129, .str s1 1130, i 365, i 2, i 0, i 0, i 3, r 747, .bool true, i 181, r 748, .none, .none, .none, r 749, i 1131, i 365, .str s1 1132]
def o751 : Obj := fo s175 s175 (topT 76) (.str s67 1054) (r 750)
def o752 : Obj := tu #[] 0
def o753 : Obj := ⟨.none, none, .fields #[], #[]⟩
def o754 : Obj := f0 s176 s176 (topT 77)
def o755 : Obj := co #[.str s176 1134, .str s176 1135, .str s1 1136, i 368, i 2, i 0, i 0, i 3, r 752, .bool true, i 181, r 753, .none, .none, .none, r 754, i 1137, i 368, .str s1 1138]
def o756 : Obj := fo s176 s176 (topT 77) (.str s67 1054) (r 755)
def o757 : Obj := tu #[] 0
def o758 : Obj := ⟨.none, none, .fields #[], #[]⟩
def o759 : Obj := f0 s177 s177 (topT 78)
def o760 : Obj := co #[.str s177 1140, .str s177 1141, .str s1 1142, i 371, i 5, i 0, i 0, i 3, r 757, .bool true, i 181, r 758, .none, .none, .none, r 759, i 1143, i 371, .str s1 1144]
def o761 : Obj := fo s177 s177 (topT 78) (.str s67 1054) (r 760)
def o762 : Obj := tu #[] 0
def o763 : Obj := ⟨.none, none, .fields #[], #[]⟩
def o764 : Obj := f0 s178 s178 (topT 79)
def o765 : Obj := co #[.str s178 1146, .str s178 1147, .str s1 1148, i 377, i 2, i 0, i 0, i 3, r 762, .bool true, i 181, r 763, .none, .none, .none, r 764, i 1149, i 377, .str s1 1150]
def o766 : Obj := fo s178 s178 (topT 79) (.str s67 1054) (r 765)
def o767 : Obj := tu #[] 0
def o768 : Obj := ⟨.none, none, .fields #[], #[]⟩
def o769 : Obj := f0 s179 s179 (topT 80)
def o770 : Obj := co #[.str s179 1152, .str s179 1153, .str s1 1154, i 383, i 2, i 0, i 0, i 3, r 767, .bool true, i 181, r 768, .none, .none, .none, r 769, i 1155, i 383, .str s1 1156]
def o771 : Obj := fo s179 s179 (topT 80) (.str s67 1054) (r 770)
def o772 : Obj := tu #[] 0
def o773 : Obj := ⟨.none, none, .fields #[], #[]⟩
def o774 : Obj := tu #[.str s189 1163, .str s190 1164, .str s161 1165] 0
def o775 : Obj := tu #[] 0
def o776 : Obj := f0 s180 s180 (topT 82)
def o777 : Obj := co #[.str s180 1160, .str s180 1161, .str s1 1162, i 394, i 3, i 0, i 0, i 3, r 772, .bool true, i 181, r 773, .none, r 774, r 775, r 776, i 1166, i 394, .str s1 1167]
def o778 : Obj := fo s180 s180 (topT 82) (.str s191 1158) (r 777)
def o779 : Obj := tu #[] 0
def o780 : Obj := ⟨.none, none, .fields #[], #[]⟩
def o781 : Obj := f0 s181 s181 (topT 83)
def o782 : Obj := co #[.str s181 1169, .str s181 1170, .str s1 1171, i 398, i 4, i 0, i 0, i 3, r 779, .bool true, i 181, r 780, .none, .none, .none, r 781, i 1172, i 398, .str s1 1173]
def o783 : Obj := fo s181 s181 (topT 83) (.str s191 1158) (r 782)
def o784 : Obj := tu #[] 0
def o785 : Obj := ⟨.none, none, .fields #[], #[]⟩
def o786 : Obj := tu #[.str s192 1180, .str s193 1181, .str s194 1182] 0
def o787 : Obj := tu #[] 0
def o788 : Obj := f0 s182 s182 (topT 85)
def o789 : Obj := co #[.str s182 1177, .str s182 1178, .str s1 1179, i 413, i 2, i 0, i 0, i 3, r 784, .bool true, i 181, r 785, .none, r 786, r 787, r 788, i 1183, i 413, .str s1 1184]
def o790 : Obj := fo s182 s182 (topT 85) (.str s167 1175) (r 789)
def o791 : Obj := tu #[] 0
def o792 : Obj := ⟨.none, none, .fields #[], #[]⟩
def o793 : Obj := tu #[.str s195 1189, .str s196 1190, .str s197 1191] 0
def o794 : Obj := tu #[] 0
def o795 : Obj := f0 s183 s183 (topT 86)
def o796 : Obj := co #[.str s183 1186, .str s183 1187, .str s1 1188, i 422, i 1, i 0, i 0, i 3, r 791, .bool true, i 181, r 792, .none, r 793, r 794, r 795, i 1192, i 422, .str s1 1193]
def o797 : Obj := fo s183 s183 (topT 86) (.str s167 1175) (r 796)
def o798 : Obj := tu #[] 0
def o799 : Obj := ⟨.none, none, .fields #[], #[]⟩
def o800 : Obj := tu #[.str s192 1198, .str s198 1199] 0
def o801 : Obj := tu #[] 0
def o802 : Obj := f0 s184 s184 (topT 87)
def o803 : Obj := co #[.str s184 1195, .str s184 1196, .str s1 1197, i 429, i 2, i 0, i 0, i 3, r 798, .bool true, i 181, r 799, .none, r 800, r 801, r 802, i 1200, i 429, .str s1 1201]
def o804 : Obj := fo s184 s184 (topT 87) (.str s167 1175) (r 803)
def o805 : Obj := tu #[] 0
def o806 : Obj := ⟨.none, none, .fields #[], #[]⟩
def o807 : Obj := f0 s185 s185 (topT 88)
def o808 : Obj := co #[.str s185 1203, .str s185 1204, .str s1 1205, i 433, i 2, i 0, i 0, i 3, r 805, .bool true, i 181, r 806, .none, .none, .none, r 807, i 1206, i 433, .str s1 1207]
def o809 : Obj := fo s185 s185 (topT 88) (.str s167 1175) (r 808)
def o810 : Obj := tu #[] 0
def o811 : Obj := ⟨.none, none, .fields #[], #[]⟩
def o812 : Obj := tu #[.str s199 1212, .str s200 1213, .str s201 1214, .str s202 1215, .str s203 1216, .str s204 1217] 0
def o813 : Obj := tu #[] 0
def o814 : Obj := f0 s186 s186 (topT 89)
def o815 : Obj := co #[.str s186 1209, .str s186 1210, .str s1 1211, i 444, i 6, i 0, i 0, i 3, r 810, .bool true, i 181, r 811, .none, r 812, r 813, r 814, i 1218, i 444, .str s1 1219]
def o816 : Obj := fo s186 s186 (topT 89) (.str s167 1175) (r 815)
def o817 : Obj := tu #[] 0
def o818 : Obj := ⟨.none, none, .fields #[], #[]⟩
def o819 : Obj := tu #[.str s199 1224, .str s200 1225, .str s201 1226, .str s202 1227, .str s203 1228, .str s204 1229, .str s205 1230, .str s206 1231, .str s207 1232] 0
def o820 : Obj := tu #[] 0
def o821 : Obj := f0 s187 s187 (topT 90)
def o822 : Obj := co #[.str s187 1221, .str s187 1222, .str s1 1223, i 462, i 6, i 0, i 0, i 3, r 817, .bool true, i 181, r 818, .none, r 819, r 820, r 821, i 1233, i 462, .str s1 1234]
def o823 : Obj := fo s187 s187 (topT 90) (.str s167 1175) (r 822)
def o824 : Obj := tu #[] 0
def o825 : Obj := ⟨.none, none, .fields #[], #[]⟩
def o826 : Obj := f0 s188 s188 (topT 91)
def o827 : Obj := co #[.str s188 1236, .str s188 1237, .str s1 1238, i 471, i 1, i 0, i 0, i 3, r 824, .bool true, i 181, r 825, .none, .none, .none, r 826, i 1239, i 471, .str s1 1240]
def o828 : Obj := fo s188 s188 (topT 91) (.str s167 1175) (r 827)
def envT : Env := { scope := Fast.tw14804236204062971000.main.scope, locals := mainNs, globals := mainNs, cells := [], code := (r 13), frame := some 14 }
def cT : Code := .body (behindTheImports Fast.tw14804236204062971000) envT
def qP : Pos := ⟨0, 0, 0, 0⟩
def Ha (P : Params) : Heap := ⟨⟨[boot_o_0 P, boot_o_1 P, boot_o_2 P, boot_o_3 P, boot_o_4 P, boot_o_5 P, boot_o_6 P, boot_o_7 P, boot_o_8 P, boot_o_9 P, boot_o_10 P, o11a, o12a, o13a, o14a]⟩, PySem.Life.mk [] [] [] 0 [] [] false #[] [] 0 false false false 0 [2000, 10, 10] false 0 true [] [] 0 false⟩
def Sa (w : World) (os : OsState) : Shared := ⟨Ha w.params, ⟨[]⟩, PySem.Drawn.mk 0 0 0 0, 187, os⟩
def Tb (P : Params) : BT := (nd (boot_o_0 P) (nd (boot_o_1 P) (nd (boot_o_3 P) (lf (boot_o_7 P)) (lf o11a)) (nd (boot_o_5 P) (lf (boot_o_9 P)) (lf o13a))) (nd (boot_o_2 P) (nd (boot_o_4 P) (lf (boot_o_8 P)) (lf o12a)) (nd (boot_o_6 P) (lf (boot_o_10 P)) (lf o14a))))
def Sb (w : World) (os : OsState) : SharedT := ⟨Tb w.params, 15, PySem.Life.mk [] [] [] 0 [] [] false #[] [] 0 false false false 0 [2000, 10, 10] false 0 true [] [] 0 false, ⟨[]⟩, PySem.Drawn.mk 0 0 0 0, 187, os⟩
def T0 (P : Params) : BT := (nd (boot_o_0 P) (nd (boot_o_1 P) (nd (o3_0 P) (nd (boot_o_7 P) (nd o15 (nd o31 (nd o63 (nd (o127 P) (lf o255) nl) (lf o191)) (nd o95 (lf o159) (lf o223))) (nd o47 (nd (o79 P) (nd o143 (lf o271) nl) (lf o207)) (nd o111 (lf o175) (lf o239)))) (nd o23 (nd o39 (nd o71 (nd o135 (lf o263) nl) (lf o199)) (nd (o103 P) (lf o167) (lf o231))) (nd (o55 P) (nd o87 (nd (o151 P) (lf o279) nl) (lf o215)) (nd o119 (lf o183) (lf o247))))) (nd o11a (nd o19 (nd o35 (nd (o67 P) (nd o131 (lf o259) nl) (lf o195)) (nd o99 (lf o163) (lf o227))) (nd o51 (nd o83 (nd o147 (lf o275) nl) (lf o211)) (nd (o115 P) (lf o179) (lf o243)))) (nd o27 (nd (o43 P) (nd o75 (nd (o139 P) (lf o267) nl) (lf o203)) (nd o107 (lf o171) (lf o235))) (nd o59 (nd (o91 P) (lf o155) (lf o219)) (nd o123 (lf o187) (lf o251)))))) (nd (boot_o_5 P) (nd (boot_o_9 P) (nd o17 (nd o33 (nd o65 (nd o129 (lf o257) nl) (lf o193)) (nd (o97 P) (lf o161) (lf o225))) (nd (o49 P) (nd o81 (nd (o145 P) (lf o273) nl) (lf o209)) (nd o113 (lf o177) (lf o241)))) (nd o25 (nd o41 (nd (o73 P) (nd o137 (lf o265) nl) (lf o201)) (nd o105 (lf o169) (lf o233))) (nd o57 (nd o89 (lf o153) (lf o217)) (nd (o121 P) (lf o185) (lf o249))))) (nd o13a (nd o21 (nd (o37 P) (nd o69 (nd (o133 P) (lf o261) nl) (lf o197)) (nd o101 (lf o165) (lf o229))) (nd o53 (nd (o85 P) (nd o149 (lf o277) nl) (lf o213)) (nd o117 (lf o181) (lf o245)))) (nd o29 (nd o45 (nd o77 (nd o141 (lf o269) nl) (lf o205)) (nd (o109 P) (lf o173) (lf o237))) (nd (o61 P) (nd o93 (lf o157) (lf o221)) (nd o125 (lf o189) (lf o253))))))) (nd (boot_o_2 P) (nd (boot_o_4 P) (nd (boot_o_8 P) (nd o16 (nd o32 (nd o64 (nd o128 (lf o256) nl) (lf o192)) (nd o96 (lf o160) (lf o224))) (nd o48 (nd o80 (nd o144 (lf o272) nl) (lf o208)) (nd o112 (lf o176) (lf o240)))) (nd (o24 P) (nd o40 (nd o72 (nd o136 (lf o264) nl) (lf o200)) (nd o104 (lf o168) (lf o232))) (nd o56 (nd o88 (lf o152) (lf o216)) (nd o120 (lf o184) (lf o248))))) (nd o12_0 (nd o20 (nd o36 (nd o68 (nd o132 (lf o260) nl) (lf o196)) (nd o100 (lf o164) (lf o228))) (nd o52 (nd o84 (nd o148 (lf o276) nl) (lf o212)) (nd o116 (lf o180) (lf o244)))) (nd o28 (nd o44 (nd o76 (nd o140 (lf o268) nl) (lf o204)) (nd o108 (lf o172) (lf o236))) (nd o60 (nd o92 (lf o156) (lf o220)) (nd o124 (lf o188) (lf o252)))))) (nd (boot_o_6 P) (nd (boot_o_10 P) (nd o18 (nd o34 (nd o66 (nd o130 (lf o258) nl) (lf o194)) (nd o98 (lf o162) (lf o226))) (nd o50 (nd o82 (nd o146 (lf o274) nl) (lf o210)) (nd o114 (lf o178) (lf o242)))) (nd o26 (nd o42 (nd o74 (nd o138 (lf o266) nl) (lf o202)) (nd o106 (lf o170) (lf o234))) (nd o58 (nd o90 (lf o154) (lf o218)) (nd o122 (lf o186) (lf o250))))) (nd o14a (nd o22 (nd o38 (nd o70 (nd o134 (lf o262) nl) (lf o198)) (nd o102 (lf o166) (lf o230))) (nd o54 (nd o86 (nd o150 (lf o278) nl) (lf o214)) (nd o118 (lf o182) (lf o246)))) (nd (o30 P) (nd o46 (nd o78 (nd o142 (lf o270) nl) (lf o206)) (nd o110 (lf o174) (lf o238))) (nd o62 (nd o94 (lf o158) (lf o222)) (nd o126 (lf o190) (lf o254))))))))
def S0 (w : World) (os : OsState) : SharedT := ⟨T0 w.params, 280, PySem.Life.mk [] [] [] 0 [] [] false #[] [] 0 false false false 0 [2000, 10, 10] false 0 true [] [] 0 false, ⟨[]⟩, PySem.Drawn.mk 0 0 0 0, 543, os⟩
def T1 (P : Params) : BT := (nd (boot_o_0 P) (nd (boot_o_1 P) (nd (o3_1 P) (nd (boot_o_7 P) (nd o15 (nd o31 (nd o63 (nd (o127 P) (nd o255 (lf o511) nl) (nd o383 (lf o639) nl)) (nd o191 (nd o319 (lf o575) nl) (nd o447 (lf o703) nl))) (nd o95 (nd o159 (nd o287 (lf o543) nl) (nd o415 (lf o671) nl)) (nd o223 (nd o351 (lf o607) nl) (lf o479)))) (nd o47 (nd (o79 P) (nd o143 (nd o271 (lf o527) nl) (nd o399 (lf o655) nl)) (nd o207 (nd o335 (lf o591) nl) (lf o463))) (nd o111 (nd o175 (nd o303 (lf o559) nl) (nd o431 (lf o687) nl)) (nd o239 (nd o367 (lf o623) nl) (lf o495))))) (nd o23 (nd o39 (nd o71 (nd o135 (nd o263 (lf o519) nl) (nd o391 (lf o647) nl)) (nd o199 (nd o327 (lf o583) nl) (lf o455))) (nd (o103 P) (nd o167 (nd o295 (lf o551) nl) (nd o423 (lf o679) nl)) (nd o231 (nd o359 (lf o615) nl) (lf o487)))) (nd (o55 P) (nd o87 (nd (o151 P) (nd o279 (lf o535) nl) (nd o407 (lf o663) nl)) (nd o215 (nd o343 (lf o599) nl) (lf o471))) (nd o119 (nd o183 (nd o311 (lf o567) nl) (nd o439 (lf o695) nl)) (nd o247 (nd o375 (lf o631) nl) (lf (o503 P))))))) (nd o11a (nd o19 (nd o35 (nd (o67 P) (nd o131 (nd o259 (lf o515) nl) (nd o387 (lf o643) nl)) (nd o195 (nd o323 (lf o579) nl) (lf o451))) (nd o99 (nd o163 (nd o291 (lf o547) nl) (nd o419 (lf o675) nl)) (nd o227 (nd o355 (lf o611) nl) (lf o483)))) (nd o51 (nd o83 (nd o147 (nd o275 (lf o531) nl) (nd o403 (lf o659) nl)) (nd o211 (nd o339 (lf o595) nl) (lf o467))) (nd (o115 P) (nd o179 (nd o307 (lf o563) nl) (nd o435 (lf o691) nl)) (nd o243 (nd o371 (lf o627) nl) (lf o499))))) (nd o27 (nd (o43 P) (nd o75 (nd (o139 P) (nd o267 (lf o523) nl) (nd o395 (lf o651) nl)) (nd o203 (nd o331 (lf o587) nl) (lf o459))) (nd o107 (nd o171 (nd o299 (lf o555) nl) (nd o427 (lf o683) nl)) (nd o235 (nd o363 (lf o619) nl) (lf o491)))) (nd o59 (nd (o91 P) (nd o155 (nd o283 (lf o539) nl) (nd o411 (lf o667) nl)) (nd o219 (nd o347 (lf o603) nl) (lf o475))) (nd o123 (nd o187 (nd o315 (lf (o571 P)) nl) (nd o443 (lf o699) nl)) (nd o251 (nd o379 (lf o635) nl) (lf o507))))))) (nd (boot_o_5 P) (nd (boot_o_9 P) (nd o17 (nd o33 (nd o65 (nd o129 (nd o257 (lf o513) nl) (nd o385 (lf o641) nl)) (nd o193 (nd o321 (lf o577) nl) (nd o449 (lf o705) nl))) (nd (o97 P) (nd o161 (nd o289 (lf o545) nl) (nd o417 (lf o673) nl)) (nd o225 (nd o353 (lf o609) nl) (lf o481)))) (nd (o49 P) (nd o81 (nd (o145 P) (nd o273 (lf o529) nl) (nd o401 (lf o657) nl)) (nd o209 (nd o337 (lf o593) nl) (lf o465))) (nd o113 (nd o177 (nd o305 (lf o561) nl) (nd o433 (lf o689) nl)) (nd o241 (nd o369 (lf o625) nl) (lf (o497 P)))))) (nd o25 (nd o41 (nd (o73 P) (nd o137 (nd o265 (lf o521) nl) (nd o393 (lf o649) nl)) (nd o201 (nd o329 (lf o585) nl) (lf o457))) (nd o105 (nd o169 (nd o297 (lf o553) nl) (nd o425 (lf o681) nl)) (nd o233 (nd o361 (lf o617) nl) (lf o489)))) (nd o57 (nd o89 (nd o153 (nd o281 (lf o537) nl) (nd o409 (lf o665) nl)) (nd o217 (nd o345 (lf o601) nl) (lf o473))) (nd (o121 P) (nd o185 (nd o313 (lf o569) nl) (nd o441 (lf o697) nl)) (nd o249 (nd o377 (lf (o633 P)) nl) (lf o505)))))) (nd o13a (nd o21 (nd (o37 P) (nd o69 (nd (o133 P) (nd o261 (lf o517) nl) (nd o389 (lf o645) nl)) (nd o197 (nd o325 (lf o581) nl) (lf o453))) (nd o101 (nd o165 (nd o293 (lf o549) nl) (nd o421 (lf o677) nl)) (nd o229 (nd o357 (lf o613) nl) (lf o485)))) (nd o53 (nd (o85 P) (nd o149 (nd o277 (lf o533) nl) (nd o405 (lf o661) nl)) (nd o213 (nd o341 (lf o597) nl) (lf o469))) (nd o117 (nd o181 (nd o309 (lf (o565 P)) nl) (nd o437 (lf o693) nl)) (nd o245 (nd o373 (lf o629) nl) (lf o501))))) (nd o29 (nd o45 (nd o77 (nd o141 (nd o269 (lf o525) nl) (nd o397 (lf o653) nl)) (nd o205 (nd o333 (lf o589) nl) (lf o461))) (nd (o109 P) (nd o173 (nd o301 (lf o557) nl) (nd o429 (lf o685) nl)) (nd o237 (nd o365 (lf o621) nl) (lf o493)))) (nd (o61 P) (nd o93 (nd o157 (nd o285 (lf o541) nl) (nd o413 (lf o669) nl)) (nd o221 (nd o349 (lf o605) nl) (lf o477))) (nd o125 (nd o189 (nd o317 (lf o573) nl) (nd o445 (lf o701) nl)) (nd o253 (nd o381 (lf o637) nl) (lf o509)))))))) (nd (boot_o_2 P) (nd (boot_o_4 P) (nd (boot_o_8 P) (nd o16 (nd o32 (nd o64 (nd o128 (nd o256 (lf o512) nl) (nd o384 (lf o640) nl)) (nd o192 (nd o320 (lf o576) nl) (nd o448 (lf o704) nl))) (nd o96 (nd o160 (nd o288 (lf o544) nl) (nd o416 (lf o672) nl)) (nd o224 (nd o352 (lf o608) nl) (lf o480)))) (nd o48 (nd o80 (nd o144 (nd o272 (lf o528) nl) (nd o400 (lf o656) nl)) (nd o208 (nd o336 (lf o592) nl) (lf o464))) (nd o112 (nd o176 (nd o304 (lf o560) nl) (nd o432 (lf o688) nl)) (nd o240 (nd (o368 P) (lf o624) nl) (lf o496))))) (nd (o24 P) (nd o40 (nd o72 (nd o136 (nd o264 (lf o520) nl) (nd o392 (lf o648) nl)) (nd o200 (nd o328 (lf o584) nl) (lf o456))) (nd o104 (nd o168 (nd o296 (lf o552) nl) (nd o424 (lf o680) nl)) (nd o232 (nd o360 (lf o616) nl) (lf o488)))) (nd o56 (nd o88 (nd o152 (nd o280 (lf o536) nl) (nd (o408 P) (lf o664) nl)) (nd o216 (nd o344 (lf o600) nl) (lf o472))) (nd o120 (nd o184 (nd o312 (lf o568) nl) (nd o440 (lf o696) nl)) (nd o248 (nd o376 (lf o632) nl) (lf o504)))))) (nd o12_1 (nd o20 (nd o36 (nd o68 (nd o132 (nd o260 (lf o516) nl) (nd o388 (lf o644) nl)) (nd o196 (nd o324 (lf o580) nl) (lf o452))) (nd o100 (nd o164 (nd o292 (lf o548) nl) (nd o420 (lf o676) nl)) (nd o228 (nd o356 (lf o612) nl) (lf o484)))) (nd o52 (nd o84 (nd o148 (nd o276 (lf o532) nl) (nd o404 (lf o660) nl)) (nd o212 (nd (o340 P) (lf o596) nl) (lf o468))) (nd o116 (nd o180 (nd o308 (lf o564) nl) (nd o436 (lf o692) nl)) (nd o244 (nd o372 (lf o628) nl) (lf o500))))) (nd o28 (nd o44 (nd o76 (nd o140 (nd o268 (lf o524) nl) (nd o396 (lf o652) nl)) (nd o204 (nd o332 (lf o588) nl) (lf o460))) (nd o108 (nd o172 (nd o300 (lf o556) nl) (nd o428 (lf o684) nl)) (nd o236 (nd o364 (lf o620) nl) (lf o492)))) (nd o60 (nd o92 (nd o156 (nd o284 (lf o540) nl) (nd o412 (lf o668) nl)) (nd o220 (nd (o348 P) (lf o604) nl) (lf o476))) (nd o124 (nd o188 (nd o316 (lf o572) nl) (nd o444 (lf o700) nl)) (nd o252 (nd o380 (lf o636) nl) (lf o508))))))) (nd (boot_o_6 P) (nd (boot_o_10 P) (nd o18 (nd o34 (nd o66 (nd o130 (nd o258 (lf o514) nl) (nd o386 (lf o642) nl)) (nd o194 (nd o322 (lf o578) nl) (lf o450))) (nd o98 (nd o162 (nd o290 (lf o546) nl) (nd o418 (lf o674) nl)) (nd o226 (nd o354 (lf o610) nl) (lf o482)))) (nd o50 (nd o82 (nd o146 (nd o274 (lf o530) nl) (nd o402 (lf o658) nl)) (nd o210 (nd o338 (lf o594) nl) (lf o466))) (nd o114 (nd o178 (nd o306 (lf o562) nl) (nd o434 (lf o690) nl)) (nd o242 (nd o370 (lf o626) nl) (lf o498))))) (nd o26 (nd o42 (nd o74 (nd o138 (nd o266 (lf o522) nl) (nd o394 (lf o650) nl)) (nd o202 (nd o330 (lf o586) nl) (lf o458))) (nd o106 (nd o170 (nd o298 (lf o554) nl) (nd o426 (lf o682) nl)) (nd o234 (nd o362 (lf o618) nl) (lf o490)))) (nd o58 (nd o90 (nd o154 (nd o282 (lf o538) nl) (nd o410 (lf o666) nl)) (nd o218 (nd o346 (lf o602) nl) (lf o474))) (nd o122 (nd o186 (nd o314 (lf o570) nl) (nd o442 (lf o698) nl)) (nd o250 (nd o378 (lf o634) nl) (lf o506)))))) (nd o14a (nd o22 (nd o38 (nd o70 (nd o134 (nd o262 (lf o518) nl) (nd o390 (lf o646) nl)) (nd o198 (nd o326 (lf o582) nl) (lf o454))) (nd o102 (nd o166 (nd o294 (lf o550) nl) (nd o422 (lf o678) nl)) (nd o230 (nd o358 (lf o614) nl) (lf o486)))) (nd o54 (nd o86 (nd o150 (nd o278 (lf o534) nl) (nd o406 (lf o662) nl)) (nd o214 (nd o342 (lf o598) nl) (lf o470))) (nd o118 (nd o182 (nd o310 (lf o566) nl) (nd o438 (lf o694) nl)) (nd o246 (nd (o374 P) (lf o630) nl) (lf o502))))) (nd (o30 P) (nd o46 (nd o78 (nd o142 (nd o270 (lf o526) nl) (nd o398 (lf o654) nl)) (nd o206 (nd (o334 P) (lf o590) nl) (lf o462))) (nd o110 (nd o174 (nd o302 (lf o558) nl) (nd o430 (lf o686) nl)) (nd o238 (nd o366 (lf o622) nl) (lf o494)))) (nd o62 (nd o94 (nd o158 (nd o286 (lf o542) nl) (nd (o414 P) (lf o670) nl)) (nd o222 (nd o350 (lf o606) nl) (lf o478))) (nd o126 (nd o190 (nd o318 (lf o574) nl) (nd o446 (lf o702) nl)) (nd o254 (nd o382 (lf o638) nl) (lf o510)))))))))
def S1 (w : World) (os : OsState) : SharedT := ⟨T1 w.params, 706, PySem.Life.mk [] [] [] 0 [] [] false #[] [] 0 false false false 0 [2000, 10, 10] false 0 true [] [] 0 false, ⟨[]⟩, PySem.Drawn.mk 0 0 0 0, 1076, os⟩
def T2 (P : Params) : BT := (nd (boot_o_0 P) (nd (boot_o_1 P) (nd (o3_2 P) (nd (boot_o_7 P) (nd o15 (nd o31 (nd o63 (nd (o127 P) (nd o255 (lf o511) (lf o767)) (nd o383 (lf o639) nl)) (nd o191 (nd o319 (lf o575) nl) (nd o447 (lf o703) nl))) (nd o95 (nd o159 (nd o287 (lf o543) (lf o799)) (nd o415 (lf o671) nl)) (nd o223 (nd o351 (lf o607) nl) (nd o479 (lf o735) nl)))) (nd o47 (nd (o79 P) (nd o143 (nd o271 (lf o527) (lf o783)) (nd o399 (lf o655) nl)) (nd o207 (nd o335 (lf o591) nl) (nd o463 (lf o719) nl))) (nd o111 (nd o175 (nd o303 (lf o559) (lf o815)) (nd o431 (lf o687) nl)) (nd o239 (nd o367 (lf o623) nl) (nd o495 (lf o751) nl))))) (nd o23 (nd o39 (nd o71 (nd o135 (nd o263 (lf o519) (lf o775)) (nd o391 (lf o647) nl)) (nd o199 (nd o327 (lf o583) nl) (nd o455 (lf o711) nl))) (nd (o103 P) (nd o167 (nd o295 (lf o551) (lf o807)) (nd o423 (lf o679) nl)) (nd o231 (nd o359 (lf o615) nl) (nd o487 (lf o743) nl)))) (nd (o55 P) (nd o87 (nd (o151 P) (nd o279 (lf o535) (lf o791)) (nd o407 (lf o663) nl)) (nd o215 (nd o343 (lf o599) nl) (nd o471 (lf o727) nl))) (nd o119 (nd o183 (nd o311 (lf o567) (lf o823)) (nd o439 (lf o695) nl)) (nd o247 (nd o375 (lf o631) nl) (nd (o503 P) (lf o759) nl)))))) (nd o11a (nd o19 (nd o35 (nd (o67 P) (nd o131 (nd o259 (lf o515) (lf o771)) (nd o387 (lf o643) nl)) (nd o195 (nd o323 (lf o579) nl) (nd o451 (lf o707) nl))) (nd o99 (nd o163 (nd o291 (lf o547) (lf o803)) (nd o419 (lf o675) nl)) (nd o227 (nd o355 (lf o611) nl) (nd o483 (lf o739) nl)))) (nd o51 (nd o83 (nd o147 (nd o275 (lf o531) (lf o787)) (nd o403 (lf o659) nl)) (nd o211 (nd o339 (lf o595) nl) (nd o467 (lf o723) nl))) (nd (o115 P) (nd o179 (nd o307 (lf o563) (lf o819)) (nd o435 (lf o691) nl)) (nd o243 (nd o371 (lf o627) nl) (nd o499 (lf o755) nl))))) (nd o27 (nd (o43 P) (nd o75 (nd (o139 P) (nd o267 (lf o523) (lf o779)) (nd o395 (lf o651) nl)) (nd o203 (nd o331 (lf o587) nl) (nd o459 (lf o715) nl))) (nd o107 (nd o171 (nd o299 (lf o555) (lf o811)) (nd o427 (lf o683) nl)) (nd o235 (nd o363 (lf o619) nl) (nd o491 (lf o747) nl)))) (nd o59 (nd (o91 P) (nd o155 (nd o283 (lf o539) (lf o795)) (nd o411 (lf o667) nl)) (nd o219 (nd o347 (lf o603) nl) (nd o475 (lf o731) nl))) (nd o123 (nd o187 (nd o315 (lf (o571 P)) (lf o827)) (nd o443 (lf o699) nl)) (nd o251 (nd o379 (lf o635) nl) (nd o507 (lf o763) nl))))))) (nd (boot_o_5 P) (nd (boot_o_9 P) (nd o17 (nd o33 (nd o65 (nd o129 (nd o257 (lf o513) (lf o769)) (nd o385 (lf o641) nl)) (nd o193 (nd o321 (lf o577) nl) (nd o449 (lf o705) nl))) (nd (o97 P) (nd o161 (nd o289 (lf o545) (lf o801)) (nd o417 (lf o673) nl)) (nd o225 (nd o353 (lf o609) nl) (nd o481 (lf o737) nl)))) (nd (o49 P) (nd o81 (nd (o145 P) (nd o273 (lf o529) (lf o785)) (nd o401 (lf o657) nl)) (nd o209 (nd o337 (lf o593) nl) (nd o465 (lf o721) nl))) (nd o113 (nd o177 (nd o305 (lf o561) (lf o817)) (nd o433 (lf o689) nl)) (nd o241 (nd o369 (lf o625) nl) (nd (o497 P) (lf o753) nl))))) (nd o25 (nd o41 (nd (o73 P) (nd o137 (nd o265 (lf o521) (lf o777)) (nd o393 (lf o649) nl)) (nd o201 (nd o329 (lf o585) nl) (nd o457 (lf o713) nl))) (nd o105 (nd o169 (nd o297 (lf o553) (lf o809)) (nd o425 (lf o681) nl)) (nd o233 (nd o361 (lf o617) nl) (nd o489 (lf o745) nl)))) (nd o57 (nd o89 (nd o153 (nd o281 (lf o537) (lf o793)) (nd o409 (lf o665) nl)) (nd o217 (nd o345 (lf o601) nl) (nd o473 (lf o729) nl))) (nd (o121 P) (nd o185 (nd o313 (lf o569) (lf o825)) (nd o441 (lf o697) nl)) (nd o249 (nd o377 (lf (o633 P)) nl) (nd o505 (lf o761) nl)))))) (nd o13a (nd o21 (nd (o37 P) (nd o69 (nd (o133 P) (nd o261 (lf o517) (lf o773)) (nd o389 (lf o645) nl)) (nd o197 (nd o325 (lf o581) nl) (nd o453 (lf o709) nl))) (nd o101 (nd o165 (nd o293 (lf o549) (lf o805)) (nd o421 (lf o677) nl)) (nd o229 (nd o357 (lf o613) nl) (nd o485 (lf o741) nl)))) (nd o53 (nd (o85 P) (nd o149 (nd o277 (lf o533) (lf o789)) (nd o405 (lf o661) nl)) (nd o213 (nd o341 (lf o597) nl) (nd o469 (lf o725) nl))) (nd o117 (nd o181 (nd o309 (lf (o565 P)) (lf o821)) (nd o437 (lf o693) nl)) (nd o245 (nd o373 (lf o629) nl) (nd o501 (lf o757) nl))))) (nd o29 (nd o45 (nd o77 (nd o141 (nd o269 (lf o525) (lf o781)) (nd o397 (lf o653) nl)) (nd o205 (nd o333 (lf o589) nl) (nd o461 (lf o717) nl))) (nd (o109 P) (nd o173 (nd o301 (lf o557) (lf o813)) (nd o429 (lf o685) nl)) (nd o237 (nd o365 (lf o621) nl) (nd o493 (lf o749) nl)))) (nd (o61 P) (nd o93 (nd o157 (nd o285 (lf o541) (lf o797)) (nd o413 (lf o669) nl)) (nd o221 (nd o349 (lf o605) nl) (nd o477 (lf o733) nl))) (nd o125 (nd o189 (nd o317 (lf o573) nl) (nd o445 (lf o701) nl)) (nd o253 (nd o381 (lf o637) nl) (nd o509 (lf o765) nl)))))))) (nd (boot_o_2 P) (nd (boot_o_4 P) (nd (boot_o_8 P) (nd o16 (nd o32 (nd o64 (nd o128 (nd o256 (lf o512) (lf o768)) (nd o384 (lf o640) nl)) (nd o192 (nd o320 (lf o576) nl) (nd o448 (lf o704) nl))) (nd o96 (nd o160 (nd o288 (lf o544) (lf o800)) (nd o416 (lf o672) nl)) (nd o224 (nd o352 (lf o608) nl) (nd o480 (lf o736) nl)))) (nd o48 (nd o80 (nd o144 (nd o272 (lf o528) (lf o784)) (nd o400 (lf o656) nl)) (nd o208 (nd o336 (lf o592) nl) (nd o464 (lf o720) nl))) (nd o112 (nd o176 (nd o304 (lf o560) (lf o816)) (nd o432 (lf o688) nl)) (nd o240 (nd (o368 P) (lf o624) nl) (nd o496 (lf o752) nl))))) (nd (o24 P) (nd o40 (nd o72 (nd o136 (nd o264 (lf o520) (lf o776)) (nd o392 (lf o648) nl)) (nd o200 (nd o328 (lf o584) nl) (nd o456 (lf o712) nl))) (nd o104 (nd o168 (nd o296 (lf o552) (lf o808)) (nd o424 (lf o680) nl)) (nd o232 (nd o360 (lf o616) nl) (nd o488 (lf o744) nl)))) (nd o56 (nd o88 (nd o152 (nd o280 (lf o536) (lf o792)) (nd (o408 P) (lf o664) nl)) (nd o216 (nd o344 (lf o600) nl) (nd o472 (lf o728) nl))) (nd o120 (nd o184 (nd o312 (lf o568) (lf o824)) (nd o440 (lf o696) nl)) (nd o248 (nd o376 (lf o632) nl) (nd o504 (lf o760) nl)))))) (nd o12_2 (nd o20 (nd o36 (nd o68 (nd o132 (nd o260 (lf o516) (lf o772)) (nd o388 (lf o644) nl)) (nd o196 (nd o324 (lf o580) nl) (nd o452 (lf o708) nl))) (nd o100 (nd o164 (nd o292 (lf o548) (lf o804)) (nd o420 (lf o676) nl)) (nd o228 (nd o356 (lf o612) nl) (nd o484 (lf o740) nl)))) (nd o52 (nd o84 (nd o148 (nd o276 (lf o532) (lf o788)) (nd o404 (lf o660) nl)) (nd o212 (nd (o340 P) (lf o596) nl) (nd o468 (lf o724) nl))) (nd o116 (nd o180 (nd o308 (lf o564) (lf o820)) (nd o436 (lf o692) nl)) (nd o244 (nd o372 (lf o628) nl) (nd o500 (lf o756) nl))))) (nd o28 (nd o44 (nd o76 (nd o140 (nd o268 (lf o524) (lf o780)) (nd o396 (lf o652) nl)) (nd o204 (nd o332 (lf o588) nl) (nd o460 (lf o716) nl))) (nd o108 (nd o172 (nd o300 (lf o556) (lf o812)) (nd o428 (lf o684) nl)) (nd o236 (nd o364 (lf o620) nl) (nd o492 (lf o748) nl)))) (nd o60 (nd o92 (nd o156 (nd o284 (lf o540) (lf o796)) (nd o412 (lf o668) nl)) (nd o220 (nd (o348 P) (lf o604) nl) (nd o476 (lf o732) nl))) (nd o124 (nd o188 (nd o316 (lf o572) (lf o828)) (nd o444 (lf o700) nl)) (nd o252 (nd o380 (lf o636) nl) (nd o508 (lf o764) nl))))))) (nd (boot_o_6 P) (nd (boot_o_10 P) (nd o18 (nd o34 (nd o66 (nd o130 (nd o258 (lf o514) (lf o770)) (nd o386 (lf o642) nl)) (nd o194 (nd o322 (lf o578) nl) (nd o450 (lf o706) nl))) (nd o98 (nd o162 (nd o290 (lf o546) (lf o802)) (nd o418 (lf o674) nl)) (nd o226 (nd o354 (lf o610) nl) (nd o482 (lf o738) nl)))) (nd o50 (nd o82 (nd o146 (nd o274 (lf o530) (lf o786)) (nd o402 (lf o658) nl)) (nd o210 (nd o338 (lf o594) nl) (nd o466 (lf o722) nl))) (nd o114 (nd o178 (nd o306 (lf o562) (lf o818)) (nd o434 (lf o690) nl)) (nd o242 (nd o370 (lf o626) nl) (nd o498 (lf o754) nl))))) (nd o26 (nd o42 (nd o74 (nd o138 (nd o266 (lf o522) (lf o778)) (nd o394 (lf o650) nl)) (nd o202 (nd o330 (lf o586) nl) (nd o458 (lf o714) nl))) (nd o106 (nd o170 (nd o298 (lf o554) (lf o810)) (nd o426 (lf o682) nl)) (nd o234 (nd o362 (lf o618) nl) (nd o490 (lf o746) nl)))) (nd o58 (nd o90 (nd o154 (nd o282 (lf o538) (lf o794)) (nd o410 (lf o666) nl)) (nd o218 (nd o346 (lf o602) nl) (nd o474 (lf o730) nl))) (nd o122 (nd o186 (nd o314 (lf o570) (lf o826)) (nd o442 (lf o698) nl)) (nd o250 (nd o378 (lf o634) nl) (nd o506 (lf o762) nl)))))) (nd o14a (nd o22 (nd o38 (nd o70 (nd o134 (nd o262 (lf o518) (lf o774)) (nd o390 (lf o646) nl)) (nd o198 (nd o326 (lf o582) nl) (nd o454 (lf o710) nl))) (nd o102 (nd o166 (nd o294 (lf o550) (lf o806)) (nd o422 (lf o678) nl)) (nd o230 (nd o358 (lf o614) nl) (nd o486 (lf o742) nl)))) (nd o54 (nd o86 (nd o150 (nd o278 (lf o534) (lf o790)) (nd o406 (lf o662) nl)) (nd o214 (nd o342 (lf o598) nl) (nd o470 (lf o726) nl))) (nd o118 (nd o182 (nd o310 (lf o566) (lf o822)) (nd o438 (lf o694) nl)) (nd o246 (nd (o374 P) (lf o630) nl) (nd o502 (lf o758) nl))))) (nd (o30 P) (nd o46 (nd o78 (nd o142 (nd o270 (lf o526) (lf o782)) (nd o398 (lf o654) nl)) (nd o206 (nd (o334 P) (lf o590) nl) (nd o462 (lf o718) nl))) (nd o110 (nd o174 (nd o302 (lf o558) (lf o814)) (nd o430 (lf o686) nl)) (nd o238 (nd o366 (lf o622) nl) (nd o494 (lf o750) nl)))) (nd o62 (nd o94 (nd o158 (nd o286 (lf o542) (lf o798)) (nd (o414 P) (lf o670) nl)) (nd o222 (nd o350 (lf o606) nl) (nd o478 (lf o734) nl))) (nd o126 (nd o190 (nd o318 (lf o574) nl) (nd o446 (lf o702) nl)) (nd o254 (nd o382 (lf o638) nl) (nd o510 (lf o766) nl)))))))))
def S2 (w : World) (os : OsState) : SharedT := ⟨T2 w.params, 829, PySem.Life.mk [] [] [] 0 [] [] false #[] [] 0 false false false 0 [2000, 10, 10] false 0 true [] [] 0 false, ⟨[]⟩, PySem.Drawn.mk 0 0 0 0, 1242, os⟩
def Hf (P : Params) : Heap := ⟨⟨[boot_o_0 P, boot_o_1 P, boot_o_2 P, o3_2 P, boot_o_4 P, boot_o_5 P, boot_o_6 P, boot_o_7 P, boot_o_8 P, boot_o_9 P, boot_o_10 P, o11a, o12_2, o13a, o14a, o15, o16, o17, o18, o19, o20, o21, o22, o23, o24 P, o25, o26, o27, o28, o29, o30 P, o31, o32, o33, o34, o35, o36, o37 P, o38, o39, o40, o41, o42, o43 P, o44, o45, o46, o47, o48, o49 P, o50, o51, o52, o53, o54, o55 P, o56, o57, o58, o59, o60, o61 P, o62, o63, o64, o65, o66, o67 P, o68, o69, o70, o71, o72, o73 P, o74, o75, o76, o77, o78, o79 P, o80, o81, o82, o83, o84, o85 P, o86, o87, o88, o89, o90, o91 P, o92, o93, o94, o95, o96, o97 P, o98, o99, o100, o101, o102, o103 P, o104, o105, o106, o107, o108, o109 P, o110, o111, o112, o113, o114, o115 P, o116, o117, o118, o119, o120, o121 P, o122, o123, o124, o125, o126, o127 P, o128, o129, o130, o131, o132, o133 P, o134, o135, o136, o137, o138, o139 P, o140, o141, o142, o143, o144, o145 P, o146, o147, o148, o149, o150, o151 P, o152, o153, o154, o155, o156, o157, o158, o159, o160, o161, o162, o163, o164, o165, o166, o167, o168, o169, o170, o171, o172, o173, o174, o175, o176, o177, o178, o179, o180, o181, o182, o183, o184, o185, o186, o187, o188, o189, o190, o191, o192, o193, o194, o195, o196, o197, o198, o199, o200, o201, o202, o203, o204, o205, o206, o207, o208, o209, o210, o211, o212, o213, o214, o215, o216, o217, o218, o219, o220, o221, o222, o223, o224, o225, o226, o227, o228, o229, o230, o231, o232, o233, o234, o235, o236, o237, o238, o239, o240, o241, o242, o243, o244, o245, o246, o247, o248, o249, o250, o251, o252, o253, o254, o255, o256, o257, o258, o259, o260, o261, o262, o263, o264, o265, o266, o267, o268, o269, o270, o271, o272, o273, o274, o275, o276, o277, o278, o279, o280, o281, o282, o283, o284, o285, o286, o287, o288, o289, o290, o291, o292, o293, o294, o295, o296, o297, o298, o299, o300, o301, o302, o303, o304, o305, o306, o307, o308, o309, o310, o311, o312, o313, o314, o315, o316, o317, o318, o319, o320, o321, o322, o323, o324, o325, o326, o327, o328, o329, o330, o331, o332, o333, o334 P, o335, o336, o337, o338, o339, o340 P, o341, o342, o343, o344, o345, o346, o347, o348 P, o349, o350, o351, o352, o353, o354, o355, o356, o357, o358, o359, o360, o361, o362, o363, o364, o365, o366, o367, o368 P, o369, o370, o371, o372, o373, o374 P, o375, o376, o377, o378, o379, o380, o381, o382, o383, o384, o385, o386, o387, o388, o389, o390, o391, o392, o393, o394, o395, o396, o397, o398, o399, o400, o401, o402, o403, o404, o405, o406, o407, o408 P, o409, o410, o411, o412, o413, o414 P, o415, o416, o417, o418, o419, o420, o421, o422, o423, o424, o425, o426, o427, o428, o429, o430, o431, o432, o433, o434, o435, o436, o437, o438, o439, o440, o441, o442, o443, o444, o445, o446, o447, o448, o449, o450, o451, o452, o453, o454, o455, o456, o457, o458, o459, o460, o461, o462, o463, o464, o465, o466, o467, o468, o469, o470, o471, o472, o473, o474, o475, o476, o477, o478, o479, o480, o481, o482, o483, o484, o485, o486, o487, o488, o489, o490, o491, o492, o493, o494, o495, o496, o497 P, o498, o499, o500, o501, o502, o503 P, o504, o505, o506, o507, o508, o509, o510, o511, o512, o513, o514, o515, o516, o517, o518, o519, o520, o521, o522, o523, o524, o525, o526, o527, o528, o529, o530, o531, o532, o533, o534, o535, o536, o537, o538, o539, o540, o541, o542, o543, o544, o545, o546, o547, o548, o549, o550, o551, o552, o553, o554, o555, o556, o557, o558, o559, o560, o561, o562, o563, o564, o565 P, o566, o567, o568, o569, o570, o571 P, o572, o573, o574, o575, o576, o577, o578, o579, o580, o581, o582, o583, o584, o585, o586, o587, o588, o589, o590, o591, o592, o593, o594, o595, o596, o597, o598, o599, o600, o601, o602, o603, o604, o605, o606, o607, o608, o609, o610, o611, o612, o613, o614, o615, o616, o617, o618, o619, o620, o621, o622, o623, o624, o625, o626, o627, o628, o629, o630, o631, o632, o633 P, o634, o635, o636, o637, o638, o639, o640, o641, o642, o643, o644, o645, o646, o647, o648, o649, o650, o651, o652, o653, o654, o655, o656, o657, o658, o659, o660, o661, o662, o663, o664, o665, o666, o667, o668, o669, o670, o671, o672, o673, o674, o675, o676, o677, o678, o679, o680, o681, o682, o683, o684, o685, o686, o687, o688, o689, o690, o691, o692, o693, o694, o695, o696, o697, o698, o699, o700, o701, o702, o703, o704, o705, o706, o707, o708, o709, o710, o711, o712, o713, o714, o715, o716, o717, o718, o719, o720, o721, o722, o723, o724, o725, o726, o727, o728, o729, o730, o731, o732, o733, o734, o735, o736, o737, o738, o739, o740, o741, o742, o743, o744, o745, o746, o747, o748, o749, o750, o751, o752, o753, o754, o755, o756, o757, o758, o759, o760, o761, o762, o763, o764, o765, o766, o767, o768, o769, o770, o771, o772, o773, o774, o775, o776, o777, o778, o779, o780, o781, o782, o783, o784, o785, o786, o787, o788, o789, o790, o791, o792, o793, o794, o795, o796, o797, o798, o799, o800, o801, o802, o803, o804, o805, o806, o807, o808, o809, o810, o811, o812, o813, o814, o815, o816, o817, o818, o819, o820, o821, o822, o823, o824, o825, o826, o827, o828]⟩, PySem.Life.mk [] [] [] 0 [] [] false #[] [] 0 false false false 0 [2000, 10, 10] false 0 true [] [] 0 false⟩
def Sf (w : World) (os : OsState) : Shared := ⟨Hf w.params, ⟨[]⟩, PySem.Drawn.mk 0 0 0 0, 1242, os⟩
theorem pre_ (w : World) (os : OsState) : topGo treeTable Fast.tw14804236204062971000 w 11 ((some (r 6))) 12 ⟨boot_heap w.params, ⟨[]⟩, boot_drawn, boot_toks, os⟩ (topStub Fast.tw14804236204062971000) = some (Sa w os, ⟨denote treeTable cT, cT, ⟨0, 0, 0, 0⟩, [topFrame qP]⟩) := by (try rw [Fast.te15667345088766844465]); (try rw [Fast.te14082659384304107361]); (try rw [Fast.te14374325043358763698]); (try rw [Fast.te10110043849684766642]); (try rw [Fast.te14364793385576792824]); (try rw [Fast.te11892475500146522536]); (try rw [Fast.te4187177175401517315]); (try rw [Fast.te5923862056798008813]); (try rw [Fast.te8920871248978507458]); kernel_rfl
theorem block_ (w : World) (os : OsState) : segRun treeTable Fast.tw14804236204062971000 w 11 ((some (r 6))) 1 1 (Sa w os) (blockOf (behindTheImports Fast.tw14804236204062971000) envT cT ⟨0, 0, 0, 0⟩ [topFrame qP]) = some (.next, (Sb w os).abs, cT, ⟨0, 0, 0, 0⟩) := by (try rw [Fast.te15667345088766844465]); (try rw [Fast.te14082659384304107361]); (try rw [Fast.te14374325043358763698]); (try rw [Fast.te10110043849684766642]); (try rw [Fast.te14364793385576792824]); (try rw [Fast.te11892475500146522536]); (try rw [Fast.te4187177175401517315]); (try rw [Fast.te5923862056798008813]); (try rw [Fast.te8920871248978507458]); kernel_rfl
def sts0 : List Stmt := [topT 0, topT 1, topT 2, topT 3, topT 4, topT 5, topT 6, topT 7, topT 8, topT 9, topT 10, topT 11, topT 12, topT 13, topT 14, topT 15, topT 16, topT 17, topT 18, topT 19, topT 20, topT 21, topT 22, topT 23, topT 24, topT 25, topT 26, topT 27, topT 28, topT 29, topT 30, topT 31, topT 32, topT 33, topT 34, topT 35]
theorem pc0 (w : World) (os : OsState) : segRunT treeTable Fast.tw14804236204062971000 w 11 ((some (r 6))) 1 2978 (Sb w os) (piecesOf sts0 envT cT ⟨0, 0, 0, 0⟩ [topFrame qP]) = some (.next, S0 w os, cT, ⟨99, 0, 101, 66⟩) := by (try rw [Fast.te15667345088766844465]); (try rw [Fast.te14082659384304107361]); (try rw [Fast.te14374325043358763698]); (try rw [Fast.te10110043849684766642]); (try rw [Fast.te14364793385576792824]); (try rw [Fast.te11892475500146522536]); (try rw [Fast.te4187177175401517315]); (try rw [Fast.te5923862056798008813]); (try rw [Fast.te8920871248978507458]); kernel_rfl
def sts1 : List Stmt := [topT 36, topT 37, topT 38, topT 39, topT 40, topT 41, topT 42, topT 43, topT 44, topT 45, topT 46, topT 47, topT 48, topT 49, topT 50, topT 51, topT 52, topT 53, topT 54, topT 55, topT 56, topT 57, topT 58, topT 59, topT 60, topT 61, topT 62, topT 63, topT 64, topT 65, topT 66, topT 67, topT 68]
theorem pc1 (w : World) (os : OsState) : segRunT treeTable Fast.tw14804236204062971000 w 11 ((some (r 6))) 1 2980 (S0 w os) (piecesOf sts1 envT cT ⟨99, 0, 101, 66⟩ [topFrame qP]) = some (.next, S1 w os, cT, ⟨337, 0, 341, 15⟩) := by (try rw [Fast.te15667345088766844465]); (try rw [Fast.te14082659384304107361]); (try rw [Fast.te14374325043358763698]); (try rw [Fast.te10110043849684766642]); (try rw [Fast.te14364793385576792824]); (try rw [Fast.te11892475500146522536]); (try rw [Fast.te4187177175401517315]); (try rw [Fast.te5923862056798008813]); (try rw [Fast.te8920871248978507458]); kernel_rfl
def sts2 : List Stmt := [topT 69, topT 70, topT 71, topT 72, topT 73, topT 74, topT 75, topT 76, topT 77, topT 78, topT 79, topT 80, topT 81, topT 82, topT 83, topT 84, topT 85, topT 86, topT 87, topT 88, topT 89, topT 90, topT 91]
theorem pc2 (w : World) (os : OsState) : segRunT treeTable Fast.tw14804236204062971000 w 11 ((some (r 6))) 1 619 (S1 w os) (piecesOf sts2 envT cT ⟨337, 0, 341, 15⟩ [topFrame qP]) = some (.next, S2 w os, cT, ⟨471, 0, 491, 80⟩) := by (try rw [Fast.te15667345088766844465]); (try rw [Fast.te14082659384304107361]); (try rw [Fast.te14374325043358763698]); (try rw [Fast.te10110043849684766642]); (try rw [Fast.te14364793385576792824]); (try rw [Fast.te11892475500146522536]); (try rw [Fast.te4187177175401517315]); (try rw [Fast.te5923862056798008813]); (try rw [Fast.te8920871248978507458]); kernel_rfl
theorem fin_ (w : World) (os : OsState) : topRun treeTable Fast.tw14804236204062971000 w 11 ((some (r 6))) 2 (S2 w os).abs ⟨doneF .next, cT, ⟨471, 0, 491, 80⟩, [topFrame qP]⟩ = some (Sf w os) := by (try rw [Fast.te15667345088766844465]); (try rw [Fast.te14082659384304107361]); (try rw [Fast.te14374325043358763698]); (try rw [Fast.te10110043849684766642]); (try rw [Fast.te14364793385576792824]); (try rw [Fast.te11892475500146522536]); (try rw [Fast.te4187177175401517315]); (try rw [Fast.te5923862056798008813]); (try rw [Fast.te8920871248978507458]); kernel_rfl
theorem body_eq : behindTheImports Fast.tw14804236204062971000 = (sts0 ++ (sts1 ++ (sts2 ++ []))) := by kernel_rfl
theorem run_ (w : World) (os : OsState) : topRun treeTable Fast.tw14804236204062971000 w 11 ((some (r 6))) (12 + (1 + (2978 + (2980 + (619 + 2))))) ⟨boot_heap w.params, ⟨[]⟩, boot_drawn, boot_toks, os⟩ (topStub Fast.tw14804236204062971000) = some (Sf w os) := by
  have h := (piece_app (segRun_of (pc0 w os)) (piece_app (segRun_of (pc1 w os)) (piece_app (segRun_of (pc2 w os)) (piece_nil (fin_ w os)))))
  rw [← body_eq] at h
  exact go_top (pre_ w os) (piece_block (block_ w os) h)
def K (P : Params) : Frag := (nat_lit 2, boot_o_2 P) :: (nat_lit 3, o3_2 P) :: (nat_lit 15, o15) :: (nat_lit 17, o17) :: (nat_lit 18, o18) :: (nat_lit 20, o20) :: (nat_lit 21, o21) :: (nat_lit 22, o22) :: (nat_lit 29, o29) :: (nat_lit 30, o30 P) :: (nat_lit 31, o31) :: (nat_lit 32, o32) :: (nat_lit 35, o35) :: (nat_lit 42, o42) :: (nat_lit 43, o43 P) :: (nat_lit 44, o44) :: (nat_lit 47, o47) :: (nat_lit 54, o54) :: (nat_lit 55, o55 P) :: (nat_lit 56, o56) :: (nat_lit 59, o59) :: (nat_lit 66, o66) :: (nat_lit 67, o67 P) :: (nat_lit 68, o68) :: (nat_lit 71, o71) :: (nat_lit 78, o78) :: (nat_lit 79, o79 P) :: (nat_lit 80, o80) :: (nat_lit 83, o83) :: (nat_lit 90, o90) :: (nat_lit 91, o91 P) :: (nat_lit 92, o92) :: (nat_lit 95, o95) :: (nat_lit 102, o102) :: (nat_lit 103, o103 P) :: (nat_lit 104, o104) :: (nat_lit 107, o107) :: (nat_lit 114, o114) :: (nat_lit 115, o115 P) :: (nat_lit 116, o116) :: (nat_lit 119, o119) :: (nat_lit 126, o126) :: (nat_lit 127, o127 P) :: (nat_lit 128, o128) :: (nat_lit 131, o131) :: (nat_lit 138, o138) :: (nat_lit 139, o139 P) :: (nat_lit 140, o140) :: (nat_lit 143, o143) :: (nat_lit 150, o150) :: (nat_lit 151, o151 P) :: (nat_lit 152, o152) :: (nat_lit 155, o155) :: (nat_lit 158, o158) :: (nat_lit 159, o159) :: (nat_lit 160, o160) :: (nat_lit 163, o163) :: (nat_lit 164, o164) :: (nat_lit 165, o165) :: (nat_lit 168, o168) :: (nat_lit 169, o169) :: (nat_lit 170, o170) :: (nat_lit 173, o173) :: (nat_lit 174, o174) :: (nat_lit 175, o175) :: (nat_lit 178, o178) :: (nat_lit 179, o179) :: (nat_lit 180, o180) :: (nat_lit 182, o182) :: (nat_lit 183, o183) :: (nat_lit 185, o185) :: (nat_lit 186, o186) :: (nat_lit 187, o187) :: (nat_lit 190, o190) :: (nat_lit 191, o191) :: (nat_lit 192, o192) :: (nat_lit 195, o195) :: (nat_lit 196, o196) :: (nat_lit 197, o197) :: (nat_lit 200, o200) :: (nat_lit 201, o201) :: (nat_lit 202, o202) :: (nat_lit 204, o204) :: (nat_lit 205, o205) :: (nat_lit 207, o207) :: (nat_lit 208, o208) :: (nat_lit 209, o209) :: (nat_lit 211, o211) :: (nat_lit 212, o212) :: (nat_lit 214, o214) :: (nat_lit 215, o215) :: (nat_lit 216, o216) :: (nat_lit 219, o219) :: (nat_lit 220, o220) :: (nat_lit 221, o221) :: (nat_lit 223, o223) :: (nat_lit 224, o224) :: (nat_lit 226, o226) :: (nat_lit 227, o227) :: (nat_lit 228, o228) :: (nat_lit 230, o230) :: (nat_lit 231, o231) :: (nat_lit 233, o233) :: (nat_lit 234, o234) :: (nat_lit 235, o235) :: (nat_lit 237, o237) :: (nat_lit 238, o238) :: (nat_lit 240, o240) :: (nat_lit 241, o241) :: (nat_lit 242, o242) :: (nat_lit 244, o244) :: (nat_lit 245, o245) :: (nat_lit 247, o247) :: (nat_lit 248, o248) :: (nat_lit 249, o249) :: (nat_lit 251, o251) :: (nat_lit 252, o252) :: (nat_lit 254, o254) :: (nat_lit 255, o255) :: (nat_lit 256, o256) :: (nat_lit 259, o259) :: (nat_lit 260, o260) :: (nat_lit 261, o261) :: (nat_lit 263, o263) :: (nat_lit 264, o264) :: (nat_lit 266, o266) :: (nat_lit 267, o267) :: (nat_lit 268, o268) :: (nat_lit 271, o271) :: (nat_lit 272, o272) :: (nat_lit 273, o273) :: (nat_lit 275, o275) :: (nat_lit 276, o276) :: (nat_lit 278, o278) :: (nat_lit 279, o279) :: (nat_lit 280, o280) :: (nat_lit 282, o282) :: (nat_lit 283, o283) :: (nat_lit 285, o285) :: (nat_lit 286, o286) :: (nat_lit 287, o287) :: (nat_lit 289, o289) :: (nat_lit 290, o290) :: (nat_lit 292, o292) :: (nat_lit 293, o293) :: (nat_lit 294, o294) :: (nat_lit 297, o297) :: (nat_lit 298, o298) :: (nat_lit 299, o299) :: (nat_lit 301, o301) :: (nat_lit 302, o302) :: (nat_lit 304, o304) :: (nat_lit 305, o305) :: (nat_lit 306, o306) :: (nat_lit 308, o308) :: (nat_lit 309, o309) :: (nat_lit 311, o311) :: (nat_lit 312, o312) :: (nat_lit 313, o313) :: (nat_lit 316, o316) :: (nat_lit 317, o317) :: (nat_lit 318, o318) :: (nat_lit 320, o320) :: (nat_lit 321, o321) :: (nat_lit 323, o323) :: (nat_lit 324, o324) :: (nat_lit 325, o325) :: (nat_lit 327, o327) :: (nat_lit 328, o328) :: (nat_lit 330, o330) :: (nat_lit 331, o331) :: (nat_lit 339, o339) :: (nat_lit 340, o340 P) :: (nat_lit 341, o341) :: (nat_lit 342, o342) :: (nat_lit 343, o343) :: (nat_lit 346, o346) :: (nat_lit 353, o353) :: (nat_lit 355, o355) :: (nat_lit 356, o356) :: (nat_lit 358, o358) :: (nat_lit 359, o359) :: (nat_lit 360, o360) :: (nat_lit 362, o362) :: (nat_lit 363, o363) :: (nat_lit 365, o365) :: (nat_lit 366, o366) :: (nat_lit 367, o367) :: (nat_lit 368, o368 P) :: (nat_lit 369, o369) :: (nat_lit 372, o372) :: (nat_lit 379, o379) :: (nat_lit 381, o381) :: (nat_lit 382, o382) :: (nat_lit 384, o384) :: (nat_lit 385, o385) :: (nat_lit 386, o386) :: (nat_lit 388, o388) :: (nat_lit 389, o389) :: (nat_lit 391, o391) :: (nat_lit 392, o392) :: (nat_lit 393, o393) :: (nat_lit 395, o395) :: (nat_lit 396, o396) :: (nat_lit 398, o398) :: (nat_lit 399, o399) :: (nat_lit 400, o400) :: (nat_lit 402, o402) :: (nat_lit 403, o403) :: (nat_lit 405, o405) :: (nat_lit 406, o406) :: (nat_lit 407, o407) :: (nat_lit 408, o408 P) :: (nat_lit 409, o409) :: (nat_lit 412, o412) :: (nat_lit 419, o419) :: (nat_lit 421, o421) :: (nat_lit 422, o422) :: (nat_lit 424, o424) :: (nat_lit 425, o425) :: (nat_lit 426, o426) :: (nat_lit 428, o428) :: (nat_lit 429, o429) :: (nat_lit 431, o431) :: (nat_lit 432, o432) :: (nat_lit 433, o433) :: (nat_lit 435, o435) :: (nat_lit 436, o436) :: (nat_lit 438, o438) :: (nat_lit 439, o439) :: (nat_lit 440, o440) :: (nat_lit 442, o442) :: (nat_lit 443, o443) :: (nat_lit 445, o445) :: (nat_lit 446, o446) :: (nat_lit 447, o447) :: (nat_lit 449, o449) :: (nat_lit 450, o450) :: (nat_lit 452, o452) :: (nat_lit 453, o453) :: (nat_lit 454, o454) :: (nat_lit 456, o456) :: (nat_lit 457, o457) :: (nat_lit 459, o459) :: (nat_lit 460, o460) :: (nat_lit 461, o461) :: (nat_lit 463, o463) :: (nat_lit 464, o464) :: (nat_lit 466, o466) :: (nat_lit 467, o467) :: (nat_lit 468, o468) :: (nat_lit 470, o470) :: (nat_lit 471, o471) :: (nat_lit 473, o473) :: (nat_lit 474, o474) :: (nat_lit 475, o475) :: (nat_lit 477, o477) :: (nat_lit 478, o478) :: (nat_lit 480, o480) :: (nat_lit 481, o481) :: (nat_lit 482, o482) :: (nat_lit 484, o484) :: (nat_lit 485, o485) :: (nat_lit 487, o487) :: (nat_lit 488, o488) :: (nat_lit 489, o489) :: (nat_lit 491, o491) :: (nat_lit 492, o492) :: (nat_lit 494, o494) :: (nat_lit 495, o495) :: (nat_lit 496, o496) :: (nat_lit 497, o497 P) :: (nat_lit 498, o498) :: (nat_lit 501, o501) :: (nat_lit 508, o508) :: (nat_lit 510, o510) :: (nat_lit 511, o511) :: (nat_lit 513, o513) :: (nat_lit 514, o514) :: (nat_lit 515, o515) :: (nat_lit 517, o517) :: (nat_lit 518, o518) :: (nat_lit 520, o520) :: (nat_lit 521, o521) :: (nat_lit 522, o522) :: (nat_lit 524, o524) :: (nat_lit 525, o525) :: (nat_lit 527, o527) :: (nat_lit 528, o528) :: (nat_lit 529, o529) :: (nat_lit 531, o531) :: (nat_lit 532, o532) :: (nat_lit 534, o534) :: (nat_lit 535, o535) :: (nat_lit 536, o536) :: (nat_lit 538, o538) :: (nat_lit 539, o539) :: (nat_lit 541, o541) :: (nat_lit 542, o542) :: (nat_lit 543, o543) :: (nat_lit 545, o545) :: (nat_lit 546, o546) :: (nat_lit 548, o548) :: (nat_lit 549, o549) :: (nat_lit 550, o550) :: (nat_lit 552, o552) :: (nat_lit 553, o553) :: (nat_lit 555, o555) :: (nat_lit 556, o556) :: (nat_lit 557, o557) :: (nat_lit 559, o559) :: (nat_lit 560, o560) :: (nat_lit 562, o562) :: (nat_lit 563, o563) :: (nat_lit 564, o564) :: (nat_lit 565, o565 P) :: (nat_lit 566, o566) :: (nat_lit 569, o569) :: (nat_lit 576, o576) :: (nat_lit 578, o578) :: (nat_lit 579, o579) :: (nat_lit 581, o581) :: (nat_lit 582, o582) :: (nat_lit 583, o583) :: (nat_lit 585, o585) :: (nat_lit 586, o586) :: (nat_lit 588, o588) :: (nat_lit 589, o589) :: (nat_lit 590, o590) :: (nat_lit 592, o592) :: (nat_lit 593, o593) :: (nat_lit 595, o595) :: (nat_lit 596, o596) :: (nat_lit 597, o597) :: (nat_lit 599, o599) :: (nat_lit 600, o600) :: (nat_lit 602, o602) :: (nat_lit 603, o603) :: (nat_lit 604, o604) :: (nat_lit 606, o606) :: (nat_lit 607, o607) :: (nat_lit 609, o609) :: (nat_lit 610, o610) :: (nat_lit 611, o611) :: (nat_lit 613, o613) :: (nat_lit 614, o614) :: (nat_lit 616, o616) :: (nat_lit 617, o617) :: (nat_lit 618, o618) :: (nat_lit 620, o620) :: (nat_lit 621, o621) :: (nat_lit 623, o623) :: (nat_lit 624, o624) :: (nat_lit 625, o625) :: (nat_lit 627, o627) :: (nat_lit 628, o628) :: (nat_lit 630, o630) :: (nat_lit 631, o631) :: (nat_lit 632, o632) :: (nat_lit 633, o633 P) :: (nat_lit 634, o634) :: (nat_lit 637, o637) :: (nat_lit 640, o640) :: (nat_lit 641, o641) :: (nat_lit 642, o642) :: (nat_lit 644, o644) :: (nat_lit 645, o645) :: (nat_lit 647, o647) :: (nat_lit 648, o648) :: (nat_lit 649, o649) :: (nat_lit 651, o651) :: (nat_lit 652, o652) :: (nat_lit 654, o654) :: (nat_lit 655, o655) :: (nat_lit 656, o656) :: (nat_lit 659, o659) :: (nat_lit 660, o660) :: (nat_lit 661, o661) :: (nat_lit 663, o663) :: (nat_lit 664, o664) :: (nat_lit 666, o666) :: (nat_lit 667, o667) :: (nat_lit 668, o668) :: (nat_lit 670, o670) :: (nat_lit 671, o671) :: (nat_lit 673, o673) :: (nat_lit 674, o674) :: (nat_lit 675, o675) :: (nat_lit 677, o677) :: (nat_lit 678, o678) :: (nat_lit 680, o680) :: (nat_lit 681, o681) :: (nat_lit 682, o682) :: (nat_lit 684, o684) :: (nat_lit 685, o685) :: (nat_lit 687, o687) :: (nat_lit 688, o688) :: (nat_lit 689, o689) :: (nat_lit 692, o692) :: (nat_lit 693, o693) :: (nat_lit 694, o694) :: (nat_lit 696, o696) :: (nat_lit 697, o697) :: (nat_lit 699, o699) :: (nat_lit 700, o700) :: (nat_lit 701, o701) :: (nat_lit 704, o704) :: (nat_lit 705, o705) :: (nat_lit 706, o706) :: (nat_lit 709, o709) :: (nat_lit 710, o710) :: (nat_lit 711, o711) :: (nat_lit 713, o713) :: (nat_lit 714, o714) :: (nat_lit 716, o716) :: (nat_lit 717, o717) :: (nat_lit 718, o718) :: (nat_lit 720, o720) :: (nat_lit 721, o721) :: (nat_lit 723, o723) :: (nat_lit 724, o724) :: (nat_lit 725, o725) :: (nat_lit 728, o728) :: (nat_lit 729, o729) :: (nat_lit 730, o730) :: (nat_lit 733, o733) :: (nat_lit 734, o734) :: (nat_lit 735, o735) :: (nat_lit 738, o738) :: (nat_lit 739, o739) :: (nat_lit 740, o740) :: (nat_lit 742, o742) :: (nat_lit 743, o743) :: (nat_lit 745, o745) :: (nat_lit 746, o746) :: (nat_lit 747, o747) :: (nat_lit 750, o750) :: (nat_lit 751, o751) :: (nat_lit 752, o752) :: (nat_lit 755, o755) :: (nat_lit 756, o756) :: (nat_lit 757, o757) :: (nat_lit 760, o760) :: (nat_lit 761, o761) :: (nat_lit 762, o762) :: (nat_lit 765, o765) :: (nat_lit 766, o766) :: (nat_lit 767, o767) :: (nat_lit 770, o770) :: (nat_lit 771, o771) :: (nat_lit 772, o772) :: (nat_lit 774, o774) :: (nat_lit 775, o775) :: (nat_lit 777, o777) :: (nat_lit 778, o778) :: (nat_lit 779, o779) :: (nat_lit 782, o782) :: (nat_lit 783, o783) :: (nat_lit 784, o784) :: (nat_lit 786, o786) :: (nat_lit 787, o787) :: (nat_lit 789, o789) :: (nat_lit 790, o790) :: (nat_lit 791, o791) :: (nat_lit 793, o793) :: (nat_lit 794, o794) :: (nat_lit 796, o796) :: (nat_lit 797, o797) :: (nat_lit 798, o798) :: (nat_lit 800, o800) :: (nat_lit 801, o801) :: (nat_lit 803, o803) :: (nat_lit 804, o804) :: (nat_lit 805, o805) :: (nat_lit 808, o808) :: (nat_lit 809, o809) :: (nat_lit 810, o810) :: (nat_lit 812, o812) :: (nat_lit 813, o813) :: (nat_lit 815, o815) :: (nat_lit 816, o816) :: (nat_lit 817, o817) :: (nat_lit 819, o819) :: (nat_lit 820, o820) :: (nat_lit 822, o822) :: (nat_lit 823, o823) :: (nat_lit 824, o824) :: (nat_lit 827, o827) :: (nat_lit 828, o828) :: []
def KA : List Addr := [2, 3, 15, 17, 18, 20, 21, 22, 29, 30, 31, 32, 35, 42, 43, 44, 47, 54, 55, 56, 59, 66, 67, 68, 71, 78, 79, 80, 83, 90, 91, 92, 95, 102, 103, 104, 107, 114, 115, 116, 119, 126, 127, 128, 131, 138, 139, 140, 143, 150, 151, 152, 155, 158, 159, 160, 163, 164, 165, 168, 169, 170, 173, 174, 175, 178, 179, 180, 182, 183, 185, 186, 187, 190, 191, 192, 195, 196, 197, 200, 201, 202, 204, 205, 207, 208, 209, 211, 212, 214, 215, 216, 219, 220, 221, 223, 224, 226, 227, 228, 230, 231, 233, 234, 235, 237, 238, 240, 241, 242, 244, 245, 247, 248, 249, 251, 252, 254, 255, 256, 259, 260, 261, 263, 264, 266, 267, 268, 271, 272, 273, 275, 276, 278, 279, 280, 282, 283, 285, 286, 287, 289, 290, 292, 293, 294, 297, 298, 299, 301, 302, 304, 305, 306, 308, 309, 311, 312, 313, 316, 317, 318, 320, 321, 323, 324, 325, 327, 328, 330, 331, 339, 340, 341, 342, 343, 346, 353, 355, 356, 358, 359, 360, 362, 363, 365, 366, 367, 368, 369, 372, 379, 381, 382, 384, 385, 386, 388, 389, 391, 392, 393, 395, 396, 398, 399, 400, 402, 403, 405, 406, 407, 408, 409, 412, 419, 421, 422, 424, 425, 426, 428, 429, 431, 432, 433, 435, 436, 438, 439, 440, 442, 443, 445, 446, 447, 449, 450, 452, 453, 454, 456, 457, 459, 460, 461, 463, 464, 466, 467, 468, 470, 471, 473, 474, 475, 477, 478, 480, 481, 482, 484, 485, 487, 488, 489, 491, 492, 494, 495, 496, 497, 498, 501, 508, 510, 511, 513, 514, 515, 517, 518, 520, 521, 522, 524, 525, 527, 528, 529, 531, 532, 534, 535, 536, 538, 539, 541, 542, 543, 545, 546, 548, 549, 550, 552, 553, 555, 556, 557, 559, 560, 562, 563, 564, 565, 566, 569, 576, 578, 579, 581, 582, 583, 585, 586, 588, 589, 590, 592, 593, 595, 596, 597, 599, 600, 602, 603, 604, 606, 607, 609, 610, 611, 613, 614, 616, 617, 618, 620, 621, 623, 624, 625, 627, 628, 630, 631, 632, 633, 634, 637, 640, 641, 642, 644, 645, 647, 648, 649, 651, 652, 654, 655, 656, 659, 660, 661, 663, 664, 666, 667, 668, 670, 671, 673, 674, 675, 677, 678, 680, 681, 682, 684, 685, 687, 688, 689, 692, 693, 694, 696, 697, 699, 700, 701, 704, 705, 706, 709, 710, 711, 713, 714, 716, 717, 718, 720, 721, 723, 724, 725, 728, 729, 730, 733, 734, 735, 738, 739, 740, 742, 743, 745, 746, 747, 750, 751, 752, 755, 756, 757, 760, 761, 762, 765, 766, 767, 770, 771, 772, 774, 775, 777, 778, 779, 782, 783, 784, 786, 787, 789, 790, 791, 793, 794, 796, 797, 798, 800, 801, 803, 804, 805, 808, 809, 810, 812, 813, 815, 816, 817, 819, 820, 822, 823, 824, 827, 828]
theorem KA_eq (P : Params) : KA = (K P).map (·.1) := by kernel_rfl
def topO (i : Nat) : Stmt := PySem.Challenge.pw_weighwalk_k34_fields_alone.main.body.getD i (.Pass ⟨0, 0, 0, 0⟩)
theorem top_eq : topT = topO := by unfold topT topO; rw [Fast.te14804236204062971000]
def qT : Program := { Fast.tw14804236204062971000 with main := { Fast.tw14804236204062971000.main with body := [topT 0, topT 2, topT 3, topT 4, topT 5, topT 6, topT 7, topT 8, topT 9, topT 10, topT 11, topT 12, topT 14, topT 15, topT 16, topT 17, topT 18, topT 19, topT 20, topT 21, topT 22, topT 24, topT 25, topT 26, topT 27, topT 28, topT 29, topT 30, topT 31, topT 32, topT 33, topT 34, topT 35, topT 36, topT 37, topT 38, topT 40, topT 41, topT 43, topT 44, topT 45, topT 46, topT 47, topT 48, topT 49, topT 50, topT 51, topT 52, topT 53, topT 54, topT 56, topT 57, topT 58, topT 59, topT 60, topT 61, topT 62, topT 63, topT 65, topT 67, topT 68, topT 69, topT 70, topT 71, topT 72, topT 73, topT 74, topT 75, topT 76, topT 77, topT 78, topT 79, topT 80, topT 82, topT 83, topT 85, topT 86, topT 87, topT 88, topT 89, topT 90, topT 91] } }
def qO : Program := { PySem.Challenge.pw_weighwalk_k34_fields_alone with main := { PySem.Challenge.pw_weighwalk_k34_fields_alone.main with body := [topO 0, topO 2, topO 3, topO 4, topO 5, topO 6, topO 7, topO 8, topO 9, topO 10, topO 11, topO 12, topO 14, topO 15, topO 16, topO 17, topO 18, topO 19, topO 20, topO 21, topO 22, topO 24, topO 25, topO 26, topO 27, topO 28, topO 29, topO 30, topO 31, topO 32, topO 33, topO 34, topO 35, topO 36, topO 37, topO 38, topO 40, topO 41, topO 43, topO 44, topO 45, topO 46, topO 47, topO 48, topO 49, topO 50, topO 51, topO 52, topO 53, topO 54, topO 56, topO 57, topO 58, topO 59, topO 60, topO 61, topO 62, topO 63, topO 65, topO 67, topO 68, topO 69, topO 70, topO 71, topO 72, topO 73, topO 74, topO 75, topO 76, topO 77, topO 78, topO 79, topO 80, topO 82, topO 83, topO 85, topO 86, topO 87, topO 88, topO 89, topO 90, topO 91] } }
theorem q_eq : qO = qT := by unfold qO qT; rw [top_eq, Fast.te14804236204062971000]
def recs := RowW.records (OpenRow.toRowW (OpenLaw.row PySem.Challenge.rw_weighwalk_k34_fields_alone))
abbrev Xt (q : Program) (s : Shared) : Bool := xlAt q [] s && recOk recs s
abbrev hook : Hook := kHook K KA KA_eq
theorem size_ (w : World) : ((boot_heap w.params).isNs mainGlobals && (⟨[]⟩ : Array GenState).size == 0, (boot_heap w.params).objs.size, (boot_heap w.params).nsMap mainGlobals "__annotations__") = (true, 11, (some (r 6))) := by (try rw [Fast.te15667345088766844465]); (try rw [Fast.te14082659384304107361]); (try rw [Fast.te14374325043358763698]); (try rw [Fast.te10110043849684766642]); (try rw [Fast.te14364793385576792824]); (try rw [Fast.te11892475500146522536]); (try rw [Fast.te4187177175401517315]); (try rw [Fast.te5923862056798008813]); (try rw [Fast.te8920871248978507458]); kernel_rfl
theorem open_ : ∀ w : World, (fencedOpening treeTable Fast.tw14804236204062971000 w 13274).map (fun s => (s.heap, s.gens, s.drawn, s.toks)) = some (boot_heap w.params, ⟨[]⟩, boot_drawn, boot_toks) := boot_open (by kernel_rfl) (by decide) (fun s => by (try rw [Fast.te15667345088766844465]); (try rw [Fast.te14082659384304107361]); (try rw [Fast.te14374325043358763698]); (try rw [Fast.te10110043849684766642]); (try rw [Fast.te14364793385576792824]); (try rw [Fast.te11892475500146522536]); (try rw [Fast.te4187177175401517315]); (try rw [Fast.te5923862056798008813]); (try rw [Fast.te8920871248978507458]); kernel_rfl)
theorem look1 (w : World) (os : OsState) : (staticsOk (importedModules Fast.tw14804236204062971000.main.body) (boot_heap w.params) (Hf w.params) && namesBound Fast.tw14804236204062971000 (Hf w.params) && gensDone (Sf w os) && laidKept (boot_heap w.params) (Hf w.params)) = true := by (try rw [Fast.te15667345088766844465]); (try rw [Fast.te14082659384304107361]); (try rw [Fast.te14374325043358763698]); (try rw [Fast.te10110043849684766642]); (try rw [Fast.te14364793385576792824]); (try rw [Fast.te11892475500146522536]); (try rw [Fast.te4187177175401517315]); (try rw [Fast.te5923862056798008813]); (try rw [Fast.te8920871248978507458]); kernel_rfl
theorem look2 (w : World) (os : OsState) : openSeen qT [] (importedModules Fast.tw14804236204062971000.main.body) (Xt qT) true (Sf w os) = openGood qT [] := by (try rw [Fast.te15667345088766844465]); (try rw [Fast.te14082659384304107361]); (try rw [Fast.te14374325043358763698]); (try rw [Fast.te10110043849684766642]); (try rw [Fast.te14364793385576792824]); (try rw [Fast.te11892475500146522536]); (try rw [Fast.te4187177175401517315]); (try rw [Fast.te5923862056798008813]); (try rw [Fast.te8920871248978507458]); kernel_rfl
theorem look3 (w : World) (os : OsState) : hook.obs (Sf w os) = hook.val w := by kernel_rfl
theorem leftT : LeftO Fast.tw14804236204062971000 qT [] (Xt qT) hook.obs hook.val 13274 := LeftO.of_pieces (H₁ := Hf) open_ size_ run_ (by decide) (fun w => funext fun os => looks_pair (look1 w os) (looks_pair (look2 w os) (look3 w os)))
theorem left : LeftO PySem.Challenge.pw_weighwalk_k34_fields_alone qO [] (Xt qO) hook.obs hook.val 13274 := by have h := leftT; rw [← q_eq, ← Fast.te14804236204062971000] at h; exact h
def dO : DefRec := ⟨PySem.Str.ofString "law", L2.defArgs (topO 91), L2.defBody (topO 91), L2.defScope (topO 91), ⟨471, 0, 491, 80⟩⟩
theorem holds_ (said : (OpenLaw.row PySem.Challenge.rw_weighwalk_k34_fields_alone).wellSaid = true) (hw : (OpenLaw.row PySem.Challenge.rw_weighwalk_k34_fields_alone).toRowW.promised) (hc : WalkO qO [] (XL qO []) (Hook.says hook) (OpenLaw.row PySem.Challenge.rw_weighwalk_k34_fields_alone).toRowW dO [] (fun f vs => PySem.call f vs)) : (OpenLaw.row PySem.Challenge.rw_weighwalk_k34_fields_alone).Holds :=
  holds_open (r := (OpenLaw.row PySem.Challenge.rw_weighwalk_k34_fields_alone)) (q := qO) (loose := []) (Xt := Xt qO) (XP := XL qO []) (Yf := hook.obs) (Ya := hook.val) (YP := hook.says) (d := dO) (kwd := []) (N := 13274) left hook.of hook.keeps (fun s e => xl_of s (Bool.and_eq_true_iff.mp e).1) XL.keeps (by kernel_rfl) (by kernel_rfl) (by kernel_rfl) (fun s e => recFacts_of (Bool.and_eq_true_iff.mp e).2) (by kernel_rfl) said (by decide +kernel) ⟨rfl, rfl, rfl, rfl, rfl, by decide +kernel⟩ hw hc
abbrev fO (n q : String) (s : Stmt) (m c : Value) : Obj := ⟨.type SL.s7174869446012820540x8, none, .func (fnOf (PySem.Str.ofString n) (PySem.Str.ofString q) (L2.defArgs s) (L2.defBody s) (L2.defScope s) .none .none .none m none c .none), #[]⟩
theorem lk_noughts (P : Params) : (K P).lookup 159 = some (fO "noughts" "noughts" (topO 14) (.str s53 374) (r 158)) := by rw [← top_eq]; kernel_rfl
theorem lk_unit (P : Params) : (K P).lookup 164 = some (fO "unit" "unit" (topO 15) (.str s53 374) (r 163)) := by rw [← top_eq]; kernel_rfl
theorem lk_times_row (P : Params) : (K P).lookup 169 = some (fO "times_row" "times_row" (topO 16) (.str s53 374) (r 168)) := by rw [← top_eq]; kernel_rfl
theorem lk_need_field (P : Params) : (K P).lookup 208 = some (fO "need_field" "need_field" (topO 24) (.str s4 436) (r 207)) := by rw [← top_eq]; kernel_rfl
theorem lk_leading (P : Params) : (K P).lookup 215 = some (fO "leading" "leading" (topO 25) (.str s4 436) (r 214)) := by rw [← top_eq]; kernel_rfl
theorem lk_plus_row (P : Params) : (K P).lookup 220 = some (fO "plus_row" "plus_row" (topO 26) (.str s4 436) (r 219)) := by rw [← top_eq]; kernel_rfl
theorem lk_cleared (P : Params) : (K P).lookup 227 = some (fO "cleared" "cleared" (topO 27) (.str s4 436) (r 226)) := by rw [← top_eq]; kernel_rfl
theorem lk_keep (P : Params) : (K P).lookup 234 = some (fO "keep" "keep" (topO 28) (.str s4 436) (r 233)) := by rw [← top_eq]; kernel_rfl
theorem lk_kept_rows (P : Params) : (K P).lookup 241 = some (fO "kept_rows" "kept_rows" (topO 29) (.str s4 436) (r 240)) := by rw [← top_eq]; kernel_rfl
theorem lk_width_of (P : Params) : (K P).lookup 248 = some (fO "width_of" "width_of" (topO 30) (.str s4 436) (r 247)) := by rw [← top_eq]; kernel_rfl
theorem lk_marked (P : Params) : (K P).lookup 260 = some (fO "marked" "marked" (topO 32) (.str s4 436) (r 259)) := by rw [← top_eq]; kernel_rfl
theorem lk_kept_marked (P : Params) : (K P).lookup 267 = some (fO "kept_marked" "kept_marked" (topO 33) (.str s4 436) (r 266)) := by rw [← top_eq]; kernel_rfl
theorem lk_parts_by (P : Params) : (K P).lookup 272 = some (fO "parts_by" "parts_by" (topO 34) (.str s4 436) (r 271)) := by rw [← top_eq]; kernel_rfl
theorem lk_parts (P : Params) : (K P).lookup 279 = some (fO "parts" "parts" (topO 35) (.str s4 436) (r 278)) := by rw [← top_eq]; kernel_rfl
theorem lk_rank (P : Params) : (K P).lookup 286 = some (fO "rank" "rank" (topO 36) (.str s4 436) (r 285)) := by rw [← top_eq]; kernel_rfl
theorem lk_free (P : Params) : (K P).lookup 293 = some (fO "free" "free" (topO 37) (.str s4 436) (r 292)) := by rw [← top_eq]; kernel_rfl
theorem lk_inverse_of (P : Params) : (K P).lookup 298 = some (fO "inverse_of" "inverse_of" (topO 38) (.str s4 436) (r 297)) := by rw [← top_eq]; kernel_rfl
theorem lk_is_whole (P : Params) : (K P).lookup 305 = some (fO "is_whole" "is_whole" (topO 40) (.str s98 565) (r 304)) := by rw [← top_eq]; kernel_rfl
theorem lk_is_prime (P : Params) : (K P).lookup 312 = some (fO "is_prime" "is_prime" (topO 41) (.str s98 565) (r 311)) := by rw [← top_eq]; kernel_rfl
theorem lk_Field_is_field (P : Params) : (K P).lookup 359 = some (fO "is_field" "Field.is_field" (L2.inClass (topO 50) 0) (.str s101 582) (r 358)) := by rw [← top_eq]; kernel_rfl
theorem lk_Picking_is_field (P : Params) : (K P).lookup 385 = some (fO "is_field" "Picking.is_field" (L2.inClass (topO 51) 0) (.str s101 582) (r 384)) := by rw [← top_eq]; kernel_rfl
theorem lk_Residues___init__ (P : Params) : (K P).lookup 425 = some (fO "__init__" "Residues.__init__" (L2.inClass (topO 52) 0) (.str s101 582) (r 424)) := by rw [← top_eq]; kernel_rfl
theorem lk_Residues_nought (P : Params) : (K P).lookup 439 = some (fO "nought" "Residues.nought" (L2.inClass (topO 52) 2) (.str s101 582) (r 438)) := by rw [← top_eq]; kernel_rfl
theorem lk_Residues_one (P : Params) : (K P).lookup 446 = some (fO "one" "Residues.one" (L2.inClass (topO 52) 3) (.str s101 582) (r 445)) := by rw [← top_eq]; kernel_rfl
theorem lk_Residues_plus (P : Params) : (K P).lookup 453 = some (fO "plus" "Residues.plus" (L2.inClass (topO 52) 4) (.str s101 582) (r 452)) := by rw [← top_eq]; kernel_rfl
theorem lk_Residues_times (P : Params) : (K P).lookup 460 = some (fO "times" "Residues.times" (L2.inClass (topO 52) 5) (.str s101 582) (r 459)) := by rw [← top_eq]; kernel_rfl
theorem lk_Residues_minus (P : Params) : (K P).lookup 467 = some (fO "minus" "Residues.minus" (L2.inClass (topO 52) 6) (.str s101 582) (r 466)) := by rw [← top_eq]; kernel_rfl
theorem lk_Residues_inverse (P : Params) : (K P).lookup 474 = some (fO "inverse" "Residues.inverse" (L2.inClass (topO 52) 7) (.str s101 582) (r 473)) := by rw [← top_eq]; kernel_rfl
theorem lk_heads (P : Params) : (K P).lookup 751 = some (fO "heads" "heads" (topO 76) (.str s67 1054) (r 750)) := by rw [← top_eq]; kernel_rfl
theorem lk_tails (P : Params) : (K P).lookup 756 = some (fO "tails" "tails" (topO 77) (.str s67 1054) (r 755)) := by rw [← top_eq]; kernel_rfl
theorem lk_least (P : Params) : (K P).lookup 766 = some (fO "least" "least" (topO 79) (.str s67 1054) (r 765)) := by rw [← top_eq]; kernel_rfl
theorem lk_paper (P : Params) : (K P).lookup 771 = some (fO "paper" "paper" (topO 80) (.str s67 1054) (r 770)) := by rw [← top_eq]; kernel_rfl
theorem lk_learnt (P : Params) : (K P).lookup 783 = some (fO "learnt" "learnt" (topO 83) (.str s191 1158) (r 782)) := by rw [← top_eq]; kernel_rfl
theorem lk__law_next (P : Params) : (K P).lookup 790 = some (fO "_law_next" "_law_next" (topO 85) (.str s167 1175) (r 789)) := by rw [← top_eq]; kernel_rfl
theorem lk__law_state (P : Params) : (K P).lookup 797 = some (fO "_law_state" "_law_state" (topO 86) (.str s167 1175) (r 796)) := by rw [← top_eq]; kernel_rfl
theorem lk__law_weight (P : Params) : (K P).lookup 804 = some (fO "_law_weight" "_law_weight" (topO 87) (.str s167 1175) (r 803)) := by rw [← top_eq]; kernel_rfl
theorem lk__law_machine (P : Params) : (K P).lookup 809 = some (fO "_law_machine" "_law_machine" (topO 88) (.str s167 1175) (r 808)) := by rw [← top_eq]; kernel_rfl
theorem lk__law_asked (P : Params) : (K P).lookup 816 = some (fO "_law_asked" "_law_asked" (topO 89) (.str s167 1175) (r 815)) := by rw [← top_eq]; kernel_rfl
theorem lk__law_refused (P : Params) : (K P).lookup 823 = some (fO "_law_refused" "_law_refused" (topO 90) (.str s167 1175) (r 822)) := by rw [← top_eq]; kernel_rfl
theorem lk_law (P : Params) : (K P).lookup 828 = some (fO "law" "law" (topO 91) (.str s167 1175) (r 827)) := by rw [← top_eq]; kernel_rfl
end
end H34

set_option maxHeartbeats 4000000
namespace K34
open PySem L2 Mine PyProof.Rows PySem.SeqAt
abbrev Pr : Program := PySem.Challenge.pw_weighwalk_k34_fields_alone
def top (i : Nat) : Stmt := PySem.Challenge.pw_weighwalk_k34_fields_alone.main.body.getD i (.Pass ⟨0, 0, 0, 0⟩)
abbrev s_is_whole : Stmt := top 40
abbrev s_is_prime : Stmt := top 41
abbrev s_Residues___init__ : Stmt := inClass (top 52) 0
abbrev s_Residues_nought : Stmt := inClass (top 52) 2
abbrev s_Residues_one : Stmt := inClass (top 52) 3
abbrev s_Residues_plus : Stmt := inClass (top 52) 4
abbrev s_Residues_times : Stmt := inClass (top 52) 5
abbrev s_Field_is_field : Stmt := inClass (top 50) 0
abbrev s_Picking_is_field : Stmt := inClass (top 51) 0
abbrev s_Residues_minus : Stmt := inClass (top 52) 6
abbrev s_Residues_inverse : Stmt := inClass (top 52) 7
abbrev s_noughts : Stmt := top 14
abbrev s_unit : Stmt := top 15
abbrev s_times_row : Stmt := top 16
abbrev s_need_field : Stmt := top 24
abbrev s_leading : Stmt := top 25
abbrev s_plus_row : Stmt := top 26
abbrev s_cleared : Stmt := top 27
abbrev s_keep : Stmt := top 28
abbrev s_kept_rows : Stmt := top 29
abbrev s_width_of : Stmt := top 30
abbrev s_marked : Stmt := top 32
abbrev s_kept_marked : Stmt := top 33
abbrev s_parts_by : Stmt := top 34
abbrev s_parts : Stmt := top 35
abbrev s_rank : Stmt := top 36
abbrev s_free : Stmt := top 37
abbrev s_inverse_of : Stmt := top 38
abbrev s_heads : Stmt := top 76
abbrev s_tails : Stmt := top 77
abbrev s_least : Stmt := top 79
abbrev s_paper : Stmt := top 80
abbrev s_learnt : Stmt := top 83
abbrev s_law_next : Stmt := top 85
abbrev s_law_state : Stmt := top 86
abbrev s_law_weight : Stmt := top 87
abbrev s_law_machine : Stmt := top 88
abbrev s_law_asked : Stmt := top 89
abbrev s_law_refused : Stmt := top 90
abbrev s_law : Stmt := top 91
theorem _root_.L2.Room.m {j k : Nat} {A : Around} (r : Room k A) (h : j ≤ k := by decide) : Room j A := r.mono h
theorem sc_mk {N P : List Str} {s : Scope} (a : s.kind = .function := by rfl) (b : s.isCoroutine = false := by rfl) (c : s.isGenerator = false := by rfl) (d : N.Nodup := by decide +kernel) (e : N.take P.length = P := by rfl) (f : ∀ x ∈ P, s.names.lookup x = some .local ∨ s.names.lookup x = some .cell := by decide +kernel) (g : ∀ y ∈ s.names, y.2 ≠ .free := by decide +kernel) : FnScope N P s := ⟨a, b, c, d, e, f, g⟩
theorem sc_is_whole : FnScope ["thing"] ["thing"] (defScope s_is_whole) := sc_mk
theorem sc_is_prime : FnScope ["number", "factor"] ["number"] (defScope s_is_prime) := sc_mk
theorem sc_Residues___init__ : FnScope ["self", "prime"] ["self", "prime"] (defScope s_Residues___init__) := sc_mk
theorem sc_Residues_nought : FnScope ["self"] ["self"] (defScope s_Residues_nought) := sc_mk
theorem sc_Residues_one : FnScope ["self"] ["self"] (defScope s_Residues_one) := sc_mk
theorem sc_Residues_plus : FnScope ["self", "x", "y"] ["self", "x", "y"] (defScope s_Residues_plus) := sc_mk
theorem sc_Residues_times : FnScope ["self", "x", "y"] ["self", "x", "y"] (defScope s_Residues_times) := sc_mk
theorem sc_Field_is_field : FnScope ["self"] ["self"] (defScope s_Field_is_field) := sc_mk
theorem sc_Picking_is_field : FnScope ["self"] ["self"] (defScope s_Picking_is_field) := sc_mk
theorem sc_Residues_minus : FnScope ["self", "x"] ["self", "x"] (defScope s_Residues_minus) := sc_mk
theorem sc_Residues_inverse : FnScope ["self", "x", "product", "square", "left"] ["self", "x"] (defScope s_Residues_inverse) := sc_mk
theorem sc_noughts : FnScope ["kind", "size"] ["kind", "size"] (defScope s_noughts) := sc_mk
theorem sc_unit : FnScope ["kind", "size", "place"] ["kind", "size", "place"] (defScope s_unit) := sc_mk
theorem sc_times_row : FnScope ["kind", "by", "row"] ["kind", "by", "row"] (defScope s_times_row) := sc_mk
theorem sc_need_field : FnScope ["kind"] ["kind"] (defScope s_need_field) := sc_mk
theorem sc_leading : FnScope ["kind", "row", "width", "place"] ["kind", "row", "width"] (defScope s_leading) := sc_mk
theorem sc_plus_row : FnScope ["kind", "one", "other"] ["kind", "one", "other"] (defScope s_plus_row) := sc_mk
theorem sc_cleared : FnScope ["kind", "kept", "row", "rest", "place", "other"] ["kind", "kept", "row"] (defScope s_cleared) := sc_mk
theorem sc_keep : FnScope ["kind", "kept", "row", "width", "rest", "place"] ["kind", "kept", "row", "width"] (defScope s_keep) := sc_mk
theorem sc_kept_rows : FnScope ["kind", "rows", "width", "kept", "row"] ["kind", "rows", "width"] (defScope s_kept_rows) := sc_mk
theorem sc_width_of : FnScope ["rows"] ["rows"] (defScope s_width_of) := sc_mk
theorem sc_marked : FnScope ["kind", "rows"] ["kind", "rows"] (defScope s_marked) := sc_mk
theorem sc_kept_marked : FnScope ["kind", "rows"] ["kind", "rows"] (defScope s_kept_marked) := sc_mk
theorem sc_parts_by : FnScope ["kind", "kept", "count", "row", "width", "rest"] ["kind", "kept", "count", "row"] (defScope s_parts_by) := sc_mk
theorem sc_parts : FnScope ["kind", "rows", "row"] ["kind", "rows", "row"] (defScope s_parts) := sc_mk
theorem sc_rank : FnScope ["kind", "rows"] ["kind", "rows"] (defScope s_rank) := sc_mk
theorem sc_free : FnScope ["kind", "rows"] ["kind", "rows"] (defScope s_free) := sc_mk
theorem sc_inverse_of : FnScope ["kind", "table", "size", "kept"] ["kind", "table"] (defScope s_inverse_of) := sc_mk
theorem sc_heads : FnScope ["kind", "machine"] ["kind", "machine"] (defScope s_heads) := sc_mk
theorem sc_tails : FnScope ["kind", "machine"] ["kind", "machine"] (defScope s_tails) := sc_mk
theorem sc_least : FnScope ["kind", "machine", "narrow", "rows", "longer_rows"] ["kind", "machine"] (defScope s_least) := sc_mk
theorem sc_paper : FnScope ["kind", "machine", "first", "last", "columns", "rows", "word", "row", "table"] ["kind", "machine"] (defScope s_paper) := sc_mk
theorem sc_learnt : FnScope ["kind", "letters", "ask", "most", "known", "endings", "row_of", "grown", "found", "rows", "longer_rows"] ["kind", "letters", "ask", "most"] (defScope s_learnt) := sc_mk
theorem sc_law_next : FnScope ["_law_state_here", "_law_many", "_law_found"] ["_law_state_here", "_law_many"] (defScope s_law_next) := sc_mk
theorem sc_law_state : FnScope ["_law_script", "_law_seed", "_law_cell"] ["_law_script"] (defScope s_law_state) := sc_mk
theorem sc_law_weight : FnScope ["_law_state_here", "_law_truths"] ["_law_state_here", "_law_truths"] (defScope s_law_weight) := sc_mk
theorem sc_law_machine : FnScope ["_law_state_here", "_law_truths", "_law_many", "_law_letters", "_law_tables", "_law_letter", "_law_table", "_law_k", "_law_start"] ["_law_state_here", "_law_truths"] (defScope s_law_machine) := sc_mk
theorem sc_law_asked : FnScope ["_law_which", "_law_kind", "_law_rows", "_law_row", "_law_machine_here", "_law_ask"] ["_law_which", "_law_kind", "_law_rows", "_law_row", "_law_machine_here", "_law_ask"] (defScope s_law_asked) := sc_mk
theorem sc_law_refused : FnScope ["_law_which", "_law_kind", "_law_rows", "_law_row", "_law_machine_here", "_law_ask", "_law_kinds", "e", "_law_others"] ["_law_which", "_law_kind", "_law_rows", "_law_row", "_law_machine_here", "_law_ask"] (defScope s_law_refused) := sc_mk
theorem sc_law : FnScope ["_law_script", "_law_state_here", "_law_truths", "_law_kind", "_law_wide", "_law_rows", "_law_k", "_law_row", "_law_machine_here", "_law_asked_here", "_law_ask", "_law_which"] ["_law_script"] (defScope s_law) := sc_mk
def sp_whole : Sp := fun vs H Q _ => ∃ i, vs = [.int i] ∧ Q (.bl true) H
def sp_prime : Sp := fun vs H Q _ => ∃ n, vs = [.int n] ∧ (2 ≤ n ∧ n ≤ 1000000 ∧ isP n = true) ∧ Q (.bl true) H
def sp_init (C : Addr) : Sp := fun vs H Q _ => ∃ x dx n, vs = [.ref x, .int n] ∧ (2 ≤ n ∧ n ≤ 1000000 ∧ isP n = true) ∧ H x = some (.ins C dx []) ∧ Q .non (upd H x (.ins C dx (pfs n)))
structure Adr where
  c_law : Addr
  P_law : Addr
  is_whole : Addr
  d_is_whole : FuncData
  is_prime : Addr
  d_is_prime : FuncData
  Residues___init__ : Addr
  d_Residues___init__ : FuncData
  Residues_nought : Addr
  d_Residues_nought : FuncData
  Residues_one : Addr
  d_Residues_one : FuncData
  Residues_plus : Addr
  d_Residues_plus : FuncData
  Residues_times : Addr
  d_Residues_times : FuncData
  Field_is_field : Addr
  d_Field_is_field : FuncData
  Picking_is_field : Addr
  d_Picking_is_field : FuncData
  Residues_minus : Addr
  d_Residues_minus : FuncData
  Residues_inverse : Addr
  d_Residues_inverse : FuncData
  noughts : Addr
  d_noughts : FuncData
  unit : Addr
  d_unit : FuncData
  times_row : Addr
  d_times_row : FuncData
  need_field : Addr
  d_need_field : FuncData
  leading : Addr
  d_leading : FuncData
  plus_row : Addr
  d_plus_row : FuncData
  cleared : Addr
  d_cleared : FuncData
  keep : Addr
  d_keep : FuncData
  kept_rows : Addr
  d_kept_rows : FuncData
  width_of : Addr
  d_width_of : FuncData
  marked : Addr
  d_marked : FuncData
  kept_marked : Addr
  d_kept_marked : FuncData
  parts_by : Addr
  d_parts_by : FuncData
  parts : Addr
  d_parts : FuncData
  rank : Addr
  d_rank : FuncData
  free : Addr
  d_free : FuncData
  inverse_of : Addr
  d_inverse_of : FuncData
  heads : Addr
  d_heads : FuncData
  tails : Addr
  d_tails : FuncData
  least : Addr
  d_least : FuncData
  paper : Addr
  d_paper : FuncData
  learnt : Addr
  d_learnt : FuncData
  law_next : Addr
  d_law_next : FuncData
  law_state : Addr
  d_law_state : FuncData
  law_weight : Addr
  d_law_weight : FuncData
  law_machine : Addr
  d_law_machine : FuncData
  law_asked : Addr
  d_law_asked : FuncData
  law_refused : Addr
  d_law_refused : FuncData
  law : Addr
  d_law : FuncData
  Residues : Addr
  Field : Addr
  Costs : Addr
  Truths : Addr
  Picking : Addr
  WeighError : Addr
  WrongKind : Addr
  NoClosure : Addr
  NoKind : Addr
  NoName : Addr
  NoRow : Addr
  NoText : Addr
  NoWeight : Addr
  NoWord : Addr
  TooGreat : Addr
  Unlike : Addr
structure Txt (K : PySem.W.Frag) (mg : Str → Option Value) (t : Adr) : Prop where
  F_is_whole : Fun K "is_whole" "is_whole" s_is_whole t.is_whole t.d_is_whole
  b_is_whole : Binds K t.d_is_whole ["thing"] []
  m_is_whole : mg "is_whole" = some (.ref t.is_whole)
  F_is_prime : Fun K "is_prime" "is_prime" s_is_prime t.is_prime t.d_is_prime
  b_is_prime : Binds K t.d_is_prime ["number"] []
  m_is_prime : mg "is_prime" = some (.ref t.is_prime)
  F_Residues___init__ : Fun K "__init__" "Residues.__init__" s_Residues___init__ t.Residues___init__ t.d_Residues___init__
  b_Residues___init__ : Binds K t.d_Residues___init__ ["self", "prime"] []
  t_Residues___init__ : Meth K t.Residues "__init__" t.Residues___init__
  F_Residues_nought : Fun K "nought" "Residues.nought" s_Residues_nought t.Residues_nought t.d_Residues_nought
  b_Residues_nought : Binds K t.d_Residues_nought ["self"] []
  t_Residues_nought : Meth K t.Residues "nought" t.Residues_nought
  F_Residues_one : Fun K "one" "Residues.one" s_Residues_one t.Residues_one t.d_Residues_one
  b_Residues_one : Binds K t.d_Residues_one ["self"] []
  t_Residues_one : Meth K t.Residues "one" t.Residues_one
  F_Residues_plus : Fun K "plus" "Residues.plus" s_Residues_plus t.Residues_plus t.d_Residues_plus
  b_Residues_plus : Binds K t.d_Residues_plus ["self", "x", "y"] []
  t_Residues_plus : Meth K t.Residues "plus" t.Residues_plus
  F_Residues_times : Fun K "times" "Residues.times" s_Residues_times t.Residues_times t.d_Residues_times
  b_Residues_times : Binds K t.d_Residues_times ["self", "x", "y"] []
  t_Residues_times : Meth K t.Residues "times" t.Residues_times
  F_Field_is_field : Fun K "is_field" "Field.is_field" s_Field_is_field t.Field_is_field t.d_Field_is_field
  b_Field_is_field : Binds K t.d_Field_is_field ["self"] []
  t_Field_is_field : Meth K t.Field "is_field" t.Field_is_field
  F_Picking_is_field : Fun K "is_field" "Picking.is_field" s_Picking_is_field t.Picking_is_field t.d_Picking_is_field
  b_Picking_is_field : Binds K t.d_Picking_is_field ["self"] []
  t_Picking_is_field : Meth K t.Picking "is_field" t.Picking_is_field
  F_Residues_minus : Fun K "minus" "Residues.minus" s_Residues_minus t.Residues_minus t.d_Residues_minus
  b_Residues_minus : Binds K t.d_Residues_minus ["self", "x"] []
  t_Residues_minus : Meth K t.Residues "minus" t.Residues_minus
  F_Residues_inverse : Fun K "inverse" "Residues.inverse" s_Residues_inverse t.Residues_inverse t.d_Residues_inverse
  b_Residues_inverse : Binds K t.d_Residues_inverse ["self", "x"] []
  t_Residues_inverse : Meth K t.Residues "inverse" t.Residues_inverse
  F_noughts : Fun K "noughts" "noughts" s_noughts t.noughts t.d_noughts
  b_noughts : Binds K t.d_noughts ["kind", "size"] []
  m_noughts : mg "noughts" = some (.ref t.noughts)
  F_unit : Fun K "unit" "unit" s_unit t.unit t.d_unit
  b_unit : Binds K t.d_unit ["kind", "size", "place"] []
  m_unit : mg "unit" = some (.ref t.unit)
  F_times_row : Fun K "times_row" "times_row" s_times_row t.times_row t.d_times_row
  b_times_row : Binds K t.d_times_row ["kind", "by", "row"] []
  m_times_row : mg "times_row" = some (.ref t.times_row)
  F_need_field : Fun K "need_field" "need_field" s_need_field t.need_field t.d_need_field
  b_need_field : Binds K t.d_need_field ["kind"] []
  m_need_field : mg "need_field" = some (.ref t.need_field)
  F_leading : Fun K "leading" "leading" s_leading t.leading t.d_leading
  b_leading : Binds K t.d_leading ["kind", "row", "width"] []
  m_leading : mg "leading" = some (.ref t.leading)
  F_plus_row : Fun K "plus_row" "plus_row" s_plus_row t.plus_row t.d_plus_row
  b_plus_row : Binds K t.d_plus_row ["kind", "one", "other"] []
  m_plus_row : mg "plus_row" = some (.ref t.plus_row)
  F_cleared : Fun K "cleared" "cleared" s_cleared t.cleared t.d_cleared
  b_cleared : Binds K t.d_cleared ["kind", "kept", "row"] []
  m_cleared : mg "cleared" = some (.ref t.cleared)
  F_keep : Fun K "keep" "keep" s_keep t.keep t.d_keep
  b_keep : Binds K t.d_keep ["kind", "kept", "row", "width"] []
  m_keep : mg "keep" = some (.ref t.keep)
  F_kept_rows : Fun K "kept_rows" "kept_rows" s_kept_rows t.kept_rows t.d_kept_rows
  b_kept_rows : Binds K t.d_kept_rows ["kind", "rows", "width"] []
  m_kept_rows : mg "kept_rows" = some (.ref t.kept_rows)
  F_width_of : Fun K "width_of" "width_of" s_width_of t.width_of t.d_width_of
  b_width_of : Binds K t.d_width_of ["rows"] []
  m_width_of : mg "width_of" = some (.ref t.width_of)
  F_marked : Fun K "marked" "marked" s_marked t.marked t.d_marked
  b_marked : Binds K t.d_marked ["kind", "rows"] []
  m_marked : mg "marked" = some (.ref t.marked)
  F_kept_marked : Fun K "kept_marked" "kept_marked" s_kept_marked t.kept_marked t.d_kept_marked
  b_kept_marked : Binds K t.d_kept_marked ["kind", "rows"] []
  m_kept_marked : mg "kept_marked" = some (.ref t.kept_marked)
  F_parts_by : Fun K "parts_by" "parts_by" s_parts_by t.parts_by t.d_parts_by
  b_parts_by : Binds K t.d_parts_by ["kind", "kept", "count", "row"] []
  m_parts_by : mg "parts_by" = some (.ref t.parts_by)
  F_parts : Fun K "parts" "parts" s_parts t.parts t.d_parts
  b_parts : Binds K t.d_parts ["kind", "rows", "row"] []
  m_parts : mg "parts" = some (.ref t.parts)
  F_rank : Fun K "rank" "rank" s_rank t.rank t.d_rank
  b_rank : Binds K t.d_rank ["kind", "rows"] []
  m_rank : mg "rank" = some (.ref t.rank)
  F_free : Fun K "free" "free" s_free t.free t.d_free
  b_free : Binds K t.d_free ["kind", "rows"] []
  m_free : mg "free" = some (.ref t.free)
  F_inverse_of : Fun K "inverse_of" "inverse_of" s_inverse_of t.inverse_of t.d_inverse_of
  b_inverse_of : Binds K t.d_inverse_of ["kind", "table"] []
  m_inverse_of : mg "inverse_of" = some (.ref t.inverse_of)
  F_heads : Fun K "heads" "heads" s_heads t.heads t.d_heads
  b_heads : Binds K t.d_heads ["kind", "machine"] []
  m_heads : mg "heads" = some (.ref t.heads)
  F_tails : Fun K "tails" "tails" s_tails t.tails t.d_tails
  b_tails : Binds K t.d_tails ["kind", "machine"] []
  m_tails : mg "tails" = some (.ref t.tails)
  F_least : Fun K "least" "least" s_least t.least t.d_least
  b_least : Binds K t.d_least ["kind", "machine"] []
  m_least : mg "least" = some (.ref t.least)
  F_paper : Fun K "paper" "paper" s_paper t.paper t.d_paper
  b_paper : Binds K t.d_paper ["kind", "machine"] []
  m_paper : mg "paper" = some (.ref t.paper)
  F_learnt : Fun K "learnt" "learnt" s_learnt t.learnt t.d_learnt
  b_learnt : Binds K t.d_learnt ["kind", "letters", "ask", "most"] []
  m_learnt : mg "learnt" = some (.ref t.learnt)
  F_law_next : Fun K "_law_next" "_law_next" s_law_next t.law_next t.d_law_next
  b_law_next : Binds K t.d_law_next ["_law_state_here", "_law_many"] []
  m_law_next : mg "_law_next" = some (.ref t.law_next)
  F_law_state : Fun K "_law_state" "_law_state" s_law_state t.law_state t.d_law_state
  b_law_state : Binds K t.d_law_state ["_law_script"] []
  m_law_state : mg "_law_state" = some (.ref t.law_state)
  F_law_weight : Fun K "_law_weight" "_law_weight" s_law_weight t.law_weight t.d_law_weight
  b_law_weight : Binds K t.d_law_weight ["_law_state_here", "_law_truths"] []
  m_law_weight : mg "_law_weight" = some (.ref t.law_weight)
  F_law_machine : Fun K "_law_machine" "_law_machine" s_law_machine t.law_machine t.d_law_machine
  b_law_machine : Binds K t.d_law_machine ["_law_state_here", "_law_truths"] []
  m_law_machine : mg "_law_machine" = some (.ref t.law_machine)
  F_law_asked : Fun K "_law_asked" "_law_asked" s_law_asked t.law_asked t.d_law_asked
  b_law_asked : Binds K t.d_law_asked ["_law_which", "_law_kind", "_law_rows", "_law_row", "_law_machine_here", "_law_ask"] []
  m_law_asked : mg "_law_asked" = some (.ref t.law_asked)
  F_law_refused : Fun K "_law_refused" "_law_refused" s_law_refused t.law_refused t.d_law_refused
  b_law_refused : Binds K t.d_law_refused ["_law_which", "_law_kind", "_law_rows", "_law_row", "_law_machine_here", "_law_ask"] []
  m_law_refused : mg "_law_refused" = some (.ref t.law_refused)
  F_law : Fun K "law" "law" s_law t.law t.d_law
  b_law : Binds K t.d_law ["_law_script"] []
  m_law : mg "law" = some (.ref t.law)
  C_Residues : Cls K t.Residues
  m_Residues : mg "Residues" = some (.ref t.Residues)
  M_Residues : Mk K t.Residues t.Residues___init__
  C_Field : Cls K t.Field
  m_Field : mg "Field" = some (.ref t.Field)
  M_Field : MkO K t.Field
  C_Costs : Cls K t.Costs
  m_Costs : mg "Costs" = some (.ref t.Costs)
  M_Costs : MkO K t.Costs
  C_Truths : Cls K t.Truths
  m_Truths : mg "Truths" = some (.ref t.Truths)
  M_Truths : MkO K t.Truths
  C_Picking : Cls K t.Picking
  m_Picking : mg "Picking" = some (.ref t.Picking)
  M_Picking : MkO K t.Picking
  m_WeighError : mg "WeighError" = some (.ref t.WeighError)
  x_WeighError : ExcK K t.WeighError
  m_WrongKind : mg "WrongKind" = some (.ref t.WrongKind)
  x_WrongKind : ExcK K t.WrongKind
  m_NoClosure : mg "NoClosure" = some (.ref t.NoClosure)
  x_NoClosure : ExcK K t.NoClosure
  m_NoKind : mg "NoKind" = some (.ref t.NoKind)
  x_NoKind : ExcK K t.NoKind
  m_NoName : mg "NoName" = some (.ref t.NoName)
  x_NoName : ExcK K t.NoName
  m_NoRow : mg "NoRow" = some (.ref t.NoRow)
  x_NoRow : ExcK K t.NoRow
  m_NoText : mg "NoText" = some (.ref t.NoText)
  x_NoText : ExcK K t.NoText
  m_NoWeight : mg "NoWeight" = some (.ref t.NoWeight)
  x_NoWeight : ExcK K t.NoWeight
  m_NoWord : mg "NoWord" = some (.ref t.NoWord)
  x_NoWord : ExcK K t.NoWord
  m_TooGreat : mg "TooGreat" = some (.ref t.TooGreat)
  x_TooGreat : ExcK K t.TooGreat
  m_Unlike : mg "Unlike" = some (.ref t.Unlike)
  x_Unlike : ExcK K t.Unlike
  z_isinstance : mg "isinstance" = none
  z_int : mg "int" = none
  z_bool : mg "bool" = none
  c_GREATEST_PRIME : ∃ tk, mg "GREATEST_PRIME" = some (Value.int 1000000 tk)
  z_tuple : mg "tuple" = none
  z_range : mg "range" = none
  z_zip : mg "zip" = none
  z_len : mg "len" = none
  z_enumerate : mg "enumerate" = none
  z_ValueError : mg "ValueError" = none
  k_ii : PySem.W.kitOne K (.type "int") (.type "int") = some true
  k_ib : PySem.W.kitOne K (.type "int") (.type "bool") = some false
  k_tt : PySem.W.kitOne K (.type "tuple") (.type "tuple") = some true
  k_bb : PySem.W.kitOne K (.type "bool") (.type "bool") = some true
  nP : NoAttr K t.Residues "prime"
  iR_is_field : PySem.W.findIn K (.ref t.Residues) "is_field" = some (some (.ref t.Field_is_field))
  k_ll : PySem.W.kitOne K (.type "list") (.type "list") = some true
  iC_is_field : PySem.W.findIn K (.ref t.Costs) "is_field" = some (some (.ref t.Picking_is_field))
  iT_is_field : PySem.W.findIn K (.ref t.Truths) "is_field" = some (some (.ref t.Picking_is_field))
  eW : PySem.W.exmOne K (.ref t.WrongKind) (.ref t.WeighError) = some true
  vW : PySem.W.kitOne K (.ref t.WrongKind) (.type "ValueError") = some true
  kWW : PySem.W.kitOne K (.ref t.WrongKind) (.ref t.WrongKind) = some true
  kW1 : PySem.W.kitAny K (.ref t.WrongKind) [.ref t.NoClosure, .ref t.NoKind, .ref t.NoName, .ref t.NoRow, .ref t.NoText] = some false
  kW2 : PySem.W.kitAny K (.ref t.WrongKind) [.ref t.NoWeight, .ref t.NoWord, .ref t.TooGreat, .ref t.Unlike] = some false
  tb_law : PySem.W.tabIn K "law" = some (t.c_law, t.P_law)
  ns_law : PySem.W.nsIn K mainGlobals "law" = some (some (.ref t.law))
seal L2.PSs L2.PS L2.PE L2.PT L2.PW L2.PA L2.PG L2.PGs L2.PI
section
variable {w : World} {K : PySem.W.Frag} {mg : Str → Option Value} {base : Heap} {t : Adr}
theorem ok_is_whole (T : Txt K mg t) : FnOk Pr w K mg base CX0 1 t.is_whole t.d_is_whole ["thing"] sp_whole := by
  refine T.F_is_whole.ok sc_is_whole (fun vs H Q E h => ?_) (fun cdv A outer s H vs Q E hr h => ?_)
  · obtain ⟨i, rfl, _⟩ := h
    rfl
  · obtain ⟨i, rfl, k⟩ := h
    refine ⟨_, (pss_one (ps_ret (pe_and (pe_callB call_isi (by rfl) T.z_isinstance boot_isinstance (pa_cons (pv 0) (pa_cons (pe_bltn (v := .ty "int") rfl T.z_int boot_int rfl) pa_nil))) (pe_one (pe_not (pe_callB call_isi (by rfl) T.z_isinstance boot_isinstance (pa_cons (pv 0) (pa_cons (pe_bltn (v := .ty "bool") rfl T.z_bool boot_bool rfl) pa_nil)))))))), ?_⟩
    (repeat (first | apply Exists.intro | refine And.intro rfl ?_ | refine And.intro (by with_reducible assumption) ?_ | refine And.intro (SqT.of (by assumption)) ?_ | refine And.intro (SqL.of (by assumption)) ?_ | refine And.intro (TyOf.int _) ?_ | refine And.intro (TyOf.tup (by assumption)) ?_ | refine And.intro T.k_ii ?_ | refine And.intro T.k_ib ?_ | refine And.intro T.k_tt ?_ | refine And.intro T.k_bb ?_ | refine And.intro T.nP ?_ | refine And.intro T.iR_is_field ?_ | refine And.intro T.k_ll ?_ | refine And.intro T.iC_is_field ?_ | refine And.intro T.iT_is_field ?_ | refine And.intro T.eW ?_ | refine And.intro T.vW ?_ | refine And.intro T.kWW ?_ | refine And.intro T.kW1 ?_ | refine And.intro T.kW2 ?_))
    (try refine iteT ?_)
    (repeat (first | apply Exists.intro | refine And.intro rfl ?_ | refine And.intro (by with_reducible assumption) ?_ | refine And.intro (SqT.of (by assumption)) ?_ | refine And.intro (SqL.of (by assumption)) ?_ | refine And.intro (TyOf.int _) ?_ | refine And.intro (TyOf.tup (by assumption)) ?_ | refine And.intro T.k_ii ?_ | refine And.intro T.k_ib ?_ | refine And.intro T.k_tt ?_ | refine And.intro T.k_bb ?_ | refine And.intro T.nP ?_ | refine And.intro T.iR_is_field ?_ | refine And.intro T.k_ll ?_ | refine And.intro T.iC_is_field ?_ | refine And.intro T.iT_is_field ?_ | refine And.intro T.eW ?_ | refine And.intro T.vW ?_ | refine And.intro T.kWW ?_ | refine And.intro T.kW1 ?_ | refine And.intro T.kW2 ?_))
    exact k
theorem ok_is_prime (T : Txt K mg t) : FnOk Pr w K mg base CX0 1 t.is_prime t.d_is_prime ["number"] sp_prime := by
  refine T.F_is_prime.ok sc_is_prime (fun vs H Q E h => ?_) (fun cdv A outer s H vs Q E hr h => ?_)
  · obtain ⟨n, rfl, _⟩ := h
    rfl
  · obtain ⟨n, rfl, ⟨n2, n6, hp⟩, k⟩ := h
    have PP := isP_true hp
    refine ⟨_, (pss_cons (ps_if (pt_cmpR op_lt (pv 0) pe_int (nomark _)) (pss_one (ps_ret pe_bl)) pss_nil) (pss_cons (ps_set (i := 1) sc_is_prime.nd rfl (Or.inl rfl) pe_int) (pss_cons (ps_while PassesOwn.never (pt_cmpR op_le (pe_op op_mul (pv 1) (pv 1)) (pv 0) (nomark _)) (pss_cons (ps_if (pt_cmpR op_eq (pe_op op_modN (pv 0) (pv 1)) pe_int (nomark _)) (pss_one (ps_ret pe_bl)) pss_nil) (pss_one (ps_set (i := 1) sc_is_prime.nd rfl (Or.inl rfl) (pe_op op_add (pv 1) pe_int))))) (pss_one (ps_ret pe_bl))))), ?_⟩
    refine ⟨_, rfl, _, _, rfl, rfl, _, rfl, ?_⟩
    refine iteP (fun h0 => absurd h0 (by omega)) (fun _ => ?_)
    refine ⟨fun m σ H' => ∃ f : Int, σ = [some (.int n), some (.int f)] ∧ m = (n + 2 - f).toNat ∧ (2 ≤ f ∧ f ≤ n + 1) ∧ H' = H, ⟨_, _, rfl, rfl, ⟨by omega, by omega⟩, rfl⟩, ?_⟩
    rintro m σ H' ⟨f, rfl, rfl, ⟨f2, fn⟩, rfl⟩
    have cm : CMul f f := .inl ⟨by omega, by omega⟩
    refine ⟨_, rfl, _, rfl, _, _, rfl, rfl, cm, _, rfl, _, _, rfl, rfl, _, rfl, ?_⟩
    refine iteP (fun h0 => ?_) (fun h0 => ?_)
    · refine ⟨fun σ' H'' => ∃ f' : Int, σ' = [some (.int n), some (.int f')] ∧ (n + 2 - f').toNat < (n + 2 - f).toNat ∧ (2 ≤ f' ∧ f' ≤ n + 1) ∧ H'' = H', fun σ' H'' ⟨f', e1, e2, e3, e4⟩ => ⟨_, e2, f', e1, rfl, e3, e4⟩, ?_⟩
      refine ⟨_, rfl, _, rfl, _, _, rfl, rfl, (show f ≠ 0 by omega), rfl, _, rfl, ?_⟩
      have hs := sq_le f2 h0
      refine iteI (fun h1 => absurd h1 (PP.2 f f2 h0)) (fun _ => ?_)
      refine ⟨_, rfl, _, _, rfl, rfl, ?_⟩
      exact ⟨_, rfl, by omega, ⟨by omega, by omega⟩, rfl⟩
    · exact k
theorem ok_Residues___init__ (T : Txt K mg t) : FnOk Pr w K mg base CX0 2 t.Residues___init__ t.d_Residues___init__ ["self", "prime"] (sp_init t.Residues) := by
  refine T.F_Residues___init__.ok sc_Residues___init__ (fun vs H Q E h => ?_) (fun cdv A outer s H vs Q E hr h => ?_)
  · obtain ⟨x, dx, n, rfl, _⟩ := h
    rfl
  · obtain ⟨x, dx, n, rfl, hn, hx, k⟩ := h
    refine ⟨_, (pss_cons (ps_if (PW.pt (pw_or (pt_not (pt_val (pe_call (ok_is_whole T) hr.m rfl T.m_is_whole T.F_is_whole.kp T.b_is_whole .nil pass0 (pa_cons (pv 1) pa_nil)))) (pw_or (pt_cmpR op_gt (pv 1) (pe_glob (v := .int 1000000) rfl T.c_GREATEST_PRIME.choose_spec ⟨_, rfl⟩) (nomark _)) (pw_or1 (pt_not (pt_val (pe_call (ok_is_prime T) hr.m rfl T.m_is_prime T.F_is_prime.kp T.b_is_prime .nil pass0 (pa_cons (pv 1) pa_nil)))))))) (pss_one ps_never) pss_nil) (pss_one (ps_fld (pv 0) (pv 1) rfl))), ?_⟩
    refine ⟨_, rfl, _, rfl, _, rfl, ?_⟩
    (try refine iteF ?_)
    refine ⟨_, rfl, _, _, rfl, rfl, _, rfl, ?_⟩
    refine iteP (fun h0 => absurd h0 (by have := hn.2.1; omega)) (fun _ => ?_)
    refine ⟨_, rfl, _, rfl, hn, _, rfl, ?_⟩
    (try refine iteF ?_)
    refine ⟨_, rfl, _, rfl, x, _, dx, _, rfl, hx, T.C_Residues, T.nP, (by show 0 < 1000; decide), ?_⟩
    exact k
theorem ok_Residues_nought (T : Txt K mg t) (p : Int) (hp : 2 ≤ p) : FnOk Pr w K mg base CX0 1 t.Residues_nought t.d_Residues_nought ["self"] (spNul t.Residues (pfs p) (resSR p hp) (isRe p) (resSR p hp).zero) := by
  refine T.F_Residues_nought.ok sc_Residues_nought (fun vs H Q E h => ?_) (fun cdv A outer s H vs Q E hr h => ?_)
  · obtain ⟨x, rfl, _⟩ := h
    rfl
  · obtain ⟨x, rfl, _, k⟩ := h
    refine ⟨_, (pss_one (ps_ret pe_int)), ?_⟩
    exact k _ _ (Same.refl _) rfl
theorem ok_Residues_plus (T : Txt K mg t) (p : Int) (hp : 2 ≤ p) : FnOk Pr w K mg base CX0 1 t.Residues_plus t.d_Residues_plus ["self", "x", "y"] (spBin t.Residues (pfs p) (resSR p hp) (isRe p) (resSR p hp).add) := by
  refine T.F_Residues_plus.ok sc_Residues_plus (fun vs H Q E h => ?_) (fun cdv A outer s H vs Q E hr h => ?_)
  · obtain ⟨k, x, y, a, b, m, n, rfl, _⟩ := h
    rfl
  · obtain ⟨k0, x, y, a, b, m, n, rfl, ⟨⟨q, dx, rfl, hq⟩, rfl, rfl, sa, sb, hmn⟩, k⟩ := h
    refine ⟨_, (pss_one (ps_ret (pe_op op_modN (pe_op op_add (pv 1) (pv 2)) (pe_fld (pv 0) rfl)))), ?_⟩
    refine ⟨_, rfl, _, rfl, _, _, rfl, rfl, _, rfl, q, _, dx, _, _, rfl, hq, T.C_Residues, T.nP, pfs_prime p, _, _, rfl, rfl, (show p ≠ 0 by omega), ?_⟩
    exact k _ _ (Same.refl _) rfl
theorem ok_Residues_times (T : Txt K mg t) (p : Int) (hp : 2 ≤ p) (hq : p ≤ 1000000) : FnOk Pr w K mg base CX0 1 t.Residues_times t.d_Residues_times ["self", "x", "y"] (spBin t.Residues (pfs p) (resSR p hp) (isRe p) (resSR p hp).mul) := by
  refine T.F_Residues_times.ok sc_Residues_times (fun vs H Q E h => ?_) (fun cdv A outer s H vs Q E hr h => ?_)
  · obtain ⟨k, x, y, a, b, m, n, rfl, _⟩ := h
    rfl
  · obtain ⟨k0, x, y, a, b, m, n, rfl, ⟨⟨q, dx, rfl, hk⟩, rfl, rfl, sa, sb, hmn⟩, k⟩ := h
    have cm : CMul a.x b.x := .inl ⟨by have := a.h0; omega, by have := a.h1; omega⟩
    refine ⟨_, (pss_one (ps_ret (pe_op op_modN (pe_op op_mul (pv 1) (pv 2)) (pe_fld (pv 0) rfl)))), ?_⟩
    refine ⟨_, rfl, _, rfl, _, _, rfl, rfl, cm, _, rfl, q, _, dx, _, _, rfl, hk, T.C_Residues, T.nP, pfs_prime p, _, _, rfl, rfl, (show p ≠ 0 by omega), ?_⟩
    exact k _ _ (Same.refl _) rfl
theorem ok_Residues_one (T : Txt K mg t) (p : Int) (hp : 2 ≤ p) : FnOk Pr w K mg base CX0 1 t.Residues_one t.d_Residues_one ["self"] (spNul t.Residues (pfs p) (resSR p hp) (isRe p) (resSR p hp).one) := by
  refine T.F_Residues_one.ok sc_Residues_one (fun vs H Q E h => ?_) (fun cdv A outer s H vs Q E hr h => ?_)
  · obtain ⟨x, rfl, _⟩ := h
    rfl
  · obtain ⟨x, rfl, _, k⟩ := h
    refine ⟨_, (pss_one (ps_ret pe_int)), ?_⟩
    exact k _ _ (Same.refl _) rfl
theorem ok_Field_is_field (T : Txt K mg t) : FnOk Pr w K mg base CX0 1 t.Field_is_field t.d_Field_is_field ["self"] (spPk true) := by
  refine T.F_Field_is_field.ok sc_Field_is_field (fun vs H Q E h => ?_) (fun cdv A outer s H vs Q E hr h => ?_)
  · obtain ⟨x, rfl, _⟩ := h
    rfl
  · obtain ⟨x, rfl, k⟩ := h
    exact ⟨_, (pss_one (ps_ret pe_bl)), k⟩
def Reneg (p : Int) (hp : 2 ≤ p) (a : Re p) : Re p := Re.of p (by omega) (-a.x)
def Reinv (p : Int) (hp : 2 ≤ p) (a : Re p) : Re p := ⟨ri p a.x, (ri_in (by omega)).1, (ri_in (by omega)).2⟩
theorem ok_Residues_minus (T : Txt K mg t) (p : Int) (hp : 2 ≤ p) : FnOk Pr w K mg base CX0 1 t.Residues_minus t.d_Residues_minus ["self", "x"] (spNeg t.Residues (pfs p) (resSR p hp) (isRe p) (Reneg p hp)) := by
  refine T.F_Residues_minus.ok sc_Residues_minus (fun vs H Q E h => ?_) (fun cdv A outer s H vs Q E hr h => ?_)
  · obtain ⟨k, x, a, rfl, _⟩ := h
    rfl
  · obtain ⟨k0, x, a, rfl, ⟨⟨q, dx, rfl, hq⟩, rfl⟩, k⟩ := h
    refine ⟨_, (pss_one (ps_ret (pe_op op_modN (pe_un un_neg (pv 1)) (pe_fld (pv 0) rfl)))), ?_⟩
    refine ⟨_, rfl, _, rfl, _, rfl, q, _, dx, _, _, rfl, hq, T.C_Residues, T.nP, pfs_prime p, _, _, rfl, rfl, (show p ≠ 0 by omega), ?_⟩
    exact k _ _ (Same.refl _) rfl
theorem half {l : Int} (h : 0 < l) : 0 ≤ l.fdiv 2 ∧ (l.fdiv 2).toNat < l.toNat := by
  rw [Int.fdiv_eq_ediv_of_nonneg l (by decide)]
  omega
theorem ok_Residues_inverse (T : Txt K mg t) (p : Int) (hp : 2 ≤ p) (hq : p ≤ 1000000) : FnOk Pr w K mg base CX0 3 t.Residues_inverse t.d_Residues_inverse ["self", "x"] (spInv t.Residues (pfs p) (resSR p hp) (isRe p) (Reinv p hp)) := by
  refine T.F_Residues_inverse.ok sc_Residues_inverse (fun vs H Q E h => ?_) (fun cdv A outer s H vs Q E hr h => ?_)
  · obtain ⟨k, x, a, rfl, _⟩ := h
    rfl
  · obtain ⟨k0, x, a, rfl, ⟨⟨q, dx, rfl, hk0⟩, rfl, na⟩, k⟩ := h
    have hk : ∀ {H' : Hp}, Same H H' → H' q = some (.ins t.Residues dx (pfs p)) := fun e => e _ _ hk0
    have nt : (pfs p).lookup ("times" : Str) = none := pfs_no p (by decide +kernel)
    refine ⟨_, (pss_cons (ps_if (pt_cmpR op_eq (pv 1) pe_int (nomark _)) (pss_one ps_never) pss_nil) (pss_cons (ps_set (i := 2) sc_Residues_inverse.nd rfl (Or.inl rfl) pe_int) (pss_cons (ps_set (i := 3) sc_Residues_inverse.nd rfl (Or.inl rfl) (pv 1)) (pss_cons (ps_set (i := 4) sc_Residues_inverse.nd rfl (Or.inl rfl) (pe_op op_sub (pe_fld (pv 0) rfl) pe_int)) (pss_cons (ps_while PassesOwn.never (pt_cmpR op_gt (pv 4) pe_int (nomark _)) (pss_cons (ps_if (pt_cmpR op_eq (pe_op op_modN (pv 4) pe_int) pe_int (nomark _)) (pss_one (ps_set (i := 2) sc_Residues_inverse.nd rfl (Or.inl rfl) (pe_meth (pv 0) T.C_Residues T.t_Residues_times (ok_Residues_times T p hp hq) hr.m T.b_Residues_times .nil pass0 (pa_cons (pv 2) (pa_cons (pv 3) pa_nil))))) pss_nil) (pss_cons (ps_set (i := 3) sc_Residues_inverse.nd rfl (Or.inl rfl) (pe_meth (pv 0) T.C_Residues T.t_Residues_times (ok_Residues_times T p hp hq) hr.m T.b_Residues_times .nil pass0 (pa_cons (pv 3) (pa_cons (pv 3) pa_nil)))) (pss_one (ps_set (i := 4) sc_Residues_inverse.nd rfl (Or.inl rfl) (pe_op op_fdivB (pv 4) pe_int)))))) (pss_one (ps_ret (pv 2)))))))), ?_⟩
    refine ⟨_, rfl, rfl, _, rfl, ?_⟩
    refine iteI (fun h0 => absurd (Re.eq_of h0) na) (fun h0 => ?_)
    refine ⟨_, rfl, _, rfl, q, _, dx, _, _, rfl, hk0, T.C_Residues, T.nP, pfs_prime p, _, _, rfl, rfl, ?_⟩
    refine ⟨fun m σ H' => ∃ l pr sq : Int, σ = [some (.ref q), some (.int a.x), some (.int pr), some (.int sq), some (.int l)] ∧ m = l.toNat ∧ (0 ≤ l ∧ 0 ≤ sq ∧ sq < p ∧ RInv p a.x l pr sq) ∧ Same H H', ⟨_, _, _, _, rfl, rfl, ⟨by omega, a.h0, a.h1, ri_start hp⟩, Same.refl _⟩, ?_⟩
    rintro m σ H' ⟨l, pr, sq, rfl, rfl, ⟨l0, s0, s1, ri⟩, qq⟩
    refine ⟨_, rfl, _, _, rfl, rfl, _, rfl, ?_⟩
    refine iteP (fun hl => ?_) (fun hl => ?_)
    · refine ⟨fun σ' H'' => ∃ l' pr' sq' : Int, σ' = [some (.ref q), some (.int a.x), some (.int pr'), some (.int sq'), some (.int l')] ∧ l'.toNat < l.toNat ∧ (0 ≤ l' ∧ 0 ≤ sq' ∧ sq' < p ∧ RInv p a.x l' pr' sq') ∧ Same H H'', fun σ' H'' ⟨l', pr', sq', e1, e2, e3, e4⟩ => ⟨_, e2, l', pr', sq', e1, rfl, e3, e4⟩, ?_⟩
      have fd := half hl
      have m0 : ∀ S : SR, Sml S (0 + 0) := fun _ => .inl (by decide)
      refine ⟨_, rfl, _, _, rfl, rfl, (show (2 : Int) ≠ 0 by decide), rfl, _, rfl, ?_⟩
      refine iteI (fun ho => ?_) (fun ho => ?_)
      · refine ⟨_, rfl, _, _, _, rfl, hk qq, nt, _, rfl, _, rfl, _, _, _, (⟨pr, ri.2.1, ri.2.2⟩ : Re p), (⟨sq, s0, s1⟩ : Re p), 0, 0, rfl, ⟨⟨_, _, rfl, hk qq⟩, rfl, rfl, trivial, trivial, m0 _⟩, fun v1 H1 q1 f1 => ?_⟩
        obtain rfl : v1 = .int ((pr * sq).fmod p) := f1
        have s2 := qq.trans q1
        refine ⟨_, rfl, _, _, _, rfl, hk s2, nt, _, rfl, _, rfl, _, _, _, (⟨sq, s0, s1⟩ : Re p), (⟨sq, s0, s1⟩ : Re p), 0, 0, rfl, ⟨⟨_, _, rfl, hk s2⟩, rfl, rfl, trivial, trivial, m0 _⟩, fun v2 H2 q2 f2 => ?_⟩
        obtain rfl : v2 = .int ((sq * sq).fmod p) := f2
        refine ⟨_, rfl, _, _, rfl, rfl, ⟨by decide, by decide⟩, ?_⟩
        exact ⟨_, _, _, rfl, fd.2, ⟨fd.1, (r_in (by omega)).1, (r_in (by omega)).2, ri_odd (by omega) ri hl (by rw [← fe (by decide)]; exact ho)⟩, s2.trans q2⟩
      · refine ⟨_, rfl, _, _, _, rfl, hk qq, nt, _, rfl, _, rfl, _, _, _, (⟨sq, s0, s1⟩ : Re p), (⟨sq, s0, s1⟩ : Re p), 0, 0, rfl, ⟨⟨_, _, rfl, hk qq⟩, rfl, rfl, trivial, trivial, m0 _⟩, fun v2 H2 q2 f2 => ?_⟩
        obtain rfl : v2 = .int ((sq * sq).fmod p) := f2
        refine ⟨_, rfl, _, _, rfl, rfl, ⟨by decide, by decide⟩, ?_⟩
        exact ⟨_, _, _, rfl, fd.2, ⟨fd.1, (r_in (by omega)).1, (r_in (by omega)).2, ri_even (by omega) ri hl (by rw [← fe (by decide)]; exact ho)⟩, qq.trans q2⟩
    · refine ⟨_, rfl, ?_⟩
      have e := ri_out ri hl
      refine k _ _ qq ?_
      show V.int pr = .int (Mine.ri p a.x)
      rw [e]
theorem Re_pos {p : Int} {hp : 2 ≤ p} {x : Re p} (h : x ≠ (resSR p hp).zero) : 0 < x.x := by
  have h0 := x.h0
  by_cases e : x.x = 0
  · exact absurd (Re.eq_of e) h
  · omega
/-! the kinds -/
def R_re (T : Txt K mg t) (p : Int) (hp : 2 ≤ p) (hq : p ≤ 1000000) (hP : isP p = true) : KindR Pr w K mg base where
  S := resSR p hp
  C := t.Residues
  fs := pfs p
  cl := T.C_Residues
  is := isRe p
  same _ h := h
  isd {H v x} h := by cases (show v = .int x.x from h); exact .int _
  F := {
    neg := Reneg p hp
    inv := Reinv p hp
    add_neg := fun x => Re.eq_of (r_pm (by omega))
    mul_inv := fun x h => Re.eq_of (ri_one (isP_true hP).nat (Re_pos (hp := hp) h) x.h1)
    sz_neg := fun _ _ _ => trivial
    sz_inv := fun _ _ _ _ => trivial }
  f_plus := _
  d_plus := _
  t_plus := T.t_Residues_plus
  b_plus := T.b_Residues_plus
  l_plus := pfs_no p (by decide +kernel)
  G_plus := (ok_Residues_plus T p hp).mono (by decide)
  f_times := _
  d_times := _
  t_times := T.t_Residues_times
  b_times := T.b_Residues_times
  l_times := pfs_no p (by decide +kernel)
  G_times := (ok_Residues_times T p hp hq).mono (by decide)
  f_nought := _
  d_nought := _
  t_nought := T.t_Residues_nought
  b_nought := T.b_Residues_nought
  l_nought := pfs_no p (by decide +kernel)
  G_nought := (ok_Residues_nought T p hp).mono (by decide)
  f_one := _
  d_one := _
  t_one := T.t_Residues_one
  b_one := T.b_Residues_one
  l_one := pfs_no p (by decide +kernel)
  G_one := (ok_Residues_one T p hp).mono (by decide)
  f_minus := _
  d_minus := _
  t_minus := T.t_Residues_minus
  b_minus := T.b_Residues_minus
  l_minus := pfs_no p (by decide +kernel)
  G_minus := (ok_Residues_minus T p hp).mono (by decide)
  f_inverse := _
  d_inverse := _
  t_inverse := T.t_Residues_inverse
  b_inverse := T.b_Residues_inverse
  l_inverse := pfs_no p (by decide +kernel)
  G_inverse := (ok_Residues_inverse T p hp hq).mono (by decide)
  f_is_field := _
  d_is_field := _
  t_is_field := ⟨T.iR_is_field, T.t_Field_is_field.2, T.t_Field_is_field.3⟩
  b_is_field := T.b_Field_is_field
  l_is_field := pfs_no p (by decide +kernel)
  G_is_field := (ok_Field_is_field T).mono (by decide)
/-- which of the two fields, with its name and number -/
inductive So (T : Txt K mg t) : KindR Pr w K mg base → Str → Int → Prop
  | re (p : Int) (hp : 2 ≤ p) (hq : p ≤ 1000000) (hi : isP p = true) : So T (R_re T p hp hq hi) "residues" p
def SortAt (H : Hp) (v : V) (nm : Str) (p : Int) : Prop := ∃ q, v = .ref q ∧ H q = some (.tup [.str nm, .int p])
theorem SortAt.same {H H' : Hp} {v : V} {nm : Str} {p : Int} (s : SameT H H') (h : SortAt H v nm p) : SortAt H' v nm p := by
  obtain ⟨q, rfl, e⟩ := h
  exact ⟨q, rfl, s _ _ e⟩
--ROWS
/-! draws -/
def Dr (H : Hp) (a : Addr) : Prop := ∃ x : Int, H a = some (.lst [.int x]) ∨ ∃ d : Int, H a = some (.lst [.int d, .int x])
/-- all but the list at a is as it was -/
def SameX (a : Addr) (H H' : Hp) : Prop := ∀ b o, b ≠ a → H b = some o → H' b = some o
theorem SameX.refl (a : Addr) (H : Hp) : SameX a H H := fun _ _ _ h => h
theorem SameX.trans {a : Addr} {H H1 H2 : Hp} (x : SameX a H H1) (y : SameX a H1 H2) : SameX a H H2 := fun b o n h => y b o n (x b o n h)
theorem SameX.upd {a : Addr} {H : Hp} {o : HO} : SameX a H (upd H a o) := fun b u n h => by rw [upd_ne n]; exact h
theorem SameX.of {a : Addr} {H H' : Hp} (x : Same H H') : SameX a H H' := fun b o _ h => x b o h
def sp_next : Sp := fun vs H Q _ => ∃ (a : Addr) (m : Int), vs = [.ref a, .int m] ∧ (Dr H a ∧ 0 < m ∧ m ≤ 1000000000000000) ∧ ∀ (r : Int) H', SameX a H H' → Dr H' a → 0 ≤ r → r < m → Q (.int r) H'
def sp_state (K : PySem.W.Frag) : Sp := fun vs H Q _ => ∃ (a : Addr) (ns : List Int), vs = [.ref a] ∧ SqL K H a (ns.map V.int) ∧ ns.length ≤ 63 ∧ ∀ b H', H b = none → Same H H' → Dr H' b → Q (.ref b) H'
theorem small_div {m : Int} (h : 0 < m) (h' : m ≤ 1000000000000000) (x : Int) : CDivB x m := by
  refine ⟨by omega, ?_⟩
  have : m.natAbs ≤ 2 ^ 50 := by
    have e : (2 : Nat) ^ 50 = 1125899906842624 := by decide
    omega
  by_cases e : m.natAbs = 0
  · rw [e]; decide
  · rw [Nat.log2_lt e]
    exact Nat.lt_of_le_of_lt this (Nat.pow_lt_pow_right (by decide) (by decide))
theorem ok_law_next (T : Txt K mg t) : FnOk Pr w K mg base CX0 1 t.law_next t.d_law_next ["_law_state_here", "_law_many"] sp_next := by
  refine T.F_law_next.ok sc_law_next (fun vs H Q E h => ?_) (fun cdv A outer s H vs Q E hr h => ?_)
  · obtain ⟨a, m, rfl, _⟩ := h
    rfl
  · obtain ⟨a, m, rfl, ⟨⟨x, hD⟩, m0, m1⟩, k⟩ := h
    refine ⟨_, (pss_cons (ps_if (pt_cmpR op_eq (pe_callB call_len (by rfl) T.z_len PySem.boot_len (pa_cons (pv 0) pa_nil)) pe_int (nomark _)) (pss_cons (ps_set (i := 2) sc_law_next.nd rfl (Or.inl rfl) (pe_op op_modN (pe_ix ix_list (pv 0) pe_int (fun _ _ => rfl)) (pv 1))) (pss_cons (ps_asg (pe_op op_fdivB (pe_ix ix_list (pv 0) pe_int (fun _ _ => rfl)) (pv 1)) (pg_sub (pv 0) pe_int set_list)) (pss_cons (ps_if (pt_cmpR op_eq (pe_ix ix_list (pv 0) pe_int (fun _ _ => rfl)) pe_int (nomark _)) (pss_one (ps_expr (pe_bm PySem.F.plainAttrs_list PySem.F.slot_list_pop PySem.F.type_list_pop mt_popAt (pv 0) (pa_cons pe_int pa_nil)))) pss_nil) (pss_one (ps_ret (pv 2)))))) pss_nil) (pss_cons (ps_asg (pe_op op_modN (pe_op op_add (pe_op op_mul (pe_ix ix_list (pv 0) pe_int (fun _ _ => rfl)) pe_int) pe_int) pe_int) (pg_sub (pv 0) pe_int set_list)) (pss_one (ps_ret (pe_op op_modN (pe_op op_fdivB (pe_ix ix_list (pv 0) pe_int (fun _ _ => rfl)) pe_int) (pv 1)))))), ?_⟩
    rcases hD with hD | ⟨d, hD⟩
    · have lc : LenV K (.ref a) H 1 := .inl ⟨_, SqL.of hD, rfl⟩
      refine ⟨_, rfl, _, _, rfl, lc, rfl, _, rfl, ?_⟩
      refine iteI (fun h => absurd h (by decide)) (fun _ => ?_)
      refine ⟨_, rfl, _, _, _, _, rfl, rfl, SqL.of hD, rfl, _, _, rfl, rfl, .inr ⟨by decide, by decide⟩, _, _, rfl, rfl, _, _, rfl, rfl, (show (2305843009213693951 : Int) ≠ 0 by decide), ?_⟩
      refine ⟨_, rfl, _, _, _, _, rfl, rfl, hD, rfl, ?_⟩
      refine ⟨_, rfl, _, _, _, _, rfl, rfl, SqL.of upd_same, rfl, _, _, rfl, rfl, ⟨by decide, by decide⟩, _, rfl, _, _, rfl, rfl, (show m ≠ 0 by omega), ?_⟩
      exact k _ _ SameX.upd ⟨_, .inl upd_same⟩ (Int.fmod_nonneg_of_pos _ m0) (Int.fmod_lt_of_pos _ m0)
    · have lc : LenV K (.ref a) H 2 := .inl ⟨_, SqL.of hD, rfl⟩
      refine ⟨_, rfl, _, _, rfl, lc, rfl, _, rfl, ?_⟩
      refine iteI (fun _ => ?_) (fun h => absurd rfl h)
      refine ⟨_, rfl, _, _, _, _, rfl, rfl, SqL.of hD, rfl, _, rfl, _, _, rfl, rfl, (show m ≠ 0 by omega), ?_⟩
      refine ⟨_, rfl, _, _, _, _, rfl, rfl, SqL.of hD, rfl, _, rfl, _, _, rfl, rfl, small_div m0 m1 _, ?_⟩
      refine ⟨_, rfl, _, _, _, _, rfl, rfl, hD, rfl, ?_⟩
      refine ⟨_, rfl, _, _, _, _, rfl, rfl, SqL.of upd_same, rfl, rfl, _, rfl, ?_⟩
      refine iteI (fun _ => ?_) (fun _ => ?_)
      · refine ⟨_, rfl, .inl ⟨rfl, _, SqL.of upd_same⟩, _, _, _, _, _, rfl, rfl, upd_same, (by decide), (by decide), rfl, rfl, ?_⟩
        refine ⟨_, rfl, ?_⟩
        exact k _ _ (SameX.upd.trans SameX.upd) ⟨x, .inl upd_same⟩ (Int.fmod_nonneg_of_pos _ m0) (Int.fmod_lt_of_pos _ m0)
      · refine ⟨_, rfl, ?_⟩
        exact k _ _ SameX.upd ⟨x, .inr ⟨_, upd_same⟩⟩ (Int.fmod_nonneg_of_pos _ m0) (Int.fmod_lt_of_pos _ m0)
theorem ok_law_state (T : Txt K mg t) : FnOk Pr w K mg base CX0 1 t.law_state t.d_law_state ["_law_script"] (sp_state K) := by
  refine T.F_law_state.ok sc_law_state (fun vs H Q E h => ?_) (fun cdv A outer s H vs Q E hr h => ?_)
  · obtain ⟨a, ns, rfl, _⟩ := h
    rfl
  · obtain ⟨a, ns, rfl, hS, hlen, k⟩ := h
    refine ⟨_, (pss_cons (ps_set (i := 1) sc_law_state.nd rfl (Or.inl rfl) pe_int) (pss_cons (ps_for PassesOwn.never rfl (pi_list (pe_slice sl_list (pv 0) po_none (po_some pe_int))) (pg_name (i := 2) sc_law_state.nd rfl (Or.inl rfl)) (pss_one (ps_set (i := 1) sc_law_state.nd rfl (Or.inl rfl) (pe_op op_modN (pe_op op_add (pe_op op_add (pe_op op_mul (pv 1) pe_int) (pe_op op_modN (pv 2) (pe_op op_pow pe_int pe_int))) pe_int) pe_int)))) (pss_cons (ps_if (PW.pt (pw_and (pt_cmpR op_gt (pe_callB call_len (by rfl) T.z_len PySem.boot_len (pa_cons (pv 0) pa_nil)) pe_int (nomark _)) (pw_and (pt_cmpR op_gt (pe_ix ix_list (pv 0) pe_int (fun _ _ => rfl)) pe_int (nomark _)) (pw_and1 (pt_cmpR op_eq (pe_op op_modN (pe_ix ix_list (pv 0) pe_int (fun _ _ => rfl)) pe_int) pe_int (nomark _)))))) (pss_one (ps_ret (pe_lst (pa_cons (pe_op op_fdivB (pe_ix ix_list (pv 0) pe_int (fun _ _ => rfl)) pe_int) (pa_cons (pv 1) pa_nil))))) pss_nil) (pss_one (ps_ret (pe_lst (pa_cons (pv 1) pa_nil))))))), ?_⟩
    refine ⟨_, rfl, _, rfl, _, _, rfl, hS, fun c1 hc1 => ?_⟩
    have ec : cutV (ns.map V.int) none (some 200) = (ns.take 200).map V.int := by
      rw [show (200 : Int) = ((200 : Nat) : Int) from rfl, cut_take, List.map_take]
    have s1 := same_upd (o := .lst (cutV (ns.map V.int) none (some 200))) hc1
    have k1 := upd_same (H := H) (a := c1) (o := .lst (cutV (ns.map V.int) none (some 200)))
    have hS1 := s1.seq hS
    clear hc1
    revert s1 k1 hS1
    generalize upd H c1 (.lst (cutV (ns.map V.int) none (some 200))) = H1
    intro s1 k1 hS1
    rw [ec] at k1
    refine ⟨c1, rfl, ⟨_, SqL.of k1⟩, for_list (K := K) (a := c1) (xs := (ns.take 200).map V.int) (fun i σ H' => ∃ (x : Int) (v : Option V), σ = [some (.ref a), some (.int x), v] ∧ H' = H1) ⟨_, _, rfl, rfl⟩ (fun i σ H' _ ⟨_, _, _, e⟩ => e ▸ SqL.of k1) ?_ ?_⟩
    · rintro i y σ H' hi ⟨x, v, rfl, rfl⟩
      obtain ⟨z, rfl⟩ : ∃ z, y = V.int z := by
        rw [List.getElem?_map] at hi
        cases e : (ns.take 200)[i]? with
        | none => rw [e] at hi; cases hi
        | some z => rw [e] at hi; exact ⟨z, (Option.some.inj hi).symm⟩
      refine ⟨_, rfl, _, _, rfl, rfl, .inr ⟨by decide, by decide⟩, _, rfl, _, _, rfl, rfl, ⟨by decide, by decide, by decide⟩, _, _, rfl, rfl, (show ((10 : Int) ^ (30 : Int).toNat) ≠ 0 by decide), _, _, rfl, rfl, _, _, rfl, rfl, _, _, rfl, rfl, (show (2305843009213693951 : Int) ≠ 0 by decide), ?_⟩
      exact ⟨_, _, rfl, rfl⟩
    · rintro σ H' ⟨x, v, rfl, rfl⟩
      have lc : LenV K (.ref a) H' (ns.map V.int).length := .inl ⟨_, hS1, rfl⟩
      rw [List.length_map] at lc
      have last : tSeq tNext (tRet (tLst (tCons (tVar 1) tNil))) { nx := fun _ H'' => Q .non H'', rt := Q } [some (.ref a), some (.int x), v] H' := by
        refine ⟨_, rfl, (by show 1 ≤ sizeLine; decide), fun b hb => ?_⟩
        exact k b _ (s1.free hb) (s1.trans (same_upd hb)) ⟨x, .inl upd_same⟩
      refine ⟨_, rfl, _, _, rfl, lc, _, _, rfl, rfl, _, rfl, ?_⟩
      refine iteP (fun h0 => ?_) (fun _ => ?_)
      · obtain ⟨n0, g0⟩ : ∃ n, ns[0]? = some n := ⟨ns[0]'(by omega), by simp⟩
        have a0 : atI (ns.map V.int) 0 = some (V.int n0) := atI_nat (j := 0) (by rw [List.getElem?_map, g0]; rfl)
        refine ⟨_, rfl, _, _, _, _, rfl, rfl, hS1, a0, _, _, rfl, rfl, _, rfl, ?_⟩
        refine iteP (fun _ => ?_) (fun _ => ?_)
        · refine ⟨_, rfl, _, _, _, _, rfl, rfl, hS1, a0, _, _, rfl, rfl, (show (2 : Int) ≠ 0 by decide), rfl, _, rfl, ?_⟩
          refine iteI (fun _ => ?_) (fun _ => ?_)
          · refine ⟨_, rfl, _, _, _, _, rfl, rfl, hS1, a0, _, _, rfl, rfl, ⟨by decide, by decide⟩, _, rfl, (by show 2 ≤ sizeLine; decide), fun b hb => ?_⟩
            exact k b _ (s1.free hb) (s1.trans (same_upd hb)) ⟨x, .inr ⟨_, upd_same⟩⟩
          · exact last
        · exact last
      · exact last
theorem Dr.same {H H' : Hp} {a : Addr} (e : Same H H') (h : Dr H a) : Dr H' a := by
  obtain ⟨x, h | ⟨d, h⟩⟩ := h
  · exact ⟨x, .inl (e _ _ h)⟩
  · exact ⟨x, .inr ⟨d, e _ _ h⟩⟩
theorem Dr.lst {H : Hp} {a : Addr} (h : Dr H a) : ∃ xs, H a = some (.lst xs) := by
  obtain ⟨x, h | ⟨d, h⟩⟩ := h
  · exact ⟨_, h⟩
  · exact ⟨_, h⟩
theorem SameX.tt {a : Addr} {H H' : Hp} (s : SameX a H H') (d : Dr H a) : SameT H H' := fun p vs h => s p _ (by
  rintro rfl
  obtain ⟨xs, e⟩ := d.lst
  rw [h] at e; cases e) h
theorem KAt.samx {C : Addr} {fs : List (Str × V)} {a : Addr} {H H' : Hp} {k : V} (s : SameX a H H') (d : Dr H a) (h : KAt C fs H k) : KAt C fs H' k := by
  obtain ⟨p, dx, rfl, h⟩ := h
  exact ⟨p, dx, rfl, s p _ (by
    rintro rfl
    obtain ⟨xs, e⟩ := d.lst
    rw [h] at e; cases e) h⟩
theorem SameX.tup {a p : Addr} {H : Hp} {o : HO} (n : H p = none) (d : Dr H a) : SameX a H (L2.upd H p o) ∧ Dr (L2.upd H p o) a := ⟨.of (same_upd n), d.same (same_upd n)⟩
theorem sameT_lst {H : Hp} {a : Addr} {xs : List V} {o : HO} (h : H a = some (.lst xs)) : SameT H (upd H a o) := fun b vs hb => by
  rw [upd_ne (by rintro rfl; rw [h] at hb; cases hb)]; exact hb
theorem SameX.put {a b : Addr} {H H1 : Hp} {o : HO} (s : SameX a H H1) (n : H b = none) : SameX a H (L2.upd H1 b o) := fun c u hc hu => by
  rw [upd_ne (ne_of_none hu n)]; exact s c u hc hu
theorem Dr.put {a b : Addr} {H : Hp} {o : HO} (d : Dr H a) (n : b ≠ a) : Dr (L2.upd H b o) a := by
  obtain ⟨x, h | ⟨y, h⟩⟩ := d
  · exact ⟨x, .inl (by rw [upd_ne (Ne.symm n)]; exact h)⟩
  · exact ⟨x, .inr ⟨y, by rw [upd_ne (Ne.symm n)]; exact h⟩⟩
/-! rows of weights, their sizes in bits -/
theorem Ents.app {Pd : Nat → V → Hp → Prop} {xs ys : List V} {n k : Nat} {H : Hp} (h1 : Ents Pd xs n H) (h2 : Ents (fun j => Pd (n + j)) ys k H) : Ents Pd (xs ++ ys) (n + k) H :=
  ⟨by rw [List.length_append, h1.1, h2.1], fun j hj => by
    by_cases hn : j < n
    · obtain ⟨u, e, q⟩ := h1.2 j hn
      exact ⟨u, by rw [List.getElem?_append_left (by rw [h1.1]; exact hn)]; exact e, q⟩
    · obtain ⟨u, e, q⟩ := h2.2 (j - n) (by omega)
      rw [show n + (j - n) = j by omega] at q
      exact ⟨u, by rw [List.getElem?_append_right (by rw [h1.1]; omega), h1.1]; exact e, q⟩⟩
theorem Row.up {R : KindR Pr w K mg base} {n m m' : Nat} {x : Nat → R.S.W} {v : V} {H : Hp} (h : m ≤ m') (r : R.Row n x m v H) : R.Row n x m' v H := r.mono (SameT.refl _) fun _ _ _ q => ⟨q.1, R.S.sz_mono _ _ _ h q.2⟩
theorem cut_drop {xs : List V} {k : Nat} (h : k ≤ xs.length) : cutV xs (some (k : Int)) none = xs.drop k := by
  unfold cutV
  rw [HT.sIx_none, HT.sIx_nat, Nat.min_eq_left h]
  exact List.take_of_length_le (by rw [List.length_drop]; exact Nat.le_refl _)
/-- the item of a row at a place -/
theorem Row.at {R : KindR Pr w K mg base} {n m : Nat} {x : Nat → R.S.W} {v : V} {H : Hp} (r : R.Row n x m v H) {j : Nat} (hj : j < n) : ∃ p vs u, v = .ref p ∧ SqT K H p vs ∧ atI vs (j : Int) = some u ∧ R.is H u (x j) ∧ R.S.sz m (x j) := by
  obtain ⟨p, vs, rfl, hp, e⟩ := r
  obtain ⟨u, eu, q⟩ := e.2 j hj
  exact ⟨p, vs, u, rfl, SqT.of hp, atI_nat eu, q.1, q.2⟩
def sp_times_row (w : World) (K : PySem.W.Frag) (mg : Str → Option Value) (base : Heap) : Sp := fun vs H Q _ => ∃ (R : KindR Pr w K mg base), ∃ kv bv row n b x j m, vs = [kv, bv, row] ∧ (KAt R.C R.fs H kv ∧ R.is H bv b ∧ R.S.sz j b ∧ R.Row n x m row H ∧ n ≤ 1000 ∧ Sml R.S (j + m)) ∧
  ∀ v H', Same H H' → R.Row n (fun i => R.S.mul b (x i)) (j + m) v H' → Q v H'
theorem ok_times_row (T : Txt K mg t) : FnOk Pr w K mg base CX0 41 t.times_row t.d_times_row ["kind", "by", "row"] (sp_times_row w K mg base) := by
  refine T.F_times_row.ok sc_times_row (fun vs H Q E h => ?_) (fun cdv A outer s H vs Q E hr h => ?_)
  · obtain ⟨R, kv, bv, row, n, b, x, j, m, rfl, _⟩ := h
    rfl
  · obtain ⟨R, kv, bv, row, n, b, x, jl, m, rfl, ⟨⟨kp, dx, rfl, hk⟩, hb, lb, ⟨p, us, rfl, hp, ent⟩, hn, hz⟩, k⟩ := h
    refine ⟨_, (pss_one (ps_ret (pe_callTy call_tuple_of (by rfl) T.z_tuple boot_tuple (pa_cons (pe_comp (xs := ["x"]) rfl (show CompOk ["kind", "by", "row"] (defScope s_times_row) _ from ⟨rfl, by decide +kernel, by decide +kernel, by decide +kernel, by decide +kernel, by decide +kernel⟩) (pi_tup (pv 2)) (fun _ _ _ _ _ => (pg_name (i := 3) (by show List.Nodup (["kind", "by", "row", "x"] : List Str); decide +kernel) rfl (Or.inl rfl))) (fun _ _ _ _ _ => (pe_meth (pv 0) R.cl R.t_times R.G_times hr.m R.b_times .nil pass0 (pa_cons (pv 1) (pa_cons (pv 3) pa_nil))))) pa_nil)))), ?_⟩
    refine ⟨_, rfl, p, rfl, ⟨_, SqT.of hp⟩, comp_go (n := n) (fun j ys H2 => Same H H2 ∧ Ents (R.Wt (fun i => R.S.mul b (x i)) (jl + m)) ys j H2) hn ⟨Same.refl _, Ents.nil⟩ (fun j ys H2 q => q.2.1) ?_ ?_ ?_⟩
    · rintro j ys H2 hj ⟨q, e⟩
      obtain ⟨u, eu, pu⟩ := ent.2 j hj
      refine ⟨⟨_, _, SqT.of (q _ _ hp), eu⟩, fun y H' hy => ?_⟩
      obtain ⟨rfl, hy⟩ := hy
      have := hy _ (SqT.of (q _ _ hp))
      rw [eu] at this
      cases this
      refine ⟨⟨[some _], rfl, rfl⟩, _, rfl, _, _, _, rfl, q _ _ hk, R.l_times, _, rfl, _, rfl, _, _, _, _, _, jl, m, rfl, ⟨⟨_, _, rfl, q _ _ hk⟩, R.same q.t hb, R.same q.t pu.1, lb, pu.2, hz⟩, fun v H3 s3 f3 => ?_⟩
      exact ⟨q.trans s3, (e.mono fun _ _ _ z => KindR.Wt.same s3.t z).snoc ⟨f3, R.S.sz_mul _ _ _ _ lb pu.2⟩⟩
    · rintro ys H2 ⟨q, e⟩
      exact ⟨_, SqT.of (q _ _ hp), by rw [ent.1]; exact Nat.le_refl _⟩
    · rintro ys H2 l ⟨q, e⟩ nl
      have s1' := same_upd (o := .lst ys) nl
      refine ⟨l, ys, rfl, .inl ⟨SqL.of upd_same, fun l2 n2 => ?_⟩⟩
      have s2 := same_upd (o := .tup ys) n2
      exact k _ _ (q.trans (s1'.trans s2)) ⟨l2, ys, rfl, upd_same, e.mono fun _ _ _ z => KindR.Wt.same (s1'.trans s2).t z⟩
def sp_noughts (w : World) (K : PySem.W.Frag) (mg : Str → Option Value) (base : Heap) : Sp := fun vs H Q _ => ∃ (R : KindR Pr w K mg base), ∃ kv, ∃ (z : Int), ∃ (n m : Nat), vs = [kv, .int z] ∧ (KAt R.C R.fs H kv ∧ n ≤ 1000 ∧ z = n) ∧
  ∀ v H', Same H H' → R.Row n (fun _ => R.S.zero) m v H' → Q v H'
theorem ok_noughts (T : Txt K mg t) : FnOk Pr w K mg base CX0 41 t.noughts t.d_noughts ["kind", "size"] (sp_noughts w K mg base) := by
  refine T.F_noughts.ok sc_noughts (fun vs H Q E h => ?_) (fun cdv A outer s H vs Q E hr h => ?_)
  · obtain ⟨R, kv, z, n, m, rfl, _⟩ := h
    rfl
  · obtain ⟨R, kv, z, n, m, rfl, ⟨⟨kp, dx, rfl, hk⟩, hn, rfl⟩, k⟩ := h
    refine ⟨_, (pss_one (ps_ret (pe_callTy call_tuple_of (by rfl) T.z_tuple boot_tuple (pa_cons (pe_comp (xs := ["place"]) rfl (show CompOk ["kind", "size"] (defScope s_noughts) _ from ⟨rfl, by decide +kernel, by decide +kernel, by decide +kernel, by decide +kernel, by decide +kernel⟩) (pi_range1 rfl T.z_range (pa_cons (pv 1) pa_nil)) (fun _ _ _ _ _ => (pg_name (i := 2) (by show List.Nodup (["kind", "size", "place"] : List Str); decide +kernel) rfl (Or.inl rfl))) (fun _ _ _ _ _ => (pe_meth0 (pv 0) R.cl R.t_nought R.G_nought hr.m R.b_nought .nil pass0))) pa_nil)))), ?_⟩
    refine ⟨_, rfl, _, rfl, (by omega), (by omega), comp_go (n := n) (fun j ys H2 => Same H H2 ∧ Ents (R.Wt (fun _ => R.S.zero) m) ys j H2) hn ⟨Same.refl _, Ents.nil⟩ (fun j ys H2 q => q.2.1) ?_ ?_ ?_⟩
    · rintro j ys H2 hj ⟨q, e⟩
      refine ⟨(show j < (n : Int).toNat by omega), fun y H' hy => ?_⟩
      obtain ⟨rfl, rfl⟩ := hy
      refine ⟨⟨[some _], rfl, rfl⟩, _, rfl, _, _, _, rfl, q _ _ hk, R.l_nought, _, rfl, ⟨_, _, rfl, q _ _ hk⟩, fun v H3 s3 f3 => ?_⟩
      exact ⟨q.trans s3, (e.mono fun _ _ _ z => KindR.Wt.same s3.t z).snoc ⟨f3, R.S.sz_mono _ _ _ (Nat.zero_le _) R.S.sz_zero⟩⟩
    · rintro ys H2 ⟨q, e⟩
      show (n : Int).toNat ≤ n
      omega
    · rintro ys H2 l ⟨q, e⟩ nl
      have s1' := same_upd (o := .lst ys) nl
      refine ⟨l, ys, rfl, .inl ⟨SqL.of upd_same, fun l2 n2 => ?_⟩⟩
      have s2 := same_upd (o := .tup ys) n2
      exact k _ _ (q.trans (s1'.trans s2)) ⟨l2, ys, rfl, upd_same, e.mono fun _ _ _ z => KindR.Wt.same (s1'.trans s2).t z⟩
/-! a row with one at one place -/
def unitW (S : SR) (p : Nat) : Nat → S.W := fun i => if i = p then S.one else S.zero
theorem unitW_sz {S : SR} {p i m : Nat} : S.sz m (unitW S p i) := by
  unfold unitW
  split
  · exact S.sz_mono _ _ _ (Nat.zero_le _) S.sz_one
  · exact S.sz_mono _ _ _ (Nat.zero_le _) S.sz_zero
def sp_unit (w : World) (K : PySem.W.Frag) (mg : Str → Option Value) (base : Heap) : Sp := fun vs H Q _ => ∃ (R : KindR Pr w K mg base), ∃ kv, ∃ (z zp : Int), ∃ (n p m : Nat), vs = [kv, .int z, .int zp] ∧ (KAt R.C R.fs H kv ∧ n ≤ 1000 ∧ z = n ∧ zp = p) ∧
  ∀ v H', Same H H' → R.Row n (unitW R.S p) m v H' → Q v H'
theorem ok_unit (T : Txt K mg t) : FnOk Pr w K mg base CX0 41 t.unit t.d_unit ["kind", "size", "place"] (sp_unit w K mg base) := by
  refine T.F_unit.ok sc_unit (fun vs H Q E h => ?_) (fun cdv A outer s H vs Q E hr h => ?_)
  · obtain ⟨R, kv, z, zp, n, p, m, rfl, _⟩ := h
    rfl
  · obtain ⟨R, kv, z, zp, n, p, m, rfl, ⟨⟨kp, dx, rfl, hk⟩, hn, rfl, rfl⟩, k⟩ := h
    refine ⟨_, (pss_one (ps_ret (pe_callTy call_tuple_of (by rfl) T.z_tuple boot_tuple (pa_cons (pe_comp (xs := ["other"]) rfl (show CompOk ["kind", "size", "place"] (defScope s_unit) _ from ⟨rfl, by decide +kernel, by decide +kernel, by decide +kernel, by decide +kernel, by decide +kernel⟩) (pi_range1 rfl T.z_range (pa_cons (pv 1) pa_nil)) (fun _ _ _ _ _ => (pg_name (i := 3) (by show List.Nodup (["kind", "size", "place", "other"] : List Str); decide +kernel) rfl (Or.inl rfl))) (fun _ _ _ _ _ => (pe_ifExp (pt_cmpR op_eq (pv 3) (pv 2) (nomark _)) (pe_meth0 (pv 0) R.cl R.t_one R.G_one hr.m R.b_one .nil pass0) (pe_meth0 (pv 0) R.cl R.t_nought R.G_nought hr.m R.b_nought .nil pass0)))) pa_nil)))), ?_⟩
    refine ⟨_, rfl, _, rfl, (by omega), (by omega), comp_go (n := n) (fun j ys H2 => Same H H2 ∧ Ents (R.Wt (unitW R.S p) m) ys j H2) hn ⟨Same.refl _, Ents.nil⟩ (fun j ys H2 q => q.2.1) ?_ ?_ ?_⟩
    · rintro j ys H2 hj ⟨q, e⟩
      refine ⟨(show j < (n : Int).toNat by omega), fun y H' hy => ?_⟩
      obtain ⟨rfl, rfl⟩ := hy
      have lv : R.S.sz m (unitW R.S p j) := unitW_sz
      refine ⟨⟨[some _], rfl, rfl⟩, _, rfl, _, rfl, rfl, _, rfl, ?_⟩
      refine iteI (fun e0 => ?_) (fun e0 => ?_)
      · have e1 : unitW R.S p j = R.S.one := if_pos (by omega)
        refine ⟨_, rfl, _, _, _, rfl, q _ _ hk, R.l_one, _, rfl, ⟨_, _, rfl, q _ _ hk⟩, fun v H3 s3 f3 => ?_⟩
        exact ⟨q.trans s3, (e.mono fun _ _ _ z => KindR.Wt.same s3.t z).snoc ⟨by rw [e1]; exact f3, lv⟩⟩
      · have e1 : unitW R.S p j = R.S.zero := if_neg (by omega)
        refine ⟨_, rfl, _, _, _, rfl, q _ _ hk, R.l_nought, _, rfl, ⟨_, _, rfl, q _ _ hk⟩, fun v H3 s3 f3 => ?_⟩
        exact ⟨q.trans s3, (e.mono fun _ _ _ z => KindR.Wt.same s3.t z).snoc ⟨by rw [e1]; exact f3, lv⟩⟩
    · rintro ys H2 ⟨q, e⟩
      show (n : Int).toNat ≤ n
      omega
    · rintro ys H2 l ⟨q, e⟩ nl
      have s1' := same_upd (o := .lst ys) nl
      refine ⟨l, ys, rfl, .inl ⟨SqL.of upd_same, fun l2 n2 => ?_⟩⟩
      have s2 := same_upd (o := .tup ys) n2
      exact k _ _ (q.trans (s1'.trans s2)) ⟨l2, ys, rfl, upd_same, e.mono fun _ _ _ z => KindR.Wt.same (s1'.trans s2).t z⟩
--SPANS
/-! what is told of fields alone -/
def sp_need_field (w : World) (K : PySem.W.Frag) (mg : Str → Option Value) (base : Heap) : Sp := fun vs H Q _ => ∃ (R : KindR Pr w K mg base), ∃ kv, vs = [kv] ∧ KAt R.C R.fs H kv ∧ Q .non H
def spx_nf (w : World) (K : PySem.W.Frag) (mg : Str → Option Value) (base : Heap) (t : Adr) : Sp := fun vs H Q E => ∃ (kp C dx : Addr) (fs : List (Str × V)) (f : Addr) (fd : FuncData) (b : Bool), vs = [.ref kp] ∧ (H kp = some (.ins C dx fs) ∧ fs.lookup ("is_field" : Str) = none ∧ Cls K C ∧ Meth K C "is_field" f ∧ Binds K fd ["self"] [] ∧ FnOk Pr w K mg base CX0 40 f fd ["self"] (spPk b)) ∧ (b = true → Q .non H) ∧ (b = false → E (.ref t.WrongKind) none H)
theorem okx_need_field (T : Txt K mg t) : FnOk Pr w K mg base (CX1 Pr w) 41 t.need_field t.d_need_field ["kind"] (spx_nf w K mg base t) := by
  refine T.F_need_field.okx sc_need_field (fun vs H Q E h => ?_) (fun cdv A outer s H vs Q E hr h => ?_)
  · obtain ⟨kp, C, dx, fs, f, fd, b, rfl, _⟩ := h
    rfl
  · obtain ⟨kp, C, dx, fs, f, fd, b, rfl, ⟨h1, h2, h3, h4, h5, h6⟩, k0, k1⟩ := h
    refine ⟨_, (pss_one (ps_if (pt_not (pt_val (pe_methD0 (pv 0) pass0))) (pss_one (ps_raise thru_cx rfl T.x_WrongKind.ex rfl T.m_WrongKind (pa_cons pe_str pa_nil))) pss_nil)), ?_⟩
    refine ⟨_, rfl, kp, C, dx, fs, f, fd, ["self"], spPk b, 40, rfl, h1, h2, h3, h4, h6, hr, h5, _, rfl, _, rfl, ?_⟩
    cases b with
    | true =>
      (try refine iteF ?_)
      exact k0 rfl
    | false =>
      (try refine iteT ?_)
      exact ⟨(by show 1 ≤ sizeLine; decide), k1 rfl⟩
theorem ok_need_field (T : Txt K mg t) : FnOk Pr w K mg base CX0 41 t.need_field t.d_need_field ["kind"] (sp_need_field w K mg base) :=
  (okx_need_field T).quiet.imp fun vs H Q E h => by
    obtain ⟨R, kv, rfl, ⟨kp, dx, rfl, hk⟩, k⟩ := h
    exact ⟨kp, R.C, dx, R.fs, _, _, true, rfl, ⟨hk, R.l_is_field, R.cl, R.t_is_field, R.b_is_field, R.G_is_field⟩, fun _ => k, fun z => nomatch z⟩
theorem ok_Picking_is_field (T : Txt K mg t) : FnOk Pr w K mg base CX0 1 t.Picking_is_field t.d_Picking_is_field ["self"] (spPk false) := by
  refine T.F_Picking_is_field.ok sc_Picking_is_field (fun vs H Q E h => ?_) (fun cdv A outer s H vs Q E hr h => ?_)
  · obtain ⟨x, rfl, _⟩ := h
    rfl
  · obtain ⟨x, rfl, k⟩ := h
    exact ⟨_, (pss_one (ps_ret pe_bl)), k⟩
/-! rows kept and cleared (need_field apart) -/
def leadV : Option Nat → V
  | none => .non
  | some p => .int (p : Nat)
theorem lead_at {S : SR} {x : Nat → S.W} {i w : Nat} (h : lead x i = none) (n : x i ≠ S.zero) (hi : i < w) : lead x w = some i := by
  cases e : lead x w with
  | none => exact absurd (lead_none e i hi) n
  | some p =>
    obtain ⟨a, b, c⟩ := lead_some e
    by_cases h1 : p < i
    · exact absurd (lead_none h p h1) b
    · by_cases h2 : i < p
      · exact absurd (c i h2) n
      · rw [show p = i by omega]
def sp_leading (w : World) (K : PySem.W.Frag) (mg : Str → Option Value) (base : Heap) : Sp := fun vs H Q _ => ∃ (R : KindR Pr w K mg base), ∃ kv rv, ∃ (n m l : Nat), ∃ x, vs = [kv, rv, .int (l : Nat)] ∧ (KAt R.C R.fs H kv ∧ R.Row n x m rv H ∧ l ≤ n ∧ n ≤ 1000) ∧ ∀ H', Same H H' → Q (leadV (lead x l)) H'
theorem ok_leading (T : Txt K mg t) : FnOk Pr w K mg base CX0 41 t.leading t.d_leading ["kind", "row", "width"] (sp_leading w K mg base) := by
  refine T.F_leading.ok sc_leading (fun vs H Q E h => ?_) (fun cdv A outer s H vs Q E hr h => ?_)
  · obtain ⟨R, kv, rv, n, m, l, x, rfl, _⟩ := h
    rfl
  · obtain ⟨R, kv, rv, n, m, l, x, rfl, ⟨⟨kp, dx, rfl, hk⟩, hr', hl, hn⟩, k⟩ := h
    refine ⟨_, (pss_cons (ps_for PassesOwn.never rfl (pi_range1 rfl T.z_range (pa_cons (pv 2) pa_nil)) (pg_name (i := 3) sc_leading.nd rfl (Or.inl rfl)) (pss_one (ps_if (pt_cmpR (op_neD hr.units) (pe_ix ix_tup (pv 1) (pv 3) (fun _ _ => rfl)) (pe_meth0 (pv 0) R.cl R.t_nought R.G_nought hr.m R.b_nought .nil pass0) (nomark _)) (pss_one (ps_ret (pv 3))) pss_nil))) (pss_one (ps_ret pe_non))), ?_⟩
    refine ⟨_, rfl, _, rfl, (by omega), (by omega), for_range (lo := 0) (n := (l : Int).toNat) (fun i σ H2 => ∃ v3, σ = [some (.ref kp), some rv, some (.int (l : Nat)), v3] ∧ Same H H2 ∧ lead x i = none) ⟨_, rfl, Same.refl _, rfl⟩ ?_ ?_⟩
    · rintro i σ H2 hi ⟨v3, rfl, q, z⟩
      have hi : i < l := by omega
      obtain ⟨p, us, u, rfl, hp, hu, iu, _⟩ := Row.at (KindR.Row.same q.t hr') (show i < n by omega)
      rw [show (i : Int) = 0 + (i : Int) by omega] at hu
      refine ⟨_, rfl, _, rfl, _, _, _, _, rfl, rfl, hp, hu, _, rfl, _, _, _, rfl, q _ _ hk, R.l_nought, _, rfl, ⟨_, _, rfl, q _ _ hk⟩, fun zv H3 s3 f3 => ?_⟩
      by_cases e : x i = R.S.zero
      · refine R.neD (R.same s3.t iu) f3 e ⟨_, rfl, ?_⟩
        (try refine iteF ?_)
        refine ⟨_, rfl, q.trans s3, ?_⟩
        exact lead_of_zero fun j hj => by
          by_cases ej : j = i
          · rw [ej]; exact e
          · exact lead_none z j (by omega)
      · refine R.neT (R.same s3.t iu) f3 e ⟨_, rfl, ?_⟩
        (try refine iteT ?_)
        have := k _ (q.trans s3)
        rw [lead_at z e hi] at this
        refine ⟨_, rfl, ?_⟩
        rw [show (0 : Int) + (i : Int) = ((i : Nat) : Int) by omega]
        exact this
    · rintro σ H2 ⟨v3, rfl, q, z⟩
      rw [show (l : Int).toNat = l by omega] at z
      have := k _ q
      rw [z] at this
      exact this
def sp_plus_row (w : World) (K : PySem.W.Frag) (mg : Str → Option Value) (base : Heap) : Sp := fun vs H Q _ => ∃ (R : KindR Pr w K mg base), ∃ kv ov hv, ∃ (n m m' : Nat), ∃ x y, vs = [kv, ov, hv] ∧ (KAt R.C R.fs H kv ∧ R.Row n x m ov H ∧ R.Row n y m' hv H ∧ n ≤ 1000 ∧ Sml R.S (m + m')) ∧
  ∀ v H', Same H H' → R.Row n (fun i => R.S.add (x i) (y i)) (m + m' + 1) v H' → Q v H'
theorem ok_plus_row (T : Txt K mg t) : FnOk Pr w K mg base CX0 41 t.plus_row t.d_plus_row ["kind", "one", "other"] (sp_plus_row w K mg base) := by
  refine T.F_plus_row.ok sc_plus_row (fun vs H Q E h => ?_) (fun cdv A outer s H vs Q E hr h => ?_)
  · obtain ⟨R, kv, ov, hv, n, m, m', x, y, rfl, _⟩ := h
    rfl
  · obtain ⟨R, kv, ov, hv, n, m, m', x, y, rfl, ⟨⟨kp, dx, rfl, hk⟩, ⟨fp, fs, rfl, hf, ef⟩, ⟨gp, gs, rfl, hg, eg⟩, hn, hz⟩, k⟩ := h
    refine ⟨_, (pss_one (ps_ret (pe_callTy call_tuple_of (by rfl) T.z_tuple boot_tuple (pa_cons (pe_comp (xs := ["x", "y"]) rfl (show CompOk ["kind", "one", "other"] (defScope s_plus_row) _ from ⟨rfl, by decide +kernel, by decide +kernel, by decide +kernel, by decide +kernel, by decide +kernel⟩) (pi_zip rfl T.z_zip (pa_cons (pv 1) (pa_cons (pv 2) pa_nil))) (fun _ _ _ _ _ => (show PG _ _ (gTup K 2 _) from (pg_tup rfl (pgs_cons (pg_name (i := 3) (by show List.Nodup (["kind", "one", "other", "x", "y"] : List Str); decide +kernel) rfl (Or.inl rfl)) (pgs_cons (pg_name (i := 4) (by show List.Nodup (["kind", "one", "other", "x", "y"] : List Str); decide +kernel) rfl (Or.inl rfl)) pgs_nil))))) (fun _ _ _ _ _ => (pe_meth (pv 0) R.cl R.t_plus R.G_plus hr.m R.b_plus .nil pass0 (pa_cons (pv 3) (pa_cons (pv 4) pa_nil))))) pa_nil)))), ?_⟩
    refine ⟨_, rfl, _, rfl, .tup fp, .tup gp, _, _, fs, gs, rfl, rfl, rfl, SqT.of hf, SqT.of hg, comp_go (n := n) (fun j ys H2 => Same H H2 ∧ Ents (R.Wt (fun i => R.S.add (x i) (y i)) (m + m' + 1)) ys j H2) (by omega) ⟨Same.refl _, Ents.nil⟩ (fun j ys H2 q => q.2.1) ?_ ?_ ?_⟩
    · rintro j ys H2 hj ⟨q, e⟩
      obtain ⟨u, eu, pu⟩ := ef.2 j hj
      obtain ⟨v, ev, pv⟩ := eg.2 j hj
      refine ⟨⟨fs, gs, u, v, SqT.of (q _ _ hf), SqT.of (q _ _ hg), eu, ev⟩, fun y' H' hy => ?_⟩
      obtain ⟨pp, x', y', rfl, np, rfl, f1, f2⟩ := hy
      have e1 := f1 _ (SqT.of (q _ _ hf))
      rw [eu] at e1
      cases e1
      have e2 := f2 _ (SqT.of (q _ _ hg))
      rw [ev] at e2
      cases e2
      have s3 := same_upd (o := .tup [u, v]) np
      have q3 := q.trans s3
      refine ⟨pp, _, rfl, SqT.of upd_same, rfl, _, _, rfl, _, _, rfl, rfl, ⟨[some _, some _], rfl, rfl⟩, _, rfl, _, _, _, rfl, q3 _ _ hk, R.l_plus, _, rfl, _, rfl, _, _, _, _, _, m, m', rfl, ⟨⟨_, _, rfl, q3 _ _ hk⟩, R.same q3.t pu.1, R.same q3.t pv.1, pu.2, pv.2, hz⟩, fun v4 H4 s4 f4 => ?_⟩
      exact ⟨q3.trans s4, (e.mono fun _ _ _ z => KindR.Wt.same (s3.trans s4).t z).snoc ⟨f4, R.S.sz_add _ _ _ _ pu.2 pv.2⟩⟩
    · rintro ys H2 ⟨q, e⟩
      exact ⟨fs, gs, SqT.of (q _ _ hf), SqT.of (q _ _ hg), .inl ef.1.symm⟩
    · rintro ys H2 l ⟨q, e⟩ nl
      have s1' := same_upd (o := .lst ys) nl
      refine ⟨l, ys, rfl, .inl ⟨SqL.of upd_same, fun l2 n2 => ?_⟩⟩
      have s2 := same_upd (o := .tup ys) n2
      exact k _ _ (q.trans (s1'.trans s2)) ⟨l2, ys, rfl, upd_same, e.mono fun _ _ _ z => KindR.Wt.same (s1'.trans s2).t z⟩
/-- sizes -/
def zk (z i : Nat) : Nat := z * 4 ^ i - 1
theorem zp (z i : Nat) : z * 4 ^ (i + 1) = 4 * (z * 4 ^ i) := by rw [Nat.pow_succ, ← Nat.mul_assoc, Nat.mul_comm]
theorem zp_pos {z : Nat} (h : 1 ≤ z) (i : Nat) : 1 ≤ z * 4 ^ i := Nat.mul_pos h (Nat.pow_pos (by decide))
theorem zp_le (z : Nat) {i j : Nat} (h : i ≤ j) : z * 4 ^ i ≤ z * 4 ^ j := Nat.mul_le_mul_left z (Nat.pow_le_pow_right (by decide) h)
/-- a kept row, with its place -/
def KEnt (R : KindR Pr w K mg base) (W z : Nat) (ks : List (Nat × (Nat → R.S.W))) : Nat → V → Hp → Prop := fun i u H => ∃ k q rv, ks[i]? = some k ∧ u = .ref q ∧ H q = some (.tup [.int (k.1 : Nat), rv]) ∧ R.Row W k.2 (2 * zk z i) rv H
theorem KEnt.same {R : KindR Pr w K mg base} {W z i : Nat} {ks : List (Nat × (Nat → R.S.W))} {u : V} {H H' : Hp} (s : SameT H H') (h : KEnt R W z ks i u H) : KEnt R W z ks i u H' := by
  obtain ⟨k, q, rv, e, rfl, hq, r⟩ := h
  exact ⟨k, q, rv, e, rfl, s _ _ hq, KindR.Row.same s r⟩
def KeptL (R : KindR Pr w K mg base) (W z : Nat) (ks : List (Nat × (Nat → R.S.W))) (a : Addr) (H : Hp) : Prop := ∃ us, H a = some (.lst us) ∧ Ents (KEnt R W z ks) us ks.length H
theorem KeptL.same {R : KindR Pr w K mg base} {W z : Nat} {ks : List (Nat × (Nat → R.S.W))} {a : Addr} {H H' : Hp} (s : Same H H') (h : KeptL R W z ks a H) : KeptL R W z ks a H' := by
  obtain ⟨us, ha, e⟩ := h
  exact ⟨us, s _ _ ha, e.mono fun _ _ _ q => q.same s.t⟩
theorem take_snoc {α : Type} {l : List α} {i : Nat} {x : α} (h : l[i]? = some x) : l.take (i + 1) = l.take i ++ [x] := by
  rw [List.take_add_one, h]; rfl
def sp_cleared (w : World) (K : PySem.W.Frag) (mg : Str → Option Value) (base : Heap) : Sp := fun vs H Q _ => ∃ (R : KindR Pr w K mg base), ∃ kv a rv, ∃ (W z : Nat), ∃ ks x, vs = [kv, .ref a, rv] ∧ (KAt R.C R.fs H kv ∧ KeptL R W z ks a H ∧ (∀ k ∈ ks, k.1 < W) ∧ R.Row W x (z - 1) rv H ∧ W ≤ 1000 ∧ 1 ≤ z ∧ Sml R.S (z * 4 ^ ks.length)) ∧
  ∀ v H', Same H H' → R.Row W (clr R.F ks x) (zk z ks.length) v H' → Q v H'
theorem ok_cleared (T : Txt K mg t) : FnOk Pr w K mg base CX0 42 t.cleared t.d_cleared ["kind", "kept", "row"] (sp_cleared w K mg base) := by
  refine T.F_cleared.ok sc_cleared (fun vs H Q E h => ?_) (fun cdv A outer s H vs Q E hr h => ?_)
  · obtain ⟨R, kv, a, rv, W, z, ks, x, rfl, _⟩ := h
    rfl
  · obtain ⟨R, kv, a, rv, W, z, ks, x, rfl, ⟨⟨kp, dx, rfl, hk⟩, ⟨us, ha, eK⟩, hlt, hR, hW, z1, hS⟩, k⟩ := h
    refine ⟨_, (pss_cons (ps_set (i := 3) sc_cleared.nd rfl (Or.inl rfl) (pv 2)) (pss_cons (ps_for PassesOwn.never rfl (pi_list (pv 1)) (pg_tup rfl (pgs_cons (pg_name (i := 4) sc_cleared.nd rfl (Or.inl rfl)) (pgs_cons (pg_name (i := 5) sc_cleared.nd rfl (Or.inl rfl)) pgs_nil))) (pss_one (ps_if (pt_cmpR (op_neD hr.units) (pe_ix ix_tup (pv 3) (pv 4) (fun _ _ => rfl)) (pe_meth0 (pv 0) R.cl R.t_nought R.G_nought hr.m R.b_nought .nil pass0) (nomark _)) (pss_one (ps_set (i := 3) sc_cleared.nd rfl (Or.inl rfl) (pe_call (ok_plus_row T) hr.m rfl T.m_plus_row T.F_plus_row.kp T.b_plus_row .nil pass0 (pa_cons (pv 0) (pa_cons (pv 3) (pa_cons (pe_call (ok_times_row T) hr.m rfl T.m_times_row T.F_times_row.kp T.b_times_row .nil pass0 (pa_cons (pv 0) (pa_cons (pe_meth (pv 0) R.cl R.t_minus R.G_minus hr.m R.b_minus .nil pass0 (pa_cons (pe_ix ix_tup (pv 3) (pv 4) (fun _ _ => rfl)) pa_nil)) (pa_cons (pv 5) pa_nil)))) pa_nil)))))) pss_nil))) (pss_one (ps_ret (pv 3))))), ?_⟩
    refine ⟨_, rfl, ?_⟩
    show gName 3 rv [some (.ref kp), some (.ref a), some rv, none, none, none] H _
    refine ⟨_, rfl, a, rfl, ⟨_, SqL.of ha⟩, for_list (K := K) (a := a) (xs := us) (fun i σ H2 => ∃ v3 v4 v5, σ = [some (.ref kp), some (.ref a), some rv, some v3, v4, v5] ∧ Same H H2 ∧ R.Row W (clr R.F (ks.take i) x) (zk z i) v3 H2) ⟨_, _, _, rfl, Same.refl _, by rw [show zk z 0 = z - 1 by unfold zk; rw [Nat.pow_zero, Nat.mul_one]]; exact hR⟩ (fun i σ H2 _ ⟨_, _, _, _, q, _⟩ => SqL.of (q _ _ ha)) ?_ ?_⟩
    · rintro i y σ H2 hi ⟨v3, v4, v5, rfl, q, hr3⟩
      obtain ⟨il, kq, qa, ov, ek, rfl, hq, ro⟩ := eK.at hi
      have hkp : kq.1 < W := hlt kq (List.mem_of_getElem? ek)
      have e1 := zp z i
      have e2 := zp_pos z1 i
      have e3 := zp_le z (show i + 1 ≤ ks.length by omega)
      have ts : ks.take (i + 1) = ks.take i ++ [kq] := take_snoc ek
      refine ⟨qa, _, rfl, SqT.of (q _ _ hq), rfl, _, _, rfl, _, _, rfl, rfl, ?_⟩
      obtain ⟨p, us', u, rfl, hp, hu, iu, zu⟩ := Row.at hr3 hkp
      refine ⟨_, rfl, _, rfl, _, _, _, _, rfl, rfl, hp, hu, _, rfl, _, _, _, rfl, q _ _ hk, R.l_nought, _, rfl, ⟨_, _, rfl, q _ _ hk⟩, fun zv H3 s3 f3 => ?_⟩
      have q3 := q.trans s3
      by_cases e : clr R.F (ks.take i) x kq.1 = R.S.zero
      · refine R.neD (R.same s3.t iu) f3 e ⟨_, rfl, ?_⟩
        (try refine iteF ?_)
        refine ⟨_, _, _, rfl, q3, ?_⟩
        rw [ts, clr_snoc, stp_zero e]
        exact Row.up (by unfold zk; omega) (KindR.Row.same s3.t hr3)
      · refine R.neT (R.same s3.t iu) f3 e ⟨_, rfl, ?_⟩
        (try refine iteT ?_)
        obtain ⟨p', us2, u2, e', hp2, hu2, iu2, zu2⟩ := Row.at (KindR.Row.same s3.t hr3) hkp
        cases e'
        refine ⟨_, rfl, _, rfl, _, rfl, _, rfl, _, _, _, rfl, q3 _ _ hk, R.l_minus, _, rfl, _, rfl, _, _, _, _, rfl, rfl, hp2, hu2, _, _, _, rfl, ⟨⟨_, _, rfl, q3 _ _ hk⟩, iu2⟩, fun mv H4 s4 f4 => ?_⟩
        have q4 := q3.trans s4
        refine ⟨_, rfl, R, _, _, _, W, _, kq.2, zk z i, 2 * zk z i, rfl, ⟨⟨_, _, rfl, q4 _ _ hk⟩, f4, R.F.sz_neg _ _ zu2, KindR.Row.same q4.t ro, hW, hS.le (by unfold zk; omega)⟩, fun tv H5 s5 r5 => ?_⟩
        have q5 := q4.trans s5
        refine ⟨R, _, _, _, W, zk z i, zk z i + 2 * zk z i, _, _, rfl, ⟨⟨_, _, rfl, q5 _ _ hk⟩, KindR.Row.same (s3.trans (s4.trans s5)).t hr3, r5, hW, hS.le (by unfold zk; omega)⟩, fun pv H6 s6 r6 => ?_⟩
        refine ⟨_, _, _, rfl, q5.trans s6, ?_⟩
        rw [ts, clr_snoc]
        exact Row.up (by unfold zk; omega) r6
    · rintro σ H2 ⟨v3, v4, v5, rfl, q, r⟩
      have e1 := eK.1
      refine ⟨_, rfl, ?_⟩
      rw [e1, List.take_length] at r
      exact k _ _ q r
theorem kpF_full {S : SR} {F : Fld S} {w : Nat} {ks : List (Nat × (Nat → S.W))} {r : Nat → S.W} (h : ks.length = w) : kpF F w ks r = ks := by
  unfold kpF
  rw [if_pos h]
theorem kpF_none {S : SR} {F : Fld S} {w : Nat} {ks : List (Nat × (Nat → S.W))} {r : Nat → S.W} (h : lead (clr F ks r) w = none) : kpF F w ks r = ks := by
  unfold kpF
  split
  · rfl
  · rw [h]
theorem kpF_some {S : SR} {F : Fld S} {w p : Nat} {ks : List (Nat × (Nat → S.W))} {r : Nat → S.W} (n : ks.length ≠ w) (h : lead (clr F ks r) w = some p) : kpF F w ks r = ks ++ [(p, fun j => S.mul (F.inv (clr F ks r p)) (clr F ks r j))] := by
  unfold kpF
  rw [if_neg n, h]
theorem KEnt.app {R : KindR Pr w K mg base} {W z i : Nat} {ks : List (Nat × (Nat → R.S.W))} {k : Nat × (Nat → R.S.W)} {u : V} {H : Hp} (hi : i < ks.length) (h : KEnt R W z ks i u H) : KEnt R W z (ks ++ [k]) i u H := by
  obtain ⟨k', q, rv, e, r⟩ := h
  exact ⟨k', q, rv, by rw [List.getElem?_append_left hi]; exact e, r⟩
def sp_keep (w : World) (K : PySem.W.Frag) (mg : Str → Option Value) (base : Heap) : Sp := fun vs H Q _ => ∃ (R : KindR Pr w K mg base), ∃ kv a rv, ∃ (W l z : Nat), ∃ ks x, vs = [kv, .ref a, rv, .int (l : Nat)] ∧ (KAt R.C R.fs H kv ∧ KeptL R W z ks a H ∧ Kp R.S l ks ∧ R.Row W x (z - 1) rv H ∧ l ≤ W ∧ W ≤ 1000 ∧ 1 ≤ z ∧ Sml R.S (z * 4 ^ l)) ∧
  ∀ H', SameX a H H' → KeptL R W z (kpF R.F l ks x) a H' → Q (.bl (decide ((kpF R.F l ks x).length ≠ ks.length))) H'
theorem ok_keep (T : Txt K mg t) : FnOk Pr w K mg base CX0 43 t.keep t.d_keep ["kind", "kept", "row", "width"] (sp_keep w K mg base) := by
  refine T.F_keep.ok sc_keep (fun vs H Q E h => ?_) (fun cdv A outer s H vs Q E hr h => ?_)
  · obtain ⟨R, kv, a, rv, W, l, z, ks, x, rfl, _⟩ := h
    rfl
  · obtain ⟨R, kv, a, rv, W, l, z, ks, x, rfl, ⟨⟨kp, dx, rfl, hk⟩, hK, KP, hR, hl, hW, z1, hS⟩, k⟩ := h
    have hK0 := hK
    obtain ⟨us, ha, eK⟩ := hK
    have e0 := eK.1
    have kl := KP.len
    have sl : 1000 < sizeLine := by decide
    have kf : ∀ H', Same H H' → kpF R.F l ks x = ks → Q (.bl false) H' := fun H' s' e => by
      have := k H' (.of s') (by rw [e]; exact hK0.same s')
      rw [e, decide_eq_false (fun z => z rfl)] at this
      exact this
    refine ⟨_, (pss_cons (ps_if (pt_cmpR op_eq (pe_callB call_len (by rfl) T.z_len PySem.boot_len (pa_cons (pv 1) pa_nil)) (pv 3) (nomark _)) (pss_one (ps_ret pe_bl)) pss_nil) (pss_cons (ps_set (i := 4) sc_keep.nd rfl (Or.inl rfl) (pe_call (ok_cleared T) hr.m rfl T.m_cleared T.F_cleared.kp T.b_cleared .nil pass0 (pa_cons (pv 0) (pa_cons (pv 1) (pa_cons (pv 2) pa_nil))))) (pss_cons (ps_set (i := 5) sc_keep.nd rfl (Or.inl rfl) (pe_call (ok_leading T) hr.m rfl T.m_leading T.F_leading.kp T.b_leading .nil pass0 (pa_cons (pv 0) (pa_cons (pv 4) (pa_cons (pv 3) pa_nil))))) (pss_cons (ps_if (pt_cmpR op_isN (pv 5) pe_non (nomark _)) (pss_one (ps_ret pe_bl)) pss_nil) (pss_cons (ps_expr (pe_bm PySem.F.plainAttrs_list PySem.F.slot_list_append PySem.F.type_list_append mt_append (pv 1) (pa_cons (pe_tup (pa_cons (pv 5) (pa_cons (pe_call (ok_times_row T) hr.m rfl T.m_times_row T.F_times_row.kp T.b_times_row .nil pass0 (pa_cons (pv 0) (pa_cons (pe_meth (pv 0) R.cl R.t_inverse R.G_inverse hr.m R.b_inverse .nil pass0 (pa_cons (pe_ix ix_tup (pv 4) (pv 5) (fun _ _ => rfl)) pa_nil)) (pa_cons (pv 4) pa_nil)))) pa_nil))) pa_nil))) (pss_one (ps_ret pe_bl))))))), ?_⟩
    refine ⟨_, rfl, _, _, rfl, (show LenV K (.ref a) H ks.length from .inl ⟨_, SqL.of ha, e0.symm⟩), _, rfl, rfl, _, rfl, ?_⟩
    refine iteI (fun e => ?_) (fun ne => ?_)
    · exact kf _ (Same.refl _) (kpF_full (by omega))
    have nl : ks.length ≠ l := fun e => ne (by rw [e])
    refine ⟨_, rfl, _, rfl, _, rfl, R, _, a, rv, W, z, ks, x, rfl, ⟨⟨_, _, rfl, hk⟩, hK0, fun q hq => Nat.lt_of_lt_of_le (KP.lt q hq) hl, hR, hW, z1, hS.le (zp_le z kl)⟩, fun rest H1 s1 r1 => ?_⟩
    show gName 4 rest [some (.ref kp), some (.ref a), some rv, some (.int (l : Nat)), none, none] H1 _
    refine ⟨_, rfl, _, rfl, _, rfl, R, _, _, W, _, l, _, rfl, ⟨⟨_, _, rfl, s1 _ _ hk⟩, r1, hl, hW⟩, fun H2 s2 => ?_⟩
    show gName 5 (leadV (lead (clr R.F ks x) l)) [some (.ref kp), some (.ref a), some rv, some (.int (l : Nat)), some rest, none] H2 _
    have s12 := s1.trans s2
    cases e : lead (clr R.F ks x) l with
    | none =>
      refine ⟨_, rfl, rfl, _, rfl, ?_⟩
      refine iteT ?_
      exact kf _ s12 (kpF_none e)
    | some p =>
      obtain ⟨pl, pn, _⟩ := lead_some e
      show gName 5 (V.int (p : Nat)) [some (.ref kp), some (.ref a), some rv, some (.int (l : Nat)), some rest, none] H2 _
      have e1 := zp z ks.length
      have e2 := zp_pos z1 ks.length
      have e3 := zp_le z (show ks.length + 1 ≤ l by omega)
      have hS' : Sml R.S (2 * zk z ks.length) := hS.le (by unfold zk; omega)
      obtain ⟨q, us', u, rfl, hq, hu, iu, zu⟩ := Row.at (KindR.Row.same s2.t r1) (show p < W by omega)
      refine ⟨_, rfl, rfl, _, rfl, ?_⟩
      refine iteF ?_
      refine ⟨_, rfl, .inl ⟨rfl, _, SqL.of (s12 _ _ ha)⟩, _, rfl, _, rfl, _, rfl, _, _, _, rfl, s12 _ _ hk, R.l_inverse, _, rfl, _, rfl, _, _, _, _, rfl, rfl, hq, hu, _, _, _, rfl, ⟨⟨_, _, rfl, s12 _ _ hk⟩, iu, pn⟩, fun iv H3 s3 f3 => ?_⟩
      have s13 := s12.trans s3
      refine ⟨_, rfl, R, _, _, _, W, _, _, zk z ks.length, zk z ks.length, rfl, ⟨⟨_, _, rfl, s13 _ _ hk⟩, f3, R.F.sz_inv _ _ pn zu, KindR.Row.same (s2.trans s3).t r1, hW, hS'.le (by omega)⟩, fun tv H4 s4 r4 => ?_⟩
      have s14 := s13.trans s4
      refine ⟨(by show 2 ≤ sizeLine; decide), fun p5 n5 => ?_⟩
      have t5 := same_upd (o := .tup [V.int (p : Nat), tv]) n5
      have k5 : upd H4 p5 (.tup [V.int (p : Nat), tv]) p5 = some (.tup [V.int (p : Nat), tv]) := upd_same
      revert t5 k5
      generalize upd H4 p5 (.tup [V.int (p : Nat), tv]) = H5
      intro t5 k5
      have s15 := s14.trans t5
      have ha5 := s15 _ _ ha
      refine ⟨a, us, V.ref p5, rfl, rfl, ha5, (by omega), ?_⟩
      have st := sameT_lst (o := .lst (us ++ [V.ref p5])) ha5
      have ek := kpF_some (F := R.F) nl e
      have := k (upd H5 a (.lst (us ++ [V.ref p5]))) ((SameX.of s15).trans SameX.upd) (by
        rw [ek]
        refine ⟨_, upd_same, ?_⟩
        rw [List.length_append]
        refine Ents.snoc (eK.mono fun i w' hi q => (KEnt.app hi (q.same s15.t)).same st) ⟨(p, fun j => R.S.mul (R.F.inv (clr R.F ks x p)) (clr R.F ks x j)), p5, tv, ?_, rfl, st _ _ k5, ?_⟩
        · rw [List.getElem?_append_right (Nat.le_refl _), Nat.sub_self]; rfl
        · exact KindR.Row.same st (KindR.Row.same t5.t (Row.up (by omega) r4)))
      rw [ek, List.length_append, decide_eq_true (show ks.length + [_].length ≠ ks.length by show ks.length + 1 ≠ _; omega)] at this
      exact this
/-- a list of rows -/
def RowsL (R : KindR Pr w K mg base) (W m n : Nat) (rs : Nat → Nat → R.S.W) (v : V) (H : Hp) : Prop := ∃ a us, v = .ref a ∧ H a = some (.lst us) ∧ Ents (fun i u H => R.Row W (rs i) m u H) us n H
theorem RowsL.same {R : KindR Pr w K mg base} {W m n : Nat} {rs : Nat → Nat → R.S.W} {v : V} {H H' : Hp} (s : Same H H') (h : RowsL R W m n rs v H) : RowsL R W m n rs v H' := by
  obtain ⟨a, us, rfl, ha, e⟩ := h
  exact ⟨a, us, rfl, s _ _ ha, e.mono fun _ _ _ q => KindR.Row.same s.t q⟩
theorem RowsL.len {R : KindR Pr w K mg base} {W m n : Nat} {rs : Nat → Nat → R.S.W} {v : V} {H : Hp} (h : RowsL R W m n rs v H) : LenV K v H n := by
  obtain ⟨a, us, rfl, ha, e⟩ := h
  exact .inl ⟨_, SqL.of ha, e.1.symm⟩
theorem RowsL.seq {R : KindR Pr w K mg base} {W m n : Nat} {rs : Nat → Nat → R.S.W} {v : V} {H : Hp} (h : RowsL R W m n rs v H) : SeqOf K (fun i u H => R.Row W (rs i) m u H) n v H := by
  obtain ⟨b, us, rfl, hb, e⟩ := h
  exact SeqOf.list hb e
def rws {α : Type} (rs : Nat → α) (n : Nat) : List α := (List.range n).map rs
theorem rws_succ {α : Type} (rs : Nat → α) (n : Nat) : rws rs (n + 1) = rws rs n ++ [rs n] := by
  unfold rws
  rw [List.range_succ, List.map_append]; rfl
theorem rws_mem {α : Type} {rs : Nat → α} {n : Nat} {r : α} (h : r ∈ rws rs n) : ∃ i, i < n ∧ r = rs i := by
  obtain ⟨i, hi, rfl⟩ := List.mem_map.mp h
  exact ⟨i, List.mem_range.mp hi, rfl⟩
theorem rws_of {α : Type} {rs : Nat → α} {n i : Nat} (h : i < n) : rs i ∈ rws rs n := List.mem_map.mpr ⟨i, List.mem_range.mpr h, rfl⟩
def sp_kept_rows (w : World) (K : PySem.W.Frag) (mg : Str → Option Value) (base : Heap) : Sp := fun vs H Q _ => ∃ (R : KindR Pr w K mg base), ∃ kv rv, ∃ (W l z n : Nat), ∃ rs, vs = [kv, rv, .int (l : Nat)] ∧ (KAt R.C R.fs H kv ∧ RowsL R W (z - 1) n rs rv H ∧ l ≤ W ∧ W ≤ 1000 ∧ 1 ≤ z ∧ Sml R.S (z * 4 ^ l)) ∧
  ∀ a H', Same H H' → KeptL R W z (kpL R.F l (rws rs n)) a H' → Q (.ref a) H'
theorem ok_kept_rows (T : Txt K mg t) : FnOk Pr w K mg base CX0 44 t.kept_rows t.d_kept_rows ["kind", "rows", "width"] (sp_kept_rows w K mg base) := by
  refine T.F_kept_rows.ok sc_kept_rows (fun vs H Q E h => ?_) (fun cdv A outer s H vs Q E hr h => ?_)
  · obtain ⟨R, kv, rv, W, l, z, n, rs, rfl, _⟩ := h
    rfl
  · obtain ⟨R, kv, rv, W, l, z, n, rs, rfl, ⟨hk, ⟨b, us, rfl, hb, eR⟩, hl, hW, z1, hS⟩, k⟩ := h
    refine ⟨_, (pss_cons (ps_set (i := 3) sc_kept_rows.nd rfl (Or.inl rfl) (pe_lst pa_nil)) (pss_cons (ps_for PassesOwn.never rfl (pi_list (pv 1)) (pg_name (i := 4) sc_kept_rows.nd rfl (Or.inl rfl)) (pss_one (ps_expr (pe_call (ok_keep T) hr.m rfl T.m_keep T.F_keep.kp T.b_keep .nil pass0 (pa_cons (pv 0) (pa_cons (pv 3) (pa_cons (pv 4) (pa_cons (pv 2) pa_nil)))))))) (pss_one (ps_ret (pv 3))))), ?_⟩
    refine ⟨(by show 0 ≤ sizeLine; decide), fun a na => ?_⟩
    have s1 := same_upd (o := .lst []) na
    have k1 : upd H a (.lst []) a = some (.lst []) := upd_same
    show gName 3 (.ref a) [some kv, some (.ref b), some (.int (l : Nat)), none, none] _ _
    refine ⟨_, rfl, b, rfl, ⟨_, SqL.of (s1 _ _ hb)⟩, for_list (K := K) (a := b) (xs := us) (fun i σ H2 => ∃ v4, σ = [some kv, some (.ref b), some (.int (l : Nat)), some (.ref a), v4] ∧ Same H H2 ∧ KeptL R W z (kpL R.F l (rws rs i)) a H2) ⟨_, rfl, s1, ⟨_, k1, Ents.nil⟩⟩ (fun i σ H2 _ ⟨_, _, q, _⟩ => SqL.of (q _ _ hb)) ?_ ?_⟩
    · rintro i y σ H2 hi ⟨v4, rfl, q, hK⟩
      obtain ⟨hi', ry⟩ := eR.at hi
      refine ⟨_, rfl, _, rfl, _, rfl, _, rfl, R, kv, a, y, W, l, z, _, _, rfl, ⟨hk.same q, hK, kpL_Kp _, KindR.Row.same q.t ry, hl, hW, z1, hS⟩, fun H3 s3 K3 => ?_⟩
      refine ⟨_, rfl, fun c o hc => ?_, ?_⟩
      · exact s3 c o (ne_of_none hc na) (q _ _ hc)
      · rw [rws_succ, kpL_snoc]; exact K3
    · rintro σ H2 ⟨v4, rfl, q, hK⟩
      rw [eR.1] at hK
      exact ⟨_, rfl, k _ _ q hK⟩
abbrev RowsW (R : KindR Pr w K mg base) (W m n : Nat) (rs : Nat → Nat → R.S.W) (v : V) (H : Hp) : Prop := RowsL R W m n rs v H
theorem RowsW.sm {R : KindR Pr w K mg base} {W m n : Nat} {rs : Nat → Nat → R.S.W} {v : V} {H H' : Hp} (s : Same H H') (h : RowsW R W m n rs v H) : RowsW R W m n rs v H' := RowsL.same s h
theorem RowsW.sq {R : KindR Pr w K mg base} {W m n : Nat} {rs : Nat → Nat → R.S.W} {v : V} {H : Hp} (h : RowsW R W m n rs v H) : SeqOf K (fun i u H => R.Row W (rs i) m u H) n v H := RowsL.seq h
def sp_width_of (w : World) (K : PySem.W.Frag) (mg : Str → Option Value) (base : Heap) : Sp := fun vs H Q _ => ∃ (R : KindR Pr w K mg base), ∃ rv, ∃ (W m n : Nat), ∃ rs, vs = [rv] ∧ RowsL R W m n rs rv H ∧ Q (.int ((if n = 0 then 0 else W) : Nat)) H
theorem ok_width_of (T : Txt K mg t) : FnOk Pr w K mg base CX0 1 t.width_of t.d_width_of ["rows"] (sp_width_of w K mg base) := by
  refine T.F_width_of.ok sc_width_of (fun vs H Q E h => ?_) (fun cdv A outer s H vs Q E hr h => ?_)
  · obtain ⟨R, rv, W, m, n, rs, rfl, _⟩ := h
    rfl
  · obtain ⟨R, rv, W, m, n, rs, rfl, hR, k⟩ := h
    have hlen : LenV K rv H n := hR.len
    obtain ⟨b, us, rfl, hb, eR⟩ := hR
    refine ⟨_, (pss_one (ps_ret (pe_ifExp (pt_cmpR op_gt (pe_callB call_len (by rfl) T.z_len PySem.boot_len (pa_cons (pv 0) pa_nil)) pe_int (nomark _)) (pe_callB call_len (by rfl) T.z_len PySem.boot_len (pa_cons (pe_ix ix_list (pv 0) pe_int (fun _ _ => rfl)) pa_nil)) pe_int))), ?_⟩
    refine ⟨_, rfl, _, _, rfl, hlen, _, _, rfl, rfl, _, rfl, ?_⟩
    refine iteP (fun h0 => ?_) (fun h0 => ?_)
    · obtain ⟨u, eu, ru⟩ := eR.2 0 (by omega)
      rw [if_neg (by omega)] at k
      refine ⟨_, rfl, _, _, _, _, rfl, rfl, SqL.of hb, atI_nat (j := 0) eu, _, _, rfl, ru.len, k⟩
    · rw [if_pos (by omega)] at k
      exact k
--PARTS
/-! rows behind which stands how they come of the others -/
def cat (S : SR) (n : Nat) (x y : Nat → S.W) : Nat → S.W := fun i => if i < n then x i else y (i - n)
theorem cat_lt {S : SR} {n i : Nat} {x y : Nat → S.W} (h : i < n) : cat S n x y i = x i := if_pos h
theorem cat_ge {S : SR} {n i : Nat} {x y : Nat → S.W} : cat S n x y (n + i) = y i := by
  unfold cat
  rw [if_neg (by omega), Nat.add_sub_cancel_left]
theorem ents_cat {R : KindR Pr w K mg base} {n l m : Nat} {x y : Nat → R.S.W} {xs ys : List V} {H : Hp} (a : Ents (R.Wt x m) xs n H) (b : Ents (R.Wt y m) ys l H) : Ents (R.Wt (cat R.S n x y) m) (xs ++ ys) (n + l) H :=
  Ents.app (a.mono fun j _ hj q => by show R.is _ _ (cat R.S n x y j) ∧ R.S.sz m (cat R.S n x y j); rw [cat_lt hj]; exact q) (b.mono fun j _ _ q => by show R.is _ _ (cat R.S n x y (n + j)) ∧ R.S.sz m (cat R.S n x y (n + j)); rw [cat_ge]; exact q)
def mrk (S : SR) (W : Nat) (rs : Nat → Nat → S.W) : Nat → Nat → S.W := fun k => cat S W (rs k) (unitW S k)
theorem mrk_Rl {S : SR} {W n k : Nat} {rs : Nat → Nat → S.W} (h : k < n) : Rl S W n rs (fun _ => S.zero) (mrk S W rs k) := fun j hj => by
  unfold mrk
  rw [cat_lt hj, f_za]
  have : (fun q => cat S W (rs k) (unitW S k) (W + q)) = fun q => if q = k then S.one else S.zero := by
    funext q
    rw [cat_ge]; rfl
  rw [this, lin_one h]
def Sq (R : KindR Pr w K mg base) (K : PySem.W.Frag) (W m n : Nat) (rs : Nat → Nat → R.S.W) (v : V) (H : Hp) : Prop := SeqOf K (fun i u H => R.Row W (rs i) m u H) n v H
def sp_marked (w : World) (K : PySem.W.Frag) (mg : Str → Option Value) (base : Heap) : Sp := fun vs H Q _ => ∃ (R : KindR Pr w K mg base), ∃ kv rv, ∃ (W m n : Nat), ∃ rs, vs = [kv, rv] ∧ (KAt R.C R.fs H kv ∧ Sq R K W m n rs rv H ∧ n ≤ 400 ∧ W ≤ 400) ∧
  ∀ v H', Same H H' → RowsL R (W + n) m n (mrk R.S W rs) v H' → Q v H'
theorem ok_marked (T : Txt K mg t) : FnOk Pr w K mg base CX0 42 t.marked t.d_marked ["kind", "rows"] (sp_marked w K mg base) := by
  refine T.F_marked.ok sc_marked (fun vs H Q E h => ?_) (fun cdv A outer s H vs Q E hr h => ?_)
  · obtain ⟨R, kv, rv, W, m, n, rs, rfl, _⟩ := h
    rfl
  · obtain ⟨R, kv, rv, W, m, n, rs, rfl, ⟨hk, hR, hn, hW⟩, k⟩ := h
    have sl : 1000 < sizeLine := by decide
    have hR0 := hR
    obtain ⟨S1, us, o1, v1, w1, eR⟩ := hR
    refine ⟨_, (pss_one (ps_ret (pe_comp (xs := ["place", "row"]) rfl (show CompOk ["kind", "rows"] (defScope s_marked) _ from ⟨rfl, by decide +kernel, by decide +kernel, by decide +kernel, by decide +kernel, by decide +kernel⟩) (pi_enum rfl T.z_enumerate (pa_cons (pv 1) pa_nil)) (fun _ _ _ _ _ => (show PG _ _ (gTup K 2 _) from (pg_tup rfl (pgs_cons (pg_name (i := 2) (by show List.Nodup (["kind", "rows", "place", "row"] : List Str); decide +kernel) rfl (Or.inl rfl)) (pgs_cons (pg_name (i := 3) (by show List.Nodup (["kind", "rows", "place", "row"] : List Str); decide +kernel) rfl (Or.inl rfl)) pgs_nil))))) (fun _ _ _ _ _ => (pe_op op_catA (pv 3) (pe_call (ok_unit (w := w) (base := base) T) hr.m rfl T.m_unit T.F_unit.kp T.b_unit .nil pass0 (pa_cons (pv 0) (pa_cons (pe_callB (show CallR _ (.builtin "len") (fun xs H Q => ∃ x n, xs = [x] ∧ LenV K x H n ∧ Q (V.int (n : Nat)) H) from call_len) (by rfl) T.z_len PySem.boot_len (pa_cons (pv 1) pa_nil)) (pa_cons (pv 2) pa_nil))))))))), ?_⟩
    refine ⟨_, rfl, S1, _, us, rfl, o1, v1, comp_go (n := n) (fun j ys H2 => Same H H2 ∧ Ents (fun i u H => R.Row (W + n) (mrk R.S W rs i) m u H) ys j H2) (by omega) ⟨Same.refl _, Ents.nil⟩ (fun j ys H2 q => q.2.1) ?_ ?_ ?_⟩
    · rintro j ys H2 hj ⟨q, e⟩
      obtain ⟨u, eu, pu⟩ := eR.2 j hj
      refine ⟨⟨us, u, (w1 _ q).1, eu⟩, fun y' H' hy => ?_⟩
      obtain ⟨pp, x', rfl, np, rfl, f1⟩ := hy
      have e1 := f1 _ (w1 _ q).1
      rw [eu] at e1
      cases e1
      have s3 := same_upd (o := .tup [V.int (j : Nat), u]) np
      have q3 := q.trans s3
      have k3 : upd H2 pp (.tup [V.int (j : Nat), u]) pp = some (.tup [V.int (j : Nat), u]) := upd_same
      revert s3 q3 k3
      generalize upd H2 pp (.tup [V.int (j : Nat), u]) = H3
      intro s3 q3 k3
      have hl3 : LenV K rv H3 n := by
        have := (w1 _ q3).2
        rw [eR.1] at this
        exact this
      refine ⟨pp, _, rfl, SqT.of k3, rfl, _, _, rfl, _, _, rfl, rfl, ⟨[some _, some _], rfl, rfl⟩, _, rfl, _, rfl, _, rfl, _, _, rfl, hl3, _, rfl, R, _, _, _, n, j, m, rfl, ⟨hk.same q3, by omega, rfl, rfl⟩, fun uv H4 s4 r4 => ?_⟩
      obtain ⟨a, as, rfl, ha, ea⟩ := KindR.Row.same (q3.trans s4).t pu
      obtain ⟨b, bs, rfl, hb, eb⟩ := r4
      refine ⟨_, _, as, bs, rfl, rfl, ha, hb, (by rw [ea.1, eb.1]; omega), fun p5 H5 s5 h5 => ?_⟩
      exact ⟨q3.trans (s4.trans s5), (e.mono fun _ _ _ z => KindR.Row.same (s3.trans (s4.trans s5)).t z).snoc ⟨p5, _, rfl, h5, (ents_cat ea eb).mono fun _ _ _ z => KindR.Wt.same s5.t z⟩⟩
    · rintro ys H2 ⟨q, e⟩
      exact ⟨us, (w1 _ q).1, eR.1.symm⟩
    · rintro ys H2 l ⟨q, e⟩ nl
      have s1' := same_upd (o := .lst ys) nl
      exact k _ _ (q.trans s1') ⟨l, ys, rfl, upd_same, e.mono fun _ _ _ z => KindR.Row.same s1'.t z⟩
def sp_kmarked (w : World) (K : PySem.W.Frag) (mg : Str → Option Value) (base : Heap) : Sp := fun vs H Q _ => ∃ (R : KindR Pr w K mg base), ∃ kv rv, ∃ (W z n : Nat), ∃ rs, vs = [kv, rv] ∧ (KAt R.C R.fs H kv ∧ RowsW R W (z - 1) n rs rv H ∧ n ≤ 400 ∧ W ≤ 400 ∧ 1 ≤ z ∧ Sml R.S (z * 4 ^ W)) ∧
  ∀ a H', Same H H' → KeptL R (W + n) z (kpL R.F (if n = 0 then 0 else W) (rws (mrk R.S W rs) n)) a H' → Q (.ref a) H'
theorem if0_le (n W : Nat) : (if n = 0 then 0 else W) ≤ W := by split <;> omega
theorem ok_kept_marked (T : Txt K mg t) : FnOk Pr w K mg base CX0 45 t.kept_marked t.d_kept_marked ["kind", "rows"] (sp_kmarked w K mg base) := by
  refine T.F_kept_marked.ok sc_kept_marked (fun vs H Q E h => ?_) (fun cdv A outer s H vs Q E hr h => ?_)
  · obtain ⟨R, kv, rv, W, z, n, rs, rfl, _⟩ := h
    rfl
  · obtain ⟨R, kv, rv, W, z, n, rs, rfl, ⟨hk, hR, hn, hW, z1, hS⟩, k⟩ := h
    refine ⟨_, (pss_one (ps_ret (pe_call (ok_kept_rows T) hr.m rfl T.m_kept_rows T.F_kept_rows.kp T.b_kept_rows .nil pass0 (pa_cons (pv 0) (pa_cons (pe_call (ok_marked T) hr.m rfl T.m_marked T.F_marked.kp T.b_marked .nil pass0 (pa_cons (pv 0) (pa_cons (pv 1) pa_nil))) (pa_cons (pe_call (ok_width_of T) hr.m rfl T.m_width_of T.F_width_of.kp T.b_width_of .nil pass0 (pa_cons (pv 1) pa_nil)) pa_nil)))))), ?_⟩
    refine ⟨_, rfl, _, rfl, _, rfl, R, kv, rv, W, z - 1, n, rs, rfl, ⟨hk, RowsW.sq hR, hn, hW⟩, fun mv H1 s1 r1 => ?_⟩
    refine ⟨_, rfl, R, rv, W, _, n, rs, rfl, RowsW.sm s1 hR, ?_⟩
    refine ⟨R, kv, mv, W + n, _, z, n, _, rfl, ⟨hk.same s1, r1, by have := if0_le n W; omega, by omega, z1, hS.le (zp_le z (if0_le n W))⟩, fun a H2 s2 r2 => ?_⟩
    exact k _ _ (s1.trans s2) r2
/-- the parts, or none -/
def PtK (R : KindR Pr w K mg base) (W m n : Nat) (rs : Nat → Nat → R.S.W) (y : Nat → R.S.W) (H : Hp) (Q : VK) : Prop := (¬ Spn R.S W n rs y → ∀ H', Same H H' → Q .non H') ∧ ∀ lp us H' c, Same H H' → H' lp = some (.lst us) → Ents (R.Wt c m) us n H' → (∀ j, j < W → y j = lin R.S c rs n j) → Q (.ref lp) H'
def sp_parts_by (w : World) (K : PySem.W.Frag) (mg : Str → Option Value) (base : Heap) : Sp := fun vs H Q _ => ∃ (R : KindR Pr w K mg base), ∃ kv a yv, ∃ (W z n : Nat), ∃ rs y, vs = [kv, .ref a, .int (n : Nat), yv] ∧ (KAt R.C R.fs H kv ∧ KeptL R (W + n) z (kpL R.F (if n = 0 then 0 else W) (rws (mrk R.S W rs) n)) a H ∧ R.Row W y (z - 1) yv H ∧ n ≤ 400 ∧ W ≤ 400 ∧ 1 ≤ z ∧ Sml R.S (z * 4 ^ W)) ∧ PtK R W (zk z W) n rs y H Q
theorem parts_not {S : SR} {F : Fld S} {W n : Nat} {rs : Nat → Nat → S.W} {y : Nat → S.W} (h : Spn S W n rs y) : ∀ j, j < W → clr F (kpL F (if n = 0 then 0 else W) (rws (mrk S W rs) n)) (cat S W y fun _ => S.zero) j = S.zero := by
  obtain ⟨c, hc⟩ := h
  by_cases e : n = 0
  · subst e
    intro j hj
    show cat S W y (fun _ => S.zero) j = S.zero
    rw [cat_lt hj, hc j hj]; rfl
  · rw [if_neg e]
    have KP := kpL_Kp (F := F) (w := W) (rws (mrk S W rs) n)
    intro j hj
    rw [clr_cong (v := lin S c (mrk S W rs) n) (fun k hk => KP.lt k hk) (fun i hi => ?_) j hj, clr_lin]
    · show sm S (fun k => S.mul (c k) (clr F _ (mrk S W rs k) j)) n = _
      rw [sm_congr (g := fun _ => S.zero) fun k hk => by rw [kpL_clr _ _ (rws_of hk) j hj, S.mul_zero], sm_zero]
    · rw [cat_lt hi, hc i hi]
      exact sm_congr fun k _ => by unfold mrk; rw [cat_lt hi]
theorem mrk_all {S : SR} {F : Fld S} {W n : Nat} {rs : Nat → Nat → S.W} : ∀ k ∈ kpL F (if n = 0 then 0 else W) (rws (mrk S W rs) n), Rl S W n rs (fun _ => S.zero) k.2 := by
  by_cases e : n = 0
  · subst e
    intro k hk
    cases hk
  · rw [if_neg e]
    refine kpL_Rl _ fun r hr => ?_
    obtain ⟨i, hi, rfl⟩ := rws_mem hr
    exact mrk_Rl hi
theorem ok_parts_by (T : Txt K mg t) : FnOk Pr w K mg base CX0 43 t.parts_by t.d_parts_by ["kind", "kept", "count", "row"] (sp_parts_by w K mg base) := by
  refine T.F_parts_by.ok sc_parts_by (fun vs H Q E h => ?_) (fun cdv A outer s H vs Q E hr h => ?_)
  · obtain ⟨R, kv, a, yv, W, z, n, rs, y, rfl, _⟩ := h
    rfl
  · obtain ⟨R, kv, a, yv, W, z, n, rs, y, rfl, ⟨hk, hK, hy, hn, hW, z1, hS⟩, k0, k1⟩ := h
    have sl : 1000 < sizeLine := by decide
    have KP := kpL_Kp (F := R.F) (w := if n = 0 then 0 else W) (rws (mrk R.S W rs) n)
    have kl := KP.len
    have i0 := if0_le n W
    refine ⟨_, (pss_cons (ps_set (i := 4) sc_parts_by.nd rfl (Or.inl rfl) (pe_callB call_len (by rfl) T.z_len PySem.boot_len (pa_cons (pv 3) pa_nil))) (pss_cons (ps_set (i := 5) sc_parts_by.nd rfl (Or.inl rfl) (pe_call (ok_cleared T) hr.m rfl T.m_cleared T.F_cleared.kp T.b_cleared .nil pass0 (pa_cons (pv 0) (pa_cons (pv 1) (pa_cons (pe_op op_catA (pv 3) (pe_call (ok_noughts T) hr.m rfl T.m_noughts T.F_noughts.kp T.b_noughts .nil pass0 (pa_cons (pv 0) (pa_cons (pv 2) pa_nil)))) pa_nil))))) (pss_cons (ps_if (pt_cmpR op_notN (pe_call (ok_leading T) hr.m rfl T.m_leading T.F_leading.kp T.b_leading .nil pass0 (pa_cons (pv 0) (pa_cons (pv 5) (pa_cons (pv 4) pa_nil)))) pe_non (nomark _)) (pss_one (ps_ret pe_non)) pss_nil) (pss_one (ps_ret (pe_comp (xs := ["x"]) rfl (show CompOk ["kind", "kept", "count", "row", "width", "rest"] (defScope s_parts_by) _ from ⟨rfl, by decide +kernel, by decide +kernel, by decide +kernel, by decide +kernel, by decide +kernel⟩) (pi_tup (pe_slice sl_tupA (pv 5) (po_some (pv 4)) po_none)) (fun _ _ _ _ _ => (pg_name (i := 6) (by show List.Nodup (["kind", "kept", "count", "row", "width", "rest", "x"] : List Str); decide +kernel) rfl (Or.inl rfl))) (fun _ _ _ _ _ => (pe_meth (pv 0) R.cl R.t_minus R.G_minus hr.m R.b_minus .nil pass0 (pa_cons (pv 6) pa_nil))))))))), ?_⟩
    refine ⟨_, rfl, _, _, rfl, hy.len, ?_⟩
    show gName 4 (.int (W : Nat)) [some kv, some (.ref a), some (.int (n : Nat)), some yv, none, none] H _
    refine ⟨_, rfl, _, rfl, _, rfl, _, rfl, _, rfl, R, kv, _, n, z - 1, rfl, ⟨hk, by omega, rfl⟩, fun nv H1 s1 r1 => ?_⟩
    obtain ⟨ap, as, rfl, ha, ea⟩ := KindR.Row.same s1.t hy
    obtain ⟨bp, bs, rfl, hb, eb⟩ := r1
    refine ⟨_, _, as, bs, rfl, rfl, ha, hb, (by rw [ea.1, eb.1]; omega), fun p2 H2 s2 h2 => ?_⟩
    have s12 := s1.trans s2
    have r2 : R.Row (W + n) (cat R.S W y fun _ => R.S.zero) (z - 1) (.ref p2) H2 := ⟨p2, _, rfl, h2, (ents_cat ea eb).mono fun _ _ _ z => KindR.Wt.same s2.t z⟩
    refine ⟨R, kv, a, _, W + n, z, _, _, rfl, ⟨hk.same s12, hK.same s12, fun q hq => by have := KP.lt q hq; omega, r2, by omega, z1, hS.le (zp_le z (by omega))⟩, fun rv H3 s3 r3 => ?_⟩
    have s13 := s12.trans s3
    show gName 5 rv [some kv, some (.ref a), some (.int (n : Nat)), some (.ref ap), some (.int (W : Nat)), none] H3 _
    refine ⟨_, rfl, _, rfl, _, rfl, R, kv, rv, W + n, _, W, _, rfl, ⟨hk.same s13, r3, by omega, by omega⟩, fun H4 s4 => ?_⟩
    have s14 := s13.trans s4
    cases e : lead (clr R.F (kpL R.F (if n = 0 then 0 else W) (rws (mrk R.S W rs) n)) (cat R.S W y fun _ => R.S.zero)) W with
    | some p =>
      refine ⟨rfl, _, rfl, ?_⟩
      (try refine iteT ?_)
      refine k0 (fun sp => ?_) _ s14
      obtain ⟨p1, p2, _⟩ := lead_some e
      exact p2 (parts_not sp p p1)
    | none =>
      refine ⟨rfl, _, rfl, ?_⟩
      (try refine iteF ?_)
      have r4 := KindR.Row.same s4.t r3
      obtain ⟨rp, rvs, rfl, hrp, er⟩ := r4
      refine ⟨_, rfl, _, rfl, _, rfl, rp, rvs, rfl, SqT.of hrp, hrp, fun p5 H5 s5 h5 => ?_⟩
      have ce : cutV rvs (some (W : Int)) none = rvs.drop W := cut_drop (by rw [er.1]; omega)
      rw [ce] at h5
      have e5 : Ents (R.Wt (fun q => clr R.F (kpL R.F (if n = 0 then 0 else W) (rws (mrk R.S W rs) n)) (cat R.S W y fun _ => R.S.zero) (W + q)) (zk z W)) (rvs.drop W) n H5 := by
        refine ⟨by rw [List.length_drop, er.1]; omega, fun j hj => ?_⟩
        obtain ⟨u, eu, pu⟩ := er.2 (W + j) (by omega)
        exact ⟨u, by rw [List.getElem?_drop]; exact eu, R.same s5.t pu.1, R.S.sz_mono _ _ _ (by have := zp_le z (show (kpL R.F (if n = 0 then 0 else W) (rws (mrk R.S W rs) n)).length ≤ W by omega); unfold zk; omega) pu.2⟩
      have s15 := s14.trans s5
      obtain ⟨kp, dx, rfl, hk0⟩ := id hk
      refine ⟨p5, rfl, ⟨_, SqT.of h5⟩, comp_go (n := n) (fun j ys H2 => Same H5 H2 ∧ Ents (R.Wt (fun q => R.F.neg (clr R.F (kpL R.F (if n = 0 then 0 else W) (rws (mrk R.S W rs) n)) (cat R.S W y fun _ => R.S.zero) (W + q))) (zk z W)) ys j H2) (by omega) ⟨Same.refl _, Ents.nil⟩ (fun j ys H2 q => q.2.1) ?_ ?_ ?_⟩
      · rintro j ys H6 hj ⟨q, e6⟩
        obtain ⟨u, eu, pu⟩ := e5.2 j hj
        refine ⟨⟨_, _, SqT.of (q _ _ h5), eu⟩, fun y' H' hy' => ?_⟩
        obtain ⟨rfl, hy'⟩ := hy'
        have := hy' _ (SqT.of (q _ _ h5))
        rw [eu] at this
        cases this
        have q6 := (s15.trans q) _ _ hk0
        refine ⟨⟨[some _], rfl, rfl⟩, _, rfl, _, _, _, rfl, q6, R.l_minus, _, rfl, _, _, _, rfl, ⟨⟨_, _, rfl, q6⟩, R.same q.t pu.1⟩, fun v H7 s7 f7 => ?_⟩
        exact ⟨q.trans s7, (e6.mono fun _ _ _ z => KindR.Wt.same s7.t z).snoc ⟨f7, R.F.sz_neg _ _ pu.2⟩⟩
      · rintro ys H6 ⟨q, e6⟩
        exact ⟨_, SqT.of (q _ _ h5), by rw [e5.1]; exact Nat.le_refl _⟩
      · rintro ys H6 l ⟨q, e6⟩ nl
        have s7 := same_upd (o := .lst ys) nl
        refine k1 l ys _ _ (s15.trans (q.trans s7)) upd_same (e6.mono fun _ _ _ z => KindR.Wt.same s7.t z) ?_
        refine Rl.parts R.F (Rl.clr (fun j hj => ?_) mrk_all) (lead_none e)
        rw [cat_lt hj]
        have : (fun q => cat R.S W y (fun _ => R.S.zero) (W + q)) = fun _ => R.S.zero := by
          funext q
          rw [cat_ge]
        rw [this, lin_zero, R.S.add_zero]
theorem PtK.same {R : KindR Pr w K mg base} {W m n : Nat} {rs : Nat → Nat → R.S.W} {y : Nat → R.S.W} {H H1 : Hp} {Q : VK} (s : Same H H1) (h : PtK R W m n rs y H Q) : PtK R W m n rs y H1 Q := ⟨fun ns H' s' => h.1 ns H' (s.trans s'), fun lp us H' c s' => h.2 lp us H' c (s.trans s')⟩
def sp_parts (w : World) (K : PySem.W.Frag) (mg : Str → Option Value) (base : Heap) : Sp := fun vs H Q _ => ∃ (R : KindR Pr w K mg base), ∃ kv rv yv, ∃ (W z n : Nat), ∃ rs y, vs = [kv, rv, yv] ∧ (KAt R.C R.fs H kv ∧ RowsL R W (z - 1) n rs rv H ∧ R.Row W y (z - 1) yv H ∧ n ≤ 400 ∧ W ≤ 400 ∧ 1 ≤ z ∧ Sml R.S (z * 4 ^ W)) ∧ PtK R W (zk z W) n rs y H Q
theorem ok_parts (T : Txt K mg t) : FnOk Pr w K mg base CX0 46 t.parts t.d_parts ["kind", "rows", "row"] (sp_parts w K mg base) := by
  refine T.F_parts.ok sc_parts (fun vs H Q E h => ?_) (fun cdv A outer s H vs Q E hr h => ?_)
  · obtain ⟨R, kv, rv, yv, W, z, n, rs, y, rfl, _⟩ := h
    rfl
  · obtain ⟨R, kv, rv, yv, W, z, n, rs, y, rfl, ⟨hk, hR, hy, hn, hW, z1, hS⟩, k⟩ := h
    refine ⟨_, (pss_cons (ps_expr (pe_call (ok_need_field T) hr.m rfl T.m_need_field T.F_need_field.kp T.b_need_field .nil pass0 (pa_cons (pv 0) pa_nil))) (pss_one (ps_ret (pe_call (ok_parts_by T) hr.m rfl T.m_parts_by T.F_parts_by.kp T.b_parts_by .nil pass0 (pa_cons (pv 0) (pa_cons (pe_call (ok_kept_marked T) hr.m rfl T.m_kept_marked T.F_kept_marked.kp T.b_kept_marked .nil pass0 (pa_cons (pv 0) (pa_cons (pv 1) pa_nil))) (pa_cons (pe_callB call_len (by rfl) T.z_len PySem.boot_len (pa_cons (pv 1) pa_nil)) (pa_cons (pv 2) pa_nil)))))))), ?_⟩
    refine ⟨_, rfl, R, kv, rfl, hk, ?_⟩
    refine ⟨_, rfl, _, rfl, _, rfl, R, kv, rv, W, z, n, rs, rfl, ⟨hk, hR, hn, hW, z1, hS⟩, fun a H1 s1 r1 => ?_⟩
    refine ⟨_, rfl, _, _, rfl, (hR.same s1).len, _, rfl, R, kv, a, yv, W, z, n, rs, y, rfl, ⟨hk.same s1, r1, KindR.Row.same s1.t hy, hn, hW, z1, hS⟩, k.same s1⟩
--WRONG
/-! a kind that is no field -/
def WK (w : World) (K : PySem.W.Frag) (mg : Str → Option Value) (base : Heap) (H : Hp) (kv : V) : Prop := ∃ (kp C dx : Addr) (fs : List (Str × V)) (f : Addr) (fd : FuncData), kv = .ref kp ∧ (H kp = some (.ins C dx fs) ∧ fs.lookup ("is_field" : Str) = none ∧ Cls K C ∧ Meth K C "is_field" f ∧ Binds K fd ["self"] [] ∧ FnOk Pr w K mg base CX0 40 f fd ["self"] (spPk false))
theorem WK.same {H H' : Hp} {kv : V} (s : Same H H') (h : WK w K mg base H kv) : WK w K mg base H' kv := by
  obtain ⟨kp, C, dx, fs, f, fd, e, h1, r⟩ := h
  exact ⟨kp, C, dx, fs, f, fd, e, s _ _ h1, r⟩
def spx_wrong (w : World) (K : PySem.W.Frag) (mg : Str → Option Value) (base : Heap) (t : Adr) (n : Nat) : Sp := fun vs H _ E => ∃ kv r, vs = kv :: r ∧ r.length = n ∧ WK w K mg base H kv ∧ E (.ref t.WrongKind) none H
theorem len1 {α : Type} {r : List α} (h : r.length = 1) : ∃ a, r = [a] := List.length_eq_one_iff.mp h
theorem len2 {α : Type} {r : List α} (h : r.length = 2) : ∃ a b, r = [a, b] := match r, h with | [a, b], _ => ⟨a, b, rfl⟩
theorem len3 {α : Type} {r : List α} (h : r.length = 3) : ∃ a b c, r = [a, b, c] := match r, h with | [a, b, c], _ => ⟨a, b, c, rfl⟩
theorem okx_parts (T : Txt K mg t) : FnOk Pr w K mg base (CX1 Pr w) 42 t.parts t.d_parts ["kind", "rows", "row"] (spx_wrong w K mg base t 2) := by
  refine T.F_parts.okx sc_parts (fun vs H Q E h => ?_) (fun cdv A outer s H vs Q E hr h => ?_)
  · obtain ⟨kv, r, rfl, e, _⟩ := h
    rw [List.length_cons, e]; rfl
  · obtain ⟨kv, r, rfl, e, hk, k⟩ := h
    obtain ⟨a, b, rfl⟩ := len2 e
    obtain ⟨kp, C, dx, fs, f, fd, rfl, h1⟩ := hk
    exact ⟨_, (pss_cons (ps_expr (PEX.thru thru_cx (px_call (okx_need_field T) hr.m rfl T.m_need_field T.F_need_field.kp T.b_need_field .nil (pa_cons (pv 0) pa_nil)))) pss_never), ⟨_, rfl, kp, C, dx, fs, f, fd, false, rfl, h1, (fun z => nomatch z), fun _ => k⟩⟩
theorem okx_rank (T : Txt K mg t) : FnOk Pr w K mg base (CX1 Pr w) 42 t.rank t.d_rank ["kind", "rows"] (spx_wrong w K mg base t 1) := by
  refine T.F_rank.okx sc_rank (fun vs H Q E h => ?_) (fun cdv A outer s H vs Q E hr h => ?_)
  · obtain ⟨kv, r, rfl, e, _⟩ := h
    rw [List.length_cons, e]; rfl
  · obtain ⟨kv, r, rfl, e, hk, k⟩ := h
    obtain ⟨a, rfl⟩ := len1 e
    obtain ⟨kp, C, dx, fs, f, fd, rfl, h1⟩ := hk
    exact ⟨_, (pss_cons (ps_expr (PEX.thru thru_cx (px_call (okx_need_field T) hr.m rfl T.m_need_field T.F_need_field.kp T.b_need_field .nil (pa_cons (pv 0) pa_nil)))) pss_never), ⟨_, rfl, kp, C, dx, fs, f, fd, false, rfl, h1, (fun z => nomatch z), fun _ => k⟩⟩
theorem okx_free (T : Txt K mg t) : FnOk Pr w K mg base (CX1 Pr w) 43 t.free t.d_free ["kind", "rows"] (spx_wrong w K mg base t 1) := by
  refine T.F_free.okx sc_free (fun vs H Q E h => ?_) (fun cdv A outer s H vs Q E hr h => ?_)
  · obtain ⟨kv, r, rfl, e, _⟩ := h
    rw [List.length_cons, e]; rfl
  · obtain ⟨kv, r, rfl, e, hk, k⟩ := h
    obtain ⟨a, rfl⟩ := len1 e
    exact ⟨_, (pss_one (ps_ret (pe_cmpR op_eq (PEX.thru thru_cx (px_call (okx_rank T) hr.m rfl T.m_rank T.F_rank.kp T.b_rank .nil (pa_cons (pv 0) (pa_cons (pv 1) pa_nil)))) (pe_callB call_len (by rfl) T.z_len PySem.boot_len (pa_cons (pv 1) pa_nil)) (nomark _)))), ⟨_, rfl, _, rfl, kv, [a], rfl, rfl, hk, k⟩⟩
theorem okx_inverse_of (T : Txt K mg t) : FnOk Pr w K mg base (CX1 Pr w) 42 t.inverse_of t.d_inverse_of ["kind", "table"] (spx_wrong w K mg base t 1) := by
  refine T.F_inverse_of.okx sc_inverse_of (fun vs H Q E h => ?_) (fun cdv A outer s H vs Q E hr h => ?_)
  · obtain ⟨kv, r, rfl, e, _⟩ := h
    rw [List.length_cons, e]; rfl
  · obtain ⟨kv, r, rfl, e, hk, k⟩ := h
    obtain ⟨a, rfl⟩ := len1 e
    obtain ⟨kp, C, dx, fs, f, fd, rfl, h1⟩ := hk
    exact ⟨_, (pss_cons (ps_expr (PEX.thru thru_cx (px_call (okx_need_field T) hr.m rfl T.m_need_field T.F_need_field.kp T.b_need_field .nil (pa_cons (pv 0) pa_nil)))) pss_never), ⟨_, rfl, kp, C, dx, fs, f, fd, false, rfl, h1, (fun z => nomatch z), fun _ => k⟩⟩
theorem okx_heads (T : Txt K mg t) : FnOk Pr w K mg base (CX1 Pr w) 42 t.heads t.d_heads ["kind", "machine"] (spx_wrong w K mg base t 1) := by
  refine T.F_heads.okx sc_heads (fun vs H Q E h => ?_) (fun cdv A outer s H vs Q E hr h => ?_)
  · obtain ⟨kv, r, rfl, e, _⟩ := h
    rw [List.length_cons, e]; rfl
  · obtain ⟨kv, r, rfl, e, hk, k⟩ := h
    obtain ⟨a, rfl⟩ := len1 e
    obtain ⟨kp, C, dx, fs, f, fd, rfl, h1⟩ := hk
    exact ⟨_, (pss_cons (ps_expr (PEX.thru thru_cx (px_call (okx_need_field T) hr.m rfl T.m_need_field T.F_need_field.kp T.b_need_field .nil (pa_cons (pv 0) pa_nil)))) pss_never), ⟨_, rfl, kp, C, dx, fs, f, fd, false, rfl, h1, (fun z => nomatch z), fun _ => k⟩⟩
theorem okx_tails (T : Txt K mg t) : FnOk Pr w K mg base (CX1 Pr w) 42 t.tails t.d_tails ["kind", "machine"] (spx_wrong w K mg base t 1) := by
  refine T.F_tails.okx sc_tails (fun vs H Q E h => ?_) (fun cdv A outer s H vs Q E hr h => ?_)
  · obtain ⟨kv, r, rfl, e, _⟩ := h
    rw [List.length_cons, e]; rfl
  · obtain ⟨kv, r, rfl, e, hk, k⟩ := h
    obtain ⟨a, rfl⟩ := len1 e
    obtain ⟨kp, C, dx, fs, f, fd, rfl, h1⟩ := hk
    exact ⟨_, (pss_cons (ps_expr (PEX.thru thru_cx (px_call (okx_need_field T) hr.m rfl T.m_need_field T.F_need_field.kp T.b_need_field .nil (pa_cons (pv 0) pa_nil)))) pss_never), ⟨_, rfl, kp, C, dx, fs, f, fd, false, rfl, h1, (fun z => nomatch z), fun _ => k⟩⟩
theorem okx_least (T : Txt K mg t) : FnOk Pr w K mg base (CX1 Pr w) 42 t.least t.d_least ["kind", "machine"] (spx_wrong w K mg base t 1) := by
  refine T.F_least.okx sc_least (fun vs H Q E h => ?_) (fun cdv A outer s H vs Q E hr h => ?_)
  · obtain ⟨kv, r, rfl, e, _⟩ := h
    rw [List.length_cons, e]; rfl
  · obtain ⟨kv, r, rfl, e, hk, k⟩ := h
    obtain ⟨a, rfl⟩ := len1 e
    obtain ⟨kp, C, dx, fs, f, fd, rfl, h1⟩ := hk
    exact ⟨_, (pss_cons (ps_expr (PEX.thru thru_cx (px_call (okx_need_field T) hr.m rfl T.m_need_field T.F_need_field.kp T.b_need_field .nil (pa_cons (pv 0) pa_nil)))) pss_never), ⟨_, rfl, kp, C, dx, fs, f, fd, false, rfl, h1, (fun z => nomatch z), fun _ => k⟩⟩
theorem okx_paper (T : Txt K mg t) : FnOk Pr w K mg base (CX1 Pr w) 43 t.paper t.d_paper ["kind", "machine"] (spx_wrong w K mg base t 1) := by
  refine T.F_paper.okx sc_paper (fun vs H Q E h => ?_) (fun cdv A outer s H vs Q E hr h => ?_)
  · obtain ⟨kv, r, rfl, e, _⟩ := h
    rw [List.length_cons, e]; rfl
  · obtain ⟨kv, r, rfl, e, hk, k⟩ := h
    obtain ⟨a, rfl⟩ := len1 e
    exact ⟨_, (pss_cons (ps_set (i := 2) sc_paper.nd rfl (Or.inl rfl) (PEX.thru thru_cx (px_call (okx_heads T) hr.m rfl T.m_heads T.F_heads.kp T.b_heads .nil (pa_cons (pv 0) (pa_cons (pv 1) pa_nil))))) pss_never), ⟨_, rfl, _, rfl, kv, [a], rfl, rfl, hk, k⟩⟩
theorem okx_learnt (T : Txt K mg t) : FnOk Pr w K mg base (CX1 Pr w) 42 t.learnt t.d_learnt ["kind", "letters", "ask", "most"] (spx_wrong w K mg base t 3) := by
  refine T.F_learnt.okx sc_learnt (fun vs H Q E h => ?_) (fun cdv A outer s H vs Q E hr h => ?_)
  · obtain ⟨kv, r, rfl, e, _⟩ := h
    rw [List.length_cons, e]; rfl
  · obtain ⟨kv, r, rfl, e, hk, k⟩ := h
    obtain ⟨a, b, c, rfl⟩ := len3 e
    obtain ⟨kp, C, dx, fs, f, fd, rfl, h1⟩ := hk
    exact ⟨_, (pss_cons (ps_expr (PEX.thru thru_cx (px_call (okx_need_field T) hr.m rfl T.m_need_field T.F_need_field.kp T.b_need_field .nil (pa_cons (pv 0) pa_nil)))) pss_never), ⟨_, rfl, kp, C, dx, fs, f, fd, false, rfl, h1, (fun z => nomatch z), fun _ => k⟩⟩
--LW
/-! the law's draws -/
def sp_lw : Sp := fun vs H Q _ => ∃ (a : Addr) (g : Bool), vs = [.ref a, .bl g] ∧ Dr H a ∧ ∀ v H', SameX a H H' → Dr H' a → Q v H'
theorem three_at {x y z : V} {r : Int} (h0 : 0 ≤ r) (h1 : r < 3) : ∃ v, (v = x ∨ v = y ∨ v = z) ∧ atI [x, y, z] r = some v := by
  rcases (show r = 0 ∨ r = 1 ∨ r = 2 by omega) with e | e | e <;> subst e
  · exact ⟨x, .inl rfl, rfl⟩
  · exact ⟨y, .inr (.inl rfl), rfl⟩
  · exact ⟨z, .inr (.inr rfl), rfl⟩
theorem ok_law_weight (T : Txt K mg t) : FnOk Pr w K mg base CX0 36 t.law_weight t.d_law_weight ["_law_state_here", "_law_truths"] sp_lw := by
  refine T.F_law_weight.ok sc_law_weight (fun vs H Q E h => ?_) (fun cdv A outer s H vs Q E hr h => ?_)
  · obtain ⟨a, g, rfl, _⟩ := h
    rfl
  · obtain ⟨a, g, rfl, hD, k⟩ := h
    refine ⟨_, (pss_cons (ps_if (pt_val (pv 1)) (pss_one (ps_ret (pe_cmpR op_eq (pe_call (ok_law_next T) hr.m rfl T.m_law_next T.F_law_next.kp T.b_law_next .nil pass0 (pa_cons (pv 0) (pa_cons pe_int pa_nil))) pe_int (nomark _)))) pss_nil) (pss_one (ps_ret (pe_ix ix_list (pe_lst (pa_cons pe_non (pa_cons (pe_op op_sub (pe_call (ok_law_next T) hr.m rfl T.m_law_next T.F_law_next.kp T.b_law_next .nil pass0 (pa_cons (pv 0) (pa_cons pe_int pa_nil))) pe_int) (pa_cons (pe_call (ok_law_next T) hr.m rfl T.m_law_next T.F_law_next.kp T.b_law_next .nil pass0 (pa_cons (pv 0) (pa_cons (pe_op op_pow pe_int pe_int) pa_nil))) pa_nil)))) (pe_call (ok_law_next T) hr.m rfl T.m_law_next T.F_law_next.kp T.b_law_next .nil pass0 (pa_cons (pv 0) (pa_cons pe_int pa_nil))) (fun _ _ => rfl))))), ?_⟩
    refine ⟨_, rfl, _, rfl, ?_⟩
    cases g with
    | true =>
      (try refine iteT ?_)
      exact ⟨_, rfl, a, 2, rfl, ⟨hD, by decide, by decide⟩, fun r1 H1 s1 d1 u1 w1 => ⟨rfl, k _ _ s1 d1⟩⟩
    | false =>
      (try refine iteF ?_)
      refine ⟨_, rfl, a, 9, rfl, ⟨hD, by decide, by decide⟩, fun r1 H1 s1 d1 u1 w1 => ⟨_, _, rfl, rfl, ?_⟩⟩
      refine ⟨_, rfl, _, _, rfl, rfl, ⟨by decide, by decide, by decide⟩, a, _, rfl, ⟨d1, by decide, by decide⟩, fun r2 H2 s2 d2 u2 w2 => ?_⟩
      refine ⟨(by show 3 ≤ sizeLine; decide), fun lp nl => ?_⟩
      have t3 := same_upd (o := .lst [.non, .int (r1 - 4), .int r2]) nl
      have h3 : upd H2 lp (.lst [.non, .int (r1 - 4), .int r2]) lp = some (.lst [.non, .int (r1 - 4), .int r2]) := upd_same
      have d3 := d2.same t3
      have na : lp ≠ a := fun z => by obtain ⟨xs, zz⟩ := d2.lst; rw [← z, nl] at zz; cases zz
      revert t3 h3 d3
      generalize upd H2 lp (.lst [.non, .int (r1 - 4), .int r2]) = H3
      intro t3 h3 d3
      refine ⟨_, rfl, a, 3, rfl, ⟨d3, by decide, by decide⟩, fun r4 H4 s4 d4 u4 w4 => ?_⟩
      obtain ⟨v, _, hv⟩ := three_at (x := .non) (y := .int (r1 - 4)) (z := .int r2) u4 w4
      exact ⟨_, _, _, _, rfl, rfl, SqL.of (s4 _ _ na h3), hv, k _ _ (((s1.trans s2).trans (.of t3)).trans s4) d4⟩
theorem Dr.ne {a b : Addr} {H : Hp} (d : Dr H a) (n : H b = none) : b ≠ a := fun z => by
  obtain ⟨xs, zz⟩ := d.lst
  rw [← z, n] at zz; cases zz
theorem none_backX {a b : Addr} {H H' : Hp} (s : SameX a H H') (n : H' b = none) (ne : b ≠ a) : H b = none := by
  cases e : H b with
  | none => rfl
  | some o => rw [s _ _ ne e] at n; cases n
def sp_lm : Sp := fun vs H Q _ => ∃ (a : Addr) (g : Bool), vs = [.ref a, .bl g] ∧ Dr H a ∧ ∀ mp x y z u H', SameX a H H' → Dr H' a → H' mp = some (.tup [x, y, z, u]) → Q (.ref mp) H'
theorem ok_law_machine (T : Txt K mg t) : FnOk Pr w K mg base CX0 37 t.law_machine t.d_law_machine ["_law_state_here", "_law_truths"] sp_lm := by
  refine T.F_law_machine.ok sc_law_machine (fun vs H Q E h => ?_) (fun cdv A outer s H vs Q E hr h => ?_)
  · obtain ⟨a, g, rfl, _⟩ := h
    rfl
  · obtain ⟨a, g, rfl, hD, k⟩ := h
    have sl : 1000 < sizeLine := by decide
    refine ⟨_, (pss_cons (ps_set (i := 2) sc_law_machine.nd rfl (Or.inl rfl) (pe_call (ok_law_next T) hr.m rfl T.m_law_next T.F_law_next.kp T.b_law_next .nil pass0 (pa_cons (pv 0) (pa_cons pe_int pa_nil)))) (pss_cons (ps_set (i := 3) sc_law_machine.nd rfl (Or.inl rfl) (pe_ix ix_list (pe_lst (pa_cons pe_str (pa_cons pe_str (pa_cons pe_str pa_nil)))) (pe_call (ok_law_next T) hr.m rfl T.m_law_next T.F_law_next.kp T.b_law_next .nil pass0 (pa_cons (pv 0) (pa_cons pe_int pa_nil))) (fun _ _ => rfl))) (pss_cons (ps_set (i := 4) sc_law_machine.nd rfl (Or.inl rfl) (pe_lst pa_nil)) (pss_cons (ps_for PassesOwn.never rfl (pi_str (pv 3)) (pg_name (i := 5) sc_law_machine.nd rfl (Or.inl rfl)) (pss_cons (ps_set (i := 6) sc_law_machine.nd rfl (Or.inl rfl) (pe_lst pa_nil)) (pss_cons (ps_for PassesOwn.never rfl (pi_range1 rfl T.z_range (pa_cons (pv 2) pa_nil)) (pg_name (i := 7) sc_law_machine.nd rfl (Or.inl rfl)) (pss_one (ps_expr (pe_bm PySem.F.plainAttrs_list PySem.F.slot_list_append PySem.F.type_list_append mt_append (pv 6) (pa_cons (pe_callTy call_tuple_of (by rfl) T.z_tuple boot_tuple (pa_cons (pe_comp (xs := ["_law_j"]) rfl (show CompOk ["_law_state_here", "_law_truths", "_law_many", "_law_letters", "_law_tables", "_law_letter", "_law_table", "_law_k", "_law_start"] (defScope s_law_machine) _ from ⟨rfl, by decide +kernel, by decide +kernel, by decide +kernel, by decide +kernel, by decide +kernel⟩) (pi_range1 rfl T.z_range (pa_cons (pv 2) pa_nil)) (fun _ _ _ _ _ => (pg_name (i := 9) (by show List.Nodup (["_law_state_here", "_law_truths", "_law_many", "_law_letters", "_law_tables", "_law_letter", "_law_table", "_law_k", "_law_start", "_law_j"] : List Str); decide +kernel) rfl (Or.inl rfl))) (fun _ _ _ _ _ => (pe_call (ok_law_weight (w := w) (base := base) T) hr.m rfl T.m_law_weight T.F_law_weight.kp T.b_law_weight .nil pass0 (pa_cons (pv 0) (pa_cons (pv 1) pa_nil))))) pa_nil)) pa_nil))))) (pss_one (ps_expr (pe_bm PySem.F.plainAttrs_list PySem.F.slot_list_append PySem.F.type_list_append mt_append (pv 4) (pa_cons (pe_callTy call_tuple_of (by rfl) T.z_tuple boot_tuple (pa_cons (pv 6) pa_nil)) pa_nil))))))) (pss_cons (ps_forget 7 (ps_set (i := 8) sc_law_machine.nd rfl (Or.inl rfl) (pe_callTy call_tuple_of (by rfl) T.z_tuple boot_tuple (pa_cons (pe_hide 7 "#1" (pe_comp (xs := ["_law_k"]) rfl (show CompOk ["_law_state_here", "_law_truths", "_law_many", "_law_letters", "_law_tables", "_law_letter", "_law_table", "#1", "_law_start"] (defScope s_law_machine) _ from ⟨rfl, by decide +kernel, by decide +kernel, by decide +kernel, by decide +kernel, by decide +kernel⟩) (pi_range1 rfl T.z_range (pa_cons (pv 2) pa_nil)) (fun _ _ _ _ _ => (pg_name (i := 9) (by show List.Nodup (["_law_state_here", "_law_truths", "_law_many", "_law_letters", "_law_tables", "_law_letter", "_law_table", "#1", "_law_start", "_law_k"] : List Str); decide +kernel) rfl (Or.inl rfl))) (fun _ _ _ _ _ => (pe_call (ok_law_weight (w := w) (base := base) T) hr.m rfl T.m_law_weight T.F_law_weight.kp T.b_law_weight .nil pass0 (pa_cons (pv 0) (pa_cons (pv 1) pa_nil)))))) pa_nil)))) (pss_one (ps_ret (pe_tup (pa_cons (pv 3) (pa_cons (pv 8) (pa_cons (pe_callTy call_tuple_of (by rfl) T.z_tuple boot_tuple (pa_cons (pv 4) pa_nil)) (pa_cons (pe_callTy call_tuple_of (by rfl) T.z_tuple boot_tuple (pa_cons (pe_hide 7 "#1" (pe_comp (xs := ["_law_k"]) rfl (show CompOk ["_law_state_here", "_law_truths", "_law_many", "_law_letters", "_law_tables", "_law_letter", "_law_table", "#1", "_law_start"] (defScope s_law_machine) _ from ⟨rfl, by decide +kernel, by decide +kernel, by decide +kernel, by decide +kernel, by decide +kernel⟩) (pi_range1 rfl T.z_range (pa_cons (pv 2) pa_nil)) (fun _ _ _ _ _ => (pg_name (i := 9) (by show List.Nodup (["_law_state_here", "_law_truths", "_law_many", "_law_letters", "_law_tables", "_law_letter", "_law_table", "#1", "_law_start", "_law_k"] : List Str); decide +kernel) rfl (Or.inl rfl))) (fun _ _ _ _ _ => (pe_call (ok_law_weight (w := w) (base := base) T) hr.m rfl T.m_law_weight T.F_law_weight.kp T.b_law_weight .nil pass0 (pa_cons (pv 0) (pa_cons (pv 1) pa_nil)))))) pa_nil)) pa_nil)))))))))))), ?_⟩
    refine ⟨_, rfl, a, 4, rfl, ⟨hD, by decide, by decide⟩, fun r1 H1 s1 d1 u1 w1 => ?_⟩
    show gName 2 (.int r1) [some (.ref a), some (.bl g), none, none, none, none, none, none, none] H1 _
    refine ⟨(by show 3 ≤ sizeLine; decide), fun lp nl => ?_⟩
    have t2 := same_upd (o := .lst [V.str (Str.ofString "a"), V.str (Str.ofString "xy"), V.str (Str.ofString "tuv")]) nl
    have h2 : upd H1 lp (.lst [V.str (Str.ofString "a"), V.str (Str.ofString "xy"), V.str (Str.ofString "tuv")]) lp = some (.lst [V.str (Str.ofString "a"), V.str (Str.ofString "xy"), V.str (Str.ofString "tuv")]) := upd_same
    have d2 := d1.same t2
    have na := d1.ne nl
    revert t2 h2 d2
    generalize upd H1 lp (.lst [V.str (Str.ofString "a"), V.str (Str.ofString "xy"), V.str (Str.ofString "tuv")]) = H2
    intro t2 h2 d2
    refine ⟨_, rfl, a, 3, rfl, ⟨d2, by decide, by decide⟩, fun r3 H3 s3 d3 u3 w3 => ?_⟩
    obtain ⟨v, hv3, hv⟩ := three_at (x := V.str (Str.ofString "a")) (y := V.str (Str.ofString "xy")) (z := V.str (Str.ofString "tuv")) u3 w3
    obtain ⟨z, rfl, za, zn⟩ : ∃ z : Str, v = .str z ∧ z.cps.all (· < 128) = true ∧ z.cps.size ≤ 3 := by
      rcases hv3 with rfl | rfl | rfl
      · exact ⟨_, rfl, by decide +kernel, by decide +kernel⟩
      · exact ⟨_, rfl, by decide +kernel, by decide +kernel⟩
      · exact ⟨_, rfl, by decide +kernel, by decide +kernel⟩
    refine ⟨_, _, _, _, rfl, rfl, SqL.of (s3 _ _ na h2), hv, ?_⟩
    have q3 : SameX a H H3 := (s1.trans (.of t2)).trans s3
    clear s1 t2 s3 h2 d1 d2 hv hv3 u3 w3
    show gName 3 (.str z) [some (.ref a), some (.bl g), some (.int r1), none, none, none, none, none, none] H3 _
    refine ⟨(by show 0 ≤ sizeLine; decide), fun tl ntl => ?_⟩
    have tla := d3.ne ntl
    have htl := none_backX q3 ntl tla
    have t4 := same_upd (o := .lst []) ntl
    have h4 : upd H3 tl (.lst []) tl = some (.lst []) := upd_same
    have d4 := d3.same t4
    have q4 := q3.trans (.of t4)
    revert t4 h4 d4 q4
    generalize upd H3 tl (.lst []) = H4
    intro t4 h4 d4 q4
    clear q3 t4 d3 ntl
    show gName 4 (.ref tl) [some (.ref a), some (.bl g), some (.int r1), some (.str z), none, none, none, none, none] H4 _
    refine ⟨_, rfl, _, rfl, za, for_it (n := z.cps.size) (fun i σ H5 => ∃ v5 v6 v7 ys, σ = [some (.ref a), some (.bl g), some (.int r1), some (.str z), some (.ref tl), v5, v6, v7, none] ∧ SameX a H H5 ∧ Dr H5 a ∧ H5 tl = some (.lst ys) ∧ ys.length = i) ⟨_, _, _, [], rfl, q4, d4, h4, rfl⟩ ?_ ?_⟩
    · rintro i σ H5 hi ⟨v5, v6, v7, ys, rfl, q5, d5, h5, l5⟩
      refine ⟨hi, fun x H' hy => ?_⟩
      obtain ⟨rfl, c, hc, rfl⟩ := hy
      refine ⟨(by show 0 ≤ sizeLine; decide), fun bl nbl => ?_⟩
      have bla := d5.ne nbl
      have hbl := none_backX q5 nbl bla
      have btl : tl ≠ bl := ne_of_none h5 nbl
      have t6 := same_upd (o := .lst []) nbl
      have h6 : upd H' bl (.lst []) bl = some (.lst []) := upd_same
      have d6 := d5.same t6
      have q6 := q5.trans (.of t6)
      have h6t := t6 _ _ h5
      revert t6 h6 d6 q6 h6t
      generalize upd H' bl (.lst []) = H6
      intro t6 h6 d6 q6 h6t
      clear t6 q5 d5 h5 nbl
      show gName 6 (.ref bl) [some (.ref a), some (.bl g), some (.int r1), some (.str z), some (.ref tl), some _, v6, v7, none] H6 _
      refine ⟨_, rfl, _, rfl, (by omega), (by omega), for_range (lo := 0) (n := r1.toNat) (fun j σ H7 => ∃ v7 zs, σ = [some (.ref a), some (.bl g), some (.int r1), some (.str z), some (.ref tl), some (.str ⟨#[c]⟩), some (.ref bl), v7, none] ∧ SameX a H H7 ∧ Dr H7 a ∧ H7 tl = some (.lst ys) ∧ H7 bl = some (.lst zs) ∧ zs.length = j) ⟨_, [], rfl, q6, d6, h6t, h6, rfl⟩ ?_ ?_⟩
      · rintro j σ H7 hj ⟨v7, zs, rfl, q7, d7, h7t, h7b, l7⟩
        refine ⟨_, rfl, .inl ⟨rfl, _, SqL.of h7b⟩, ?_⟩
        refine ⟨_, rfl, _, rfl, (by omega), (by omega), comp_go (n := r1.toNat) (fun j us H8 => SameX a H H8 ∧ Dr H8 a ∧ H8 tl = some (.lst ys) ∧ H8 bl = some (.lst zs) ∧ us.length = j) (by omega) ⟨q7, d7, h7t, h7b, rfl⟩ (fun _ _ _ q => q.2.2.2.2) ?_ ?_ ?_⟩
        · rintro j' us H8 hj' ⟨q8, d8, h8t, h8b, l8⟩
          refine ⟨(show j' < r1.toNat from hj'), fun y H' hy => ?_⟩
          obtain ⟨rfl, rfl⟩ := hy
          refine ⟨⟨[some _], rfl, rfl⟩, _, rfl, _, rfl, a, g, rfl, d8, fun v H9 s9 d9 => ?_⟩
          exact ⟨q8.trans s9, d9, s9 _ _ tla h8t, s9 _ _ bla h8b, by rw [List.length_append, l8]; rfl⟩
        · rintro us H8 _
          show r1.toNat ≤ r1.toNat
          exact Nat.le_refl _
        · rintro us H8 l1 ⟨q8, d8, h8t, h8b, l8⟩ n1
          have t1 := same_upd (o := .lst us) n1
          refine ⟨l1, us, rfl, .inl ⟨SqL.of upd_same, fun l2 n2 => ?_⟩⟩
          have t2 := same_upd (o := .tup us) n2
          have t12 := t1.trans t2
          refine ⟨_, _, _, rfl, rfl, t12 _ _ h8b, (by rw [l7]; omega), ?_⟩
          refine ⟨_, zs ++ [.ref l2], rfl, (q8.trans (.of t12)).put hbl, (d8.same t12).put bla, by rw [upd_ne btl]; exact t12 _ _ h8t, upd_same, by rw [List.length_append, l7]; rfl⟩
      · rintro σ H7 ⟨v7, zs, rfl, q7, d7, h7t, h7b, l7⟩
        refine ⟨_, rfl, .inl ⟨rfl, _, SqL.of h7t⟩, ?_⟩
        refine ⟨_, rfl, _, _, rfl, .inl ⟨SqL.of h7b, fun l2 n2 => ?_⟩⟩
        have t2 := same_upd (o := .tup zs) n2
        refine ⟨_, _, _, rfl, rfl, t2 _ _ h7t, (by rw [l5]; omega), ?_⟩
        exact ⟨_, _, _, ys ++ [.ref l2], rfl, (q7.trans (.of t2)).put htl, (d7.same t2).put tla, upd_same, by rw [List.length_append, l5]; rfl⟩
    · rintro σ H5 ⟨v5, v6, v7, ys, rfl, q5, d5, h5, l5⟩
      refine ⟨Nat.le_refl _, ?_⟩
      refine ⟨rfl, _, rfl, _, rfl, (by omega), (by omega), comp_go (n := r1.toNat) (fun j us H8 => SameX a H H8 ∧ Dr H8 a ∧ H8 tl = some (.lst ys) ∧ us.length = j) (by omega) ⟨q5, d5, h5, rfl⟩ (fun _ _ _ q => q.2.2.2) ?_ ?_ ?_⟩
      · rintro j' us H8 hj' ⟨q8, d8, h8t, l8⟩
        refine ⟨(show j' < r1.toNat from hj'), fun y H' hy => ?_⟩
        obtain ⟨rfl, rfl⟩ := hy
        refine ⟨⟨[some _], rfl, rfl⟩, _, rfl, _, rfl, a, g, rfl, d8, fun v H9 s9 d9 => ?_⟩
        exact ⟨q8.trans s9, d9, s9 _ _ tla h8t, by rw [List.length_append, l8]; rfl⟩
      · rintro us H8 _
        show r1.toNat ≤ r1.toNat
        exact Nat.le_refl _
      · rintro us H8 l1 ⟨q8, d8, h8t, l8⟩ n1
        have t1 := same_upd (o := .lst us) n1
        refine ⟨l1, us, rfl, .inl ⟨SqL.of upd_same, fun l2 n2 => ?_⟩⟩
        have t2 := same_upd (o := .tup us) n2
        have t12 := t1.trans t2
        have d9 := d8.same t12
        have q9 := q8.trans (.of t12)
        have h9 := t12 _ _ h8t
        revert d9 q9 h9
        generalize upd (upd H8 l1 (.lst us)) l2 (.tup us) = H9
        intro d9 q9 h9
        clear t1 t2 t12 d8 q8 h8t n1 n2
        show gName 8 (.ref l2) [some (.ref a), some (.bl g), some (.int r1), some (.str z), some (.ref tl), v5, v6, none, none] H9 _
        refine ⟨_, rfl, _, rfl, _, rfl, _, _, rfl, .inl ⟨SqL.of h9, fun l3 n3 => ?_⟩⟩
        have t3 := same_upd (o := .tup ys) n3
        refine ⟨rfl, _, rfl, _, rfl, (by omega), (by omega), comp_go (n := r1.toNat) (fun j us H8 => SameX a H H8 ∧ Dr H8 a ∧ us.length = j) (by omega) ⟨q9.trans (.of t3), d9.same t3, rfl⟩ (fun _ _ _ q => q.2.2) ?_ ?_ ?_⟩
        · rintro j' us H8 hj' ⟨q8, d8, l8⟩
          refine ⟨(show j' < r1.toNat from hj'), fun y H' hy => ?_⟩
          obtain ⟨rfl, rfl⟩ := hy
          refine ⟨⟨[some _], rfl, rfl⟩, _, rfl, _, rfl, a, g, rfl, d8, fun v H9 s9 d9 => ?_⟩
          exact ⟨q8.trans s9, d9, by rw [List.length_append, l8]; rfl⟩
        · rintro us H8 _
          show r1.toNat ≤ r1.toNat
          exact Nat.le_refl _
        · rintro us H8 l4 ⟨q8, d8, l8⟩ n4
          have t1 := same_upd (o := .lst us) n4
          refine ⟨l4, us, rfl, .inl ⟨SqL.of upd_same, fun l5 n5 => ?_⟩⟩
          have t2 := same_upd (o := .tup us) n5
          refine ⟨(by show 4 ≤ sizeLine; decide), fun mp nm => ?_⟩
          have t4 := t1.trans (t2.trans (same_upd (o := .tup [.str z, .ref l2, .ref l3, .ref l5]) nm))
          exact k _ _ _ _ _ _ (q8.trans (.of t4)) (d8.same t4) upd_same
--ASK
/-! asked, and refused -/
structure Asks (w : World) (K : PySem.W.Frag) (mg : Str → Option Value) (base : Heap) (H : Hp) (kv yv mv : V) : Prop where
  k : WK w K mg base H kv
  y : ∃ yp us, yv = .ref yp ∧ H yp = some (.tup us)
  m : ∃ mp x y z u, mv = .ref mp ∧ H mp = some (.tup [x, y, z, u])
theorem Asks.same {H H' : Hp} {kv yv mv : V} (s : Same H H') (h : Asks w K mg base H kv yv mv) : Asks w K mg base H' kv yv mv := by
  obtain ⟨h1, ⟨yp, us, e1, h2⟩, ⟨mp, x, y, z, u, e2, h3⟩⟩ := h
  exact ⟨h1.same s, ⟨yp, us, e1, s _ _ h2⟩, ⟨mp, x, y, z, u, e2, s _ _ h3⟩⟩
def spx_asked (w : World) (K : PySem.W.Frag) (mg : Str → Option Value) (base : Heap) (t : Adr) : Sp := fun vs H _ E => ∃ (i : Int) (kv rv yv mv av : V), vs = [.int i, kv, rv, yv, mv, av] ∧ (Asks w K mg base H kv yv mv ∧ 0 ≤ i ∧ i ≤ 8) ∧ ∀ H', Same H H' → E (.ref t.WrongKind) none H'
theorem okx_law_asked (T : Txt K mg t) : FnOk Pr w K mg base (CX1 Pr w) 44 t.law_asked t.d_law_asked ["_law_which", "_law_kind", "_law_rows", "_law_row", "_law_machine_here", "_law_ask"] (spx_asked w K mg base t) := by
  refine T.F_law_asked.okx sc_law_asked (fun vs H Q E h => ?_) (fun cdv A outer s H vs Q E hr h => ?_)
  · obtain ⟨i, kv, rv, yv, mv, av, rfl, _⟩ := h
    rfl
  · obtain ⟨i, kv, rv, yv, mv, av, rfl, ⟨⟨hk, ⟨yp, us, rfl, hy⟩, ⟨mp, x, y, z, u, rfl, hm⟩⟩, i0, i8⟩, k⟩ := h
    have k0 := k _ (Same.refl _)
    refine ⟨_, (pss_cons (ps_if (pt_cmpR op_eq (pv 0) pe_int (nomark _)) (pss_one (ps_ret (PEX.thru thru_cx (px_call (okx_parts T) hr.m rfl T.m_parts T.F_parts.kp T.b_parts .nil (pa_cons (pv 1) (pa_cons (pv 2) (pa_cons (pv 3) pa_nil))))))) pss_nil) (pss_cons (ps_if (pt_cmpR op_eq (pv 0) pe_int (nomark _)) (pss_one (ps_ret (PEX.thru thru_cx (px_call (okx_free T) hr.m rfl T.m_free T.F_free.kp T.b_free .nil (pa_cons (pv 1) (pa_cons (pv 2) pa_nil)))))) pss_nil) (pss_cons (ps_if (pt_cmpR op_eq (pv 0) pe_int (nomark _)) (pss_one (ps_ret (PEX.thru thru_cx (px_call (okx_rank T) hr.m rfl T.m_rank T.F_rank.kp T.b_rank .nil (pa_cons (pv 1) (pa_cons (pv 2) pa_nil)))))) pss_nil) (pss_cons (ps_if (pt_cmpR op_eq (pv 0) pe_int (nomark _)) (pss_one (ps_ret (PEX.thru thru_cx (px_call (okx_inverse_of T) hr.m rfl T.m_inverse_of T.F_inverse_of.kp T.b_inverse_of .nil (pa_cons (pv 1) (pa_cons (pe_tup (pa_cons (pe_slice sl_tupA (pv 3) po_none (po_some pe_int)) pa_nil)) pa_nil)))))) pss_nil) (pss_cons (ps_if (pt_cmpR op_eq (pv 0) pe_int (nomark _)) (pss_one (ps_ret (PEX.thru thru_cx (px_call (okx_heads T) hr.m rfl T.m_heads T.F_heads.kp T.b_heads .nil (pa_cons (pv 1) (pa_cons (pv 4) pa_nil)))))) pss_nil) (pss_cons (ps_if (pt_cmpR op_eq (pv 0) pe_int (nomark _)) (pss_one (ps_ret (PEX.thru thru_cx (px_call (okx_tails T) hr.m rfl T.m_tails T.F_tails.kp T.b_tails .nil (pa_cons (pv 1) (pa_cons (pv 4) pa_nil)))))) pss_nil) (pss_cons (ps_if (pt_cmpR op_eq (pv 0) pe_int (nomark _)) (pss_one (ps_ret (PEX.thru thru_cx (px_call (okx_least T) hr.m rfl T.m_least T.F_least.kp T.b_least .nil (pa_cons (pv 1) (pa_cons (pv 4) pa_nil)))))) pss_nil) (pss_cons (ps_if (pt_cmpR op_eq (pv 0) pe_int (nomark _)) (pss_one (ps_ret (PEX.thru thru_cx (px_call (okx_paper T) hr.m rfl T.m_paper T.F_paper.kp T.b_paper .nil (pa_cons (pv 1) (pa_cons (pv 4) pa_nil)))))) pss_nil) (pss_one (ps_ret (PEX.thru thru_cx (px_call (okx_learnt T) hr.m rfl T.m_learnt T.F_learnt.kp T.b_learnt .nil (pa_cons (pv 1) (pa_cons (pe_ix ix_tup (pv 4) pe_int (fun _ _ => rfl)) (pa_cons (pv 5) (pa_cons pe_int pa_nil)))))))))))))))), ?_⟩
    refine ⟨_, rfl, rfl, _, rfl, ?_⟩
    refine iteI (fun _ => ⟨_, rfl, _, rfl, _, rfl, kv, _, rfl, rfl, hk, k0⟩) (fun n0 => ?_)
    refine ⟨_, rfl, rfl, _, rfl, ?_⟩
    refine iteI (fun _ => ⟨_, rfl, _, rfl, kv, _, rfl, rfl, hk, k0⟩) (fun n1 => ?_)
    refine ⟨_, rfl, rfl, _, rfl, ?_⟩
    refine iteI (fun _ => ⟨_, rfl, _, rfl, kv, _, rfl, rfl, hk, k0⟩) (fun n2 => ?_)
    refine ⟨_, rfl, rfl, _, rfl, ?_⟩
    refine iteI (fun _ => ?_) (fun n3 => ?_)
    · refine ⟨_, rfl, _, rfl, _, rfl, yp, us, rfl, SqT.of hy, hy, fun p H1 s1 h1 => ?_⟩
      refine ⟨(by show 1 ≤ sizeLine; decide), fun q nq => ?_⟩
      have s2 := s1.trans (same_upd (o := .tup [.ref p]) nq)
      exact ⟨kv, _, rfl, rfl, hk.same s2, k _ s2⟩
    refine ⟨_, rfl, rfl, _, rfl, ?_⟩
    refine iteI (fun _ => ⟨_, rfl, _, rfl, kv, _, rfl, rfl, hk, k0⟩) (fun n4 => ?_)
    refine ⟨_, rfl, rfl, _, rfl, ?_⟩
    refine iteI (fun _ => ⟨_, rfl, _, rfl, kv, _, rfl, rfl, hk, k0⟩) (fun n5 => ?_)
    refine ⟨_, rfl, rfl, _, rfl, ?_⟩
    refine iteI (fun _ => ⟨_, rfl, _, rfl, kv, _, rfl, rfl, hk, k0⟩) (fun n6 => ?_)
    refine ⟨_, rfl, rfl, _, rfl, ?_⟩
    refine iteI (fun _ => ⟨_, rfl, _, rfl, kv, _, rfl, rfl, hk, k0⟩) (fun n7 => ?_)
    exact ⟨_, rfl, _, rfl, _, _, _, _, rfl, rfl, SqT.of hm, rfl, _, rfl, kv, _, rfl, rfl, hk, k0⟩
theorem kinds_eq {H : Hp} {p q : Addr} {Q : VK} (hp : H p = some (.tup [.bl true, .bl true, .bl false])) (hq : H q = some (.tup [.bl true, .bl true, .bl false])) (k : Q (.bl true) H) : rEqD K (.ref p) (.ref q) H Q :=
  ⟨_, _, .tup (SqT.of hp) (.cons (.bl _) (.cons (.bl _) (.cons (.bl _) .nil))), .tup (SqT.of hq) (.cons (.bl _) (.cons (.bl _) (.cons (.bl _) .nil))), rfl, rfl, rfl, k⟩
def sp_lref (w : World) (K : PySem.W.Frag) (mg : Str → Option Value) (base : Heap) : Sp := fun vs H Q _ => ∃ (i : Int) (kv rv yv mv av : V), vs = [.int i, kv, rv, yv, mv, av] ∧ (Asks w K mg base H kv yv mv ∧ 0 ≤ i ∧ i ≤ 8) ∧ ∀ H', Same H H' → Q (.bl true) H'
theorem ok_law_refused (T : Txt K mg t) : FnOk Pr w K mg base CX0 46 t.law_refused t.d_law_refused ["_law_which", "_law_kind", "_law_rows", "_law_row", "_law_machine_here", "_law_ask"] (sp_lref w K mg base) := by
  refine T.F_law_refused.ok sc_law_refused (fun vs H Q E h => ?_) (fun cdv A outer s H vs Q E hr h => ?_)
  · obtain ⟨i, kv, rv, yv, mv, av, rfl, _⟩ := h
    rfl
  · obtain ⟨i, kv, rv, yv, mv, av, rfl, ⟨hA, i0, i8⟩, k⟩ := h
    refine ⟨_, (pss_cons (ps_set (i := 6) sc_law_refused.nd rfl (Or.inl rfl) pe_non) (pss_cons (ps_try (i := 7) (psx_one (psx_expr (px_call (okx_law_asked T) hr.m rfl T.m_law_asked T.F_law_asked.kp T.b_law_asked .nil (pa_cons (pv 0) (pa_cons (pv 1) (pa_cons (pv 2) (pa_cons (pv 3) (pa_cons (pv 4) (pa_cons (pv 5) pa_nil))))))))) rfl rfl sc_law_refused.nd rfl rfl rfl T.m_WeighError (fun _ => (pss_cons (ps_set (i := 8) sc_law_refused.nd rfl (Or.inl rfl) (pe_callB (call_isxTK K rfl) (by rfl) T.z_isinstance boot_isinstance (pa_cons (pv 7) (pa_cons (pe_tup (pa_cons (pe_glob (v := .ref t.NoClosure) rfl T.m_NoClosure rfl) (pa_cons (pe_glob (v := .ref t.NoKind) rfl T.m_NoKind rfl) (pa_cons (pe_glob (v := .ref t.NoName) rfl T.m_NoName rfl) (pa_cons (pe_glob (v := .ref t.NoRow) rfl T.m_NoRow rfl) (pa_cons (pe_glob (v := .ref t.NoText) rfl T.m_NoText rfl) pa_nil)))))) pa_nil)))) (pss_cons (ps_set (i := 8) sc_law_refused.nd rfl (Or.inl rfl) (pe_or (pv 8) (pe_one (pe_callB (call_isxTK K rfl) (by rfl) T.z_isinstance boot_isinstance (pa_cons (pv 7) (pa_cons (pe_tup (pa_cons (pe_glob (v := .ref t.NoWeight) rfl T.m_NoWeight rfl) (pa_cons (pe_glob (v := .ref t.NoWord) rfl T.m_NoWord rfl) (pa_cons (pe_glob (v := .ref t.TooGreat) rfl T.m_TooGreat rfl) (pa_cons (pe_glob (v := .ref t.Unlike) rfl T.m_Unlike rfl) pa_nil))))) pa_nil)))))) (pss_one (ps_set (i := 6) sc_law_refused.nd rfl (Or.inl rfl) (pe_tup (pa_cons (pe_callB (call_isxK K rfl) (by rfl) T.z_isinstance boot_isinstance (pa_cons (pv 7) (pa_cons (pe_glob (v := .ref t.WrongKind) rfl T.m_WrongKind rfl) pa_nil))) (pa_cons (pe_callB (call_isxK K rfl) (by rfl) T.z_isinstance boot_isinstance (pa_cons (pv 7) (pa_cons (pe_bltn (v := .ty "ValueError") rfl T.z_ValueError boot_VE rfl) pa_nil))) (pa_cons (pv 8) pa_nil)))))))))) (pss_one (ps_ret (pe_cmpR (op_eqD hr.units) (pv 6) (pe_tup (pa_cons pe_bl (pa_cons pe_bl (pa_cons pe_bl pa_nil)))) (nomark _)))))), ?_⟩
    refine ⟨_, rfl, _, rfl, _, rfl, _, rfl, _, rfl, _, rfl, i, kv, rv, yv, mv, av, rfl, ⟨hA, i0, i8⟩, fun H' s' => ⟨_, rfl, T.eW, fun a ha => ?_⟩⟩
    have s1 := s'.trans (same_upd (o := ExcO a t.WrongKind) ha)
    have hx : upd H' a (ExcO a t.WrongKind) a = some (ExcO a t.WrongKind) := upd_same
    revert s1 hx
    generalize upd H' a (ExcO a t.WrongKind) = H1
    intro s1 hx
    refine ⟨_, rfl, (by show 5 ≤ sizeLine; decide), fun tp ntp => ?_⟩
    have s2 := same_upd (o := .tup [.ref t.NoClosure, .ref t.NoKind, .ref t.NoName, .ref t.NoRow, .ref t.NoText]) ntp
    refine ⟨a, t.WrongKind, tp, [t.NoClosure, t.NoKind, t.NoName, t.NoRow, t.NoText], false, rfl, s2 _ _ hx, T.x_WrongKind, upd_same, T.kW1, ?_⟩
    have s12 := s1.trans s2
    have hx := s2 _ _ hx
    revert s12 hx
    generalize upd H1 tp (.tup [.ref t.NoClosure, .ref t.NoKind, .ref t.NoName, .ref t.NoRow, .ref t.NoText]) = H2
    intro s12 hx
    show gName 8 (.bl false) [some (.int i), some kv, some rv, some yv, some mv, some av, some .non, some (.ref a), none] H2 _
    refine ⟨_, rfl, _, rfl, ?_⟩
    refine iteF ?_
    refine ⟨_, rfl, (by show 4 ≤ sizeLine; decide), fun tq ntq => ?_⟩
    have s3 := same_upd (o := .tup [.ref t.NoWeight, .ref t.NoWord, .ref t.TooGreat, .ref t.Unlike]) ntq
    refine ⟨a, t.WrongKind, tq, [t.NoWeight, t.NoWord, t.TooGreat, t.Unlike], false, rfl, s3 _ _ hx, T.x_WrongKind, upd_same, T.kW2, ?_⟩
    have s13 := s12.trans s3
    have hx := s3 _ _ hx
    revert s13 hx
    generalize upd H2 tq (.tup [.ref t.NoWeight, .ref t.NoWord, .ref t.TooGreat, .ref t.Unlike]) = H3
    intro s13 hx
    show gName 8 (.bl false) [some (.int i), some kv, some rv, some yv, some mv, some av, some .non, some (.ref a), some (.bl false)] H3 _
    refine ⟨_, rfl, _, _, _, _, _, rfl, hx, T.x_WrongKind, rfl, T.kWW, ?_⟩
    refine ⟨_, rfl, _, _, _, _, _, rfl, hx, T.x_WrongKind, rfl, T.vW, ?_⟩
    refine ⟨_, rfl, (by show 3 ≤ sizeLine; decide), fun p np => ?_⟩
    have s4 := same_upd (o := .tup [.bl true, .bl true, .bl false]) np
    have h4 : upd H3 p (.tup [.bl true, .bl true, .bl false]) p = some (.tup [.bl true, .bl true, .bl false]) := upd_same
    revert s4 h4
    generalize upd H3 p (.tup [.bl true, .bl true, .bl false]) = H4
    intro s4 h4
    show gName 6 (.ref p) [some (.int i), some kv, some rv, some yv, some mv, some av, some .non, some (.ref a), some (.bl false)] H4 _
    refine ⟨_, rfl, (by show 3 ≤ sizeLine; decide), fun q nq => ?_⟩
    have s5 := same_upd (o := .tup [.bl true, .bl true, .bl false]) nq
    exact kinds_eq (s5 _ _ h4) upd_same (k _ (s13.trans (s4.trans s5)))
--FIN
/-! the law -/
def sp_law (K : PySem.W.Frag) : Sp := fun vs H Q _ => ∃ (a : Addr) (ns : List Int), vs = [.ref a] ∧ SqL K H a (ns.map V.int) ∧ ns.length ≤ 63 ∧ (∀ c P, PySem.W.tabIn K "law" = some (c, P) → H P = some (.tbl #[])) ∧ ∀ H', Q (.bl true) H'
theorem spn_zero {S : SR} {W n : Nat} {rs : Nat → Nat → S.W} : Spn S W n rs (fun _ => S.zero) := ⟨fun _ => S.zero, fun j _ => by
  unfold lin
  rw [sm_congr (g := fun _ => S.zero) (fun k _ => by rw [S.mul_comm, S.mul_zero]), sm_zero]⟩
def rs7 : Nat → Nat → (resSR 7 (by decide)).W := fun _ j => if j = 0 then (⟨3, by decide, by decide⟩ : Re 7) else (⟨5, by decide, by decide⟩ : Re 7)
theorem only7 {c : Nat → (resSR 7 (by decide)).W} (h : ∀ j, j < 2 → (resSR 7 (by decide)).zero = lin (resSR 7 (by decide)) c rs7 1 j) : Re.x (c 0) = 0 := by
  have e := congrArg Re.x (h 0 (by decide))
  have e : (0 : Int) = (0 + (Re.x (c 0) * 3).fmod 7).fmod 7 := e
  have a0 := Re.h0 (c 0)
  have a1 := Re.h1 (c 0)
  revert e a0 a1
  generalize Re.x (c 0) = z
  intro e a0 a1
  rcases (show z = 0 ∨ z = 1 ∨ z = 2 ∨ z = 3 ∨ z = 4 ∨ z = 5 ∨ z = 6 by omega) with h | h | h | h | h | h | h <;> subst h
  · rfl
  all_goals exact absurd e (by decide)
theorem one_eq {H : Hp} {p q : Addr} {Q : VK} (hp : H p = some (.lst [.int 0])) (hq : H q = some (.lst [.int 0])) (k : Q (.bl true) H) : rEqD K (.ref p) (.ref q) H Q :=
  ⟨_, _, .lst (SqL.of hp) (.cons (.int _) .nil), .lst (SqL.of hq) (.cons (.int _) .nil), rfl, rfl, rfl, k⟩
theorem nil_eq {H : Hp} {p q : Addr} {Q : VK} (hp : H p = some (.lst [])) (hq : H q = some (.lst [])) (k : Q (.bl true) H) : rEqD K (.ref p) (.ref q) H Q :=
  ⟨_, _, .lst (SqL.of hp) .nil, .lst (SqL.of hq) .nil, rfl, rfl, rfl, k⟩
theorem iteD {b : Bool} {A B : Prop} (h1 : b = true → A) (h2 : b = false → B) : if b = true then A else B := by
  cases b with
  | true => exact h1 rfl
  | false => exact h2 rfl
theorem p7 : isP 7 = true := p_check 7 3 (by decide) (by decide) (by decide +kernel)
theorem WK.samx {a : Addr} {H H' : Hp} {kv : V} (h : WK w K mg base H kv) (s : SameX a H H') (d : Dr H a) : WK w K mg base H' kv := by
  obtain ⟨kp, C, dx, fs, f, fd, e, h1, r⟩ := h
  refine ⟨kp, C, dx, fs, f, fd, e, s _ _ (fun z => ?_) h1, r⟩
  obtain ⟨xs, zz⟩ := d.lst
  rw [← z, h1] at zz; cases zz
def WKN (b : Addr) (_ : Hp) (kv : V) : Prop := ∀ o, kv = .ref o → o ≠ b
theorem WK.put {b : Addr} {H H0 : Hp} {kv : V} {o : HO} (h : WK w K mg base H kv) (n : WKN b H0 kv) : WK w K mg base (upd H b o) kv := by
  obtain ⟨kp, C, dx, fs, f, fd, rfl, h1, r⟩ := h
  exact ⟨kp, C, dx, fs, f, fd, rfl, by rw [upd_ne (n _ rfl)]; exact h1, r⟩
theorem Asks.tab {P : Addr} {ps qs : Array Value} {H : Hp} {kv yv mv : V} (h : Asks w K mg base H kv yv mv) (hP : H P = some (.tbl ps)) : Asks w K mg base (upd H P (.tbl qs)) kv yv mv := by
  obtain ⟨h1, ⟨yp, us, e1, h2⟩, ⟨mp, x, y, z, u, e2, h3⟩⟩ := h
  refine ⟨h1.put (H0 := H) fun o e => ?_, ⟨yp, us, e1, by rw [upd_ne (ne_of h2 hP (by simp))]; exact h2⟩, ⟨mp, x, y, z, u, e2, by rw [upd_ne (ne_of h3 hP (by simp))]; exact h3⟩⟩
  obtain ⟨kp, C, dx, fs, f, fd, rfl, h4, r⟩ := h1
  cases e
  exact ne_of h4 hP (by simp)
theorem ok_law (T : Txt K mg t) (hTb : Tb mg base t.c_law t.P_law) : FnOk Pr w K mg base CX0 50 t.law t.d_law ["_law_script"] (sp_law K) := by
  refine T.F_law.okC sc_law T.tb_law T.ns_law (fun vs H Q E h => ?_) (fun A outer s H vs Q E hr h => ?_)
  · obtain ⟨a, ns, rfl, _⟩ := h
    rfl
  · obtain ⟨a0, ns, rfl, hS0, hlen, hP, k⟩ := h
    have hP := hP _ _ T.tb_law
    have sl : 10000 < sizeLine := by decide
    refine ⟨_, (pss_cons (ps_set (i := 1) sc_law.nd rfl (Or.inr rfl) (pe_call (ok_law_state T) hr.m rfl T.m_law_state T.F_law_state.kp T.b_law_state .nil pass0 (pa_cons (pv 0) pa_nil))) (pss_cons (ps_set (i := 2) sc_law.nd rfl (Or.inr rfl) (pe_cmpR op_eq (pe_call (ok_law_next T) hr.m rfl T.m_law_next T.F_law_next.kp T.b_law_next .nil pass0 (pa_cons (pv 1) (pa_cons pe_int pa_nil))) pe_int (nomark _))) (pss_cons (ps_set (i := 3) sc_law.nd rfl (Or.inl rfl) (pe_makeO T.M_Costs rfl T.m_Costs)) (pss_cons (ps_if (pt_val (pv 2)) (pss_one (ps_set (i := 3) sc_law.nd rfl (Or.inl rfl) (pe_makeO T.M_Truths rfl T.m_Truths))) pss_nil) (pss_cons (ps_set (i := 4) sc_law.nd rfl (Or.inl rfl) (pe_op op_add pe_int (pe_call (ok_law_next T) hr.m rfl T.m_law_next T.F_law_next.kp T.b_law_next .nil pass0 (pa_cons (pv 1) (pa_cons pe_int pa_nil))))) (pss_cons (ps_set (i := 5) sc_law.nd rfl (Or.inl rfl) (pe_lst pa_nil)) (pss_cons (ps_for PassesOwn.never rfl (pi_range1 rfl T.z_range (pa_cons (pe_call (ok_law_next T) hr.m rfl T.m_law_next T.F_law_next.kp T.b_law_next .nil pass0 (pa_cons (pv 1) (pa_cons pe_int pa_nil))) pa_nil)) (pg_name (i := 6) sc_law.nd rfl (Or.inl rfl)) (pss_one (ps_expr (pe_bm PySem.F.plainAttrs_list PySem.F.slot_list_append PySem.F.type_list_append mt_append (pv 5) (pa_cons (pe_callTy call_tuple_of (by rfl) T.z_tuple boot_tuple (pa_cons (pe_comp (xs := ["_law_j"]) rfl (show CompOk ["_law_script", "_law_state_here", "_law_truths", "_law_kind", "_law_wide", "_law_rows", "_law_k", "_law_row", "_law_machine_here", "_law_asked_here", "_law_ask", "_law_which"] (defScope s_law) _ from ⟨rfl, by decide +kernel, by decide +kernel, by decide +kernel, by decide +kernel, by decide +kernel⟩) (pi_range1 rfl T.z_range (pa_cons (pv 4) pa_nil)) (fun _ _ _ _ _ => (pg_name (i := 12) (by show List.Nodup (["_law_script", "_law_state_here", "_law_truths", "_law_kind", "_law_wide", "_law_rows", "_law_k", "_law_row", "_law_machine_here", "_law_asked_here", "_law_ask", "_law_which", "_law_j"] : List Str); decide +kernel) rfl (Or.inl rfl))) (fun _ _ _ _ _ => (pe_call (ok_law_weight (w := w) (base := base) T) hr.m rfl T.m_law_weight T.F_law_weight.kp T.b_law_weight .nil pass0 (pa_cons (pv 1) (pa_cons (pv 2) pa_nil))))) pa_nil)) pa_nil))))) (pss_cons (ps_set (i := 7) sc_law.nd rfl (Or.inr rfl) (pe_callTy call_tuple_of (by rfl) T.z_tuple boot_tuple (pa_cons (pe_comp (xs := ["_law_j"]) rfl (show CompOk ["_law_script", "_law_state_here", "_law_truths", "_law_kind", "_law_wide", "_law_rows", "_law_k", "_law_row", "_law_machine_here", "_law_asked_here", "_law_ask", "_law_which"] (defScope s_law) _ from ⟨rfl, by decide +kernel, by decide +kernel, by decide +kernel, by decide +kernel, by decide +kernel⟩) (pi_range1 rfl T.z_range (pa_cons (pv 4) pa_nil)) (fun _ _ _ _ _ => (pg_name (i := 12) (by show List.Nodup (["_law_script", "_law_state_here", "_law_truths", "_law_kind", "_law_wide", "_law_rows", "_law_k", "_law_row", "_law_machine_here", "_law_asked_here", "_law_ask", "_law_which", "_law_j"] : List Str); decide +kernel) rfl (Or.inl rfl))) (fun _ _ _ _ _ => (pe_call (ok_law_weight (w := w) (base := base) T) hr.m rfl T.m_law_weight T.F_law_weight.kp T.b_law_weight .nil pass0 (pa_cons (pv 1) (pa_cons (pv 2) pa_nil))))) pa_nil))) (pss_cons (ps_set (i := 8) sc_law.nd rfl (Or.inl rfl) (pe_call (ok_law_machine T) hr.m rfl T.m_law_machine T.F_law_machine.kp T.b_law_machine .nil pass0 (pa_cons (pv 1) (pa_cons (pv 2) pa_nil)))) (pss_cons (ps_set (i := 9) sc_law.nd rfl (Or.inr rfl) (pe_lst pa_nil)) (pss_cons (ps_def (i := 10) sc_law.nd rfl (Or.inl rfl) hTb rfl rfl rfl rfl (show ∀ y : Str × NameKind, y ∈ _ → y.2 = .free → (defScope s_law).names.lookup y.1 = some .cell ∨ (defScope s_law).names.lookup y.1 = some .free from by decide +kernel)) (pss_cons (ps_for PassesOwn.never rfl (pi_range1 rfl T.z_range (pa_cons pe_int pa_nil)) (pg_name (i := 11) sc_law.nd rfl (Or.inl rfl)) (pss_one (ps_if (pt_not (pt_val (pe_call (ok_law_refused T) hr.m rfl T.m_law_refused T.F_law_refused.kp T.b_law_refused .nil pass0 (pa_cons (pv 11) (pa_cons (pv 3) (pa_cons (pv 5) (pa_cons (pv 7) (pa_cons (pv 8) (pa_cons (pv 10) pa_nil))))))))) (pss_one (ps_ret pe_bl)) pss_nil))) (pss_one (ps_ret (pe_and (pe_cmpR (op_eqD hr.units) (pv 9) (pe_lst pa_nil) (nomark _)) (pe_one (pe_cmpR (op_eqD hr.units) (pe_call (ok_parts T) hr.m rfl T.m_parts T.F_parts.kp T.b_parts .nil pass0 (pa_cons (pe_make T.M_Residues (ok_Residues___init__ T) hr.m rfl T.m_Residues T.b_Residues___init__ .nil pass0 (pa_cons pe_int pa_nil)) (pa_cons (pe_lst (pa_cons (pe_tup (pa_cons pe_int (pa_cons pe_int pa_nil))) pa_nil)) (pa_cons (pe_tup (pa_cons pe_int (pa_cons pe_int pa_nil))) pa_nil)))) (pe_lst (pa_cons pe_int pa_nil)) (nomark _)))))))))))))))))), ?_⟩
    refine ⟨_, rfl, a0, ns, rfl, hS0, hlen, fun a H1 na s1 d1 => ?_⟩
    have pa : t.P_law ≠ a := ne_of_none hP na
    have hP := s1 _ _ hP
    refine ⟨_, rfl, a, 2, rfl, ⟨d1, by decide, by decide⟩, fun r2 H2 s2 d2 u2 w2 => ⟨rfl, ?_⟩⟩
    have hP := s2 _ _ pa hP
    generalize decide (V.int r2 = V.int 0) = g
    clear s1 s2 d1 na hS0
    show gName 2 (.bl g) [some (.ref a0), some (.ref a), none, none, none, none, none, none, none, none, none, none] H2 _
    intro x dx nx ndx nex
    have t3 := same_made (C := t.Costs) (fs := []) nx ndx
    have h3 : upd (upd H2 dx (.own x)) x (.ins t.Costs dx []) x = some (.ins t.Costs dx []) := upd_same
    revert t3 h3
    generalize upd (upd H2 dx (.own x)) x (.ins t.Costs dx []) = H3
    intro t3 h3
    have hP := t3 _ _ hP
    have d3 := d2.same t3
    clear t3 d2 nx ndx nex
    show gName 3 (.ref x) [some (.ref a0), some (.ref a), some (.bl g), none, none, none, none, none, none, none, none, none] H3 _
    have gP := ok_Picking_is_field (w := w) (base := base) T
    refine ⟨_, rfl, _, rfl, ?_⟩
    refine (fun (key : ∀ (kv : V) (H4 : Hp), Dr H4 a → H4 t.P_law = some (.tbl #[]) → WK w K mg base H4 kv → (?F : L2.St → Hp → Prop) [some (.ref a0), some (.ref a), some (.bl g), some kv, none, none, none, none, none, none, none, none] H4) => ?main) ?rest
    case main =>
      refine iteD (fun _ => ?_) (fun _ => ?_)
      · intro x2 dx2 nx ndx nex
        have t4 := same_made (C := t.Truths) (fs := []) nx ndx
        have dd := d3.same t4
        have pp := t4 _ _ hP
        have W : WK w K mg base (upd (upd H3 dx2 (.own x2)) x2 (.ins t.Truths dx2 [])) (.ref x2) := ⟨x2, t.Truths, dx2, [], _, _, rfl, upd_same, rfl, T.C_Truths, ⟨T.iT_is_field, T.t_Picking_is_field.2, T.t_Picking_is_field.3⟩, T.b_Picking_is_field, gP.mono (by decide)⟩
        show gName 3 (.ref x2) [some (.ref a0), some (.ref a), some (.bl g), some (.ref x), none, none, none, none, none, none, none, none] (upd (upd H3 dx2 (.own x2)) x2 (.ins t.Truths dx2 [])) _
        clear t4 nx ndx nex
        revert dd pp W
        generalize upd (upd H3 dx2 (.own x2)) x2 (.ins t.Truths dx2 []) = Hn
        generalize V.ref x2 = kn
        intro dd pp W
        exact key kn Hn dd pp W
      · exact key (.ref x) _ d3 hP ⟨x, t.Costs, dx, [], _, _, rfl, h3, rfl, T.C_Costs, ⟨T.iC_is_field, T.t_Picking_is_field.2, T.t_Picking_is_field.3⟩, T.b_Picking_is_field, gP.mono (by decide)⟩
    case rest =>
    intro kv H4 d4 hP4 hk4
    clear hP d3 h3
    refine ⟨_, rfl, a, 4, rfl, ⟨d4, by decide, by decide⟩, fun r5 H5 s5 d5 u5 w5 => ⟨_, _, rfl, rfl, ?_⟩⟩
    have hP5 := s5 _ _ pa hP4
    have hk5 : WK w K mg base H5 kv := hk4.samx s5 d4
    have w1 : 1 ≤ 1 + r5 ∧ 1 + r5 ≤ 4 := by omega
    show gName 4 (.int (1 + r5)) [some (.ref a0), some (.ref a), some (.bl g), some kv, none, none, none, none, none, none, none, none] H5 _
    revert w1
    generalize 1 + r5 = wd
    intro w1
    clear s5 hP4 hk4 d4
    show gName 4 (.int wd) [some (.ref a0), some (.ref a), some (.bl g), some kv, none, none, none, none, none, none, none, none] H5 _
    refine ⟨(by show 0 ≤ sizeLine; decide), fun rl nrl => ?_⟩
    have rla := d5.ne nrl
    have rlP : t.P_law ≠ rl := ne_of_none hP5 nrl
    have t6 := same_upd (o := .lst []) nrl
    have h6 : upd H5 rl (.lst []) rl = some (.lst []) := upd_same
    have hk6' := hk5.same t6
    have hk0 : WKN rl (upd H5 rl (.lst [])) kv := fun o e => by
      obtain ⟨kp, C, dx, fs, f, fd, rfl, h1, r⟩ := hk5
      cases e
      exact ne_of_none h1 nrl
    revert t6 h6 hk6' hk0
    generalize upd H5 rl (.lst []) = H6
    intro t6 h6 hk6 hk0
    have d6 := d5.same t6
    have hP6 := t6 _ _ hP5
    clear t6 d5 hP5 hk5 nrl
    show gName 5 (.ref rl) [some (.ref a0), some (.ref a), some (.bl g), some kv, some (.int wd), none, none, none, none, none, none, none] H6 _
    refine ⟨_, rfl, a, 4, rfl, ⟨d6, by decide, by decide⟩, fun r7 H7 s7 d7 u7 w7 => ?_⟩
    refine ⟨_, rfl, (by omega), (by omega), for_range (lo := 0) (n := r7.toNat) (fun j σ H8 => ∃ v6 ys, σ = [some (.ref a0), some (.ref a), some (.bl g), some kv, some (.int wd), some (.ref rl), v6, none, none, none, none, none] ∧ Dr H8 a ∧ H8 t.P_law = some (.tbl #[]) ∧ WK w K mg base H8 kv ∧ H8 rl = some (.lst ys) ∧ ys.length = j) ⟨_, [], rfl, d7, s7 _ _ pa hP6, hk6.samx s7 d6, s7 _ _ rla h6, rfl⟩ ?_ ?_⟩
    · rintro j σ H8 hj ⟨v6, ys, rfl, d8, hP8, hk8, h8, l8⟩
      refine ⟨_, rfl, .inl ⟨rfl, _, SqL.of h8⟩, ?_⟩
      refine ⟨_, rfl, _, rfl, (by omega), (by omega), comp_go (n := wd.toNat) (fun j us H9 => Dr H9 a ∧ H9 t.P_law = some (.tbl #[]) ∧ WK w K mg base H9 kv ∧ H9 rl = some (.lst ys) ∧ us.length = j) (by omega) ⟨d8, hP8, hk8, h8, rfl⟩ (fun _ _ _ q => q.2.2.2.2) ?_ ?_ ?_⟩
      · rintro j' us H9 hj' ⟨d9, hP9, hk9, h9, l9⟩
        refine ⟨(show j' < wd.toNat from hj'), fun y H' hy => ?_⟩
        obtain ⟨rfl, rfl⟩ := hy
        refine ⟨⟨[some _], rfl, rfl⟩, _, rfl, _, rfl, a, g, rfl, d9, fun v H10 s10 d10 => ?_⟩
        exact ⟨d10, s10 _ _ pa hP9, hk9.samx s10 d9, s10 _ _ rla h9, by rw [List.length_append, l9]; rfl⟩
      · rintro us H9 _
        show wd.toNat ≤ wd.toNat
        exact Nat.le_refl _
      · rintro us H9 l1 ⟨d9, hP9, hk9, h9, l9⟩ n1
        have t1 := same_upd (o := .lst us) n1
        refine ⟨l1, us, rfl, .inl ⟨SqL.of upd_same, fun l2 n2 => ?_⟩⟩
        have t12 := t1.trans (same_upd (o := .tup us) n2)
        refine ⟨_, _, _, rfl, rfl, t12 _ _ h9, (by rw [l8]; omega), ?_⟩
        exact ⟨_, ys ++ [.ref l2], rfl, (d9.same t12).put rla, by rw [upd_ne rlP]; exact t12 _ _ hP9, (hk9.same t12).put hk0, upd_same, by rw [List.length_append, l8]; rfl⟩
    · rintro σ H8 ⟨v6, ys, rfl, d8, hP8, hk8, h8, l8⟩
      clear h6 hk6 d6 hP6 s7 d7
      refine ⟨_, rfl, _, rfl, (by omega), (by omega), comp_go (n := wd.toNat) (fun j us H9 => Dr H9 a ∧ H9 t.P_law = some (.tbl #[]) ∧ WK w K mg base H9 kv ∧ us.length = j) (by omega) ⟨d8, hP8, hk8, rfl⟩ (fun _ _ _ q => q.2.2.2) ?_ ?_ ?_⟩
      · rintro j' us H9 hj' ⟨d9, hP9, hk9, l9⟩
        refine ⟨(show j' < wd.toNat from hj'), fun y H' hy => ?_⟩
        obtain ⟨rfl, rfl⟩ := hy
        refine ⟨⟨[some _], rfl, rfl⟩, _, rfl, _, rfl, a, g, rfl, d9, fun v H10 s10 d10 => ?_⟩
        exact ⟨d10, s10 _ _ pa hP9, hk9.samx s10 d9, by rw [List.length_append, l9]; rfl⟩
      · rintro us H9 _
        show wd.toNat ≤ wd.toNat
        exact Nat.le_refl _
      · rintro us H9 l1 ⟨d9, hP9, hk9, l9⟩ n1
        have t1 := same_upd (o := .lst us) n1
        refine ⟨l1, us, rfl, .inl ⟨SqL.of upd_same, fun yp n2 => ?_⟩⟩
        have t12 := t1.trans (same_upd (o := .tup us) n2)
        have hy : upd (upd H9 l1 (.lst us)) yp (.tup us) yp = some (.tup us) := upd_same
        revert t12 hy
        generalize upd (upd H9 l1 (.lst us)) yp (.tup us) = H10
        intro t12 hy
        have d10 := d9.same t12
        have hP10 := t12 _ _ hP9
        have hk10 := hk9.same t12
        clear t1 t12 d9 hP9 hk9 n1 n2 d8 hP8 hk8 h8
        show gName 7 (.ref yp) [some (.ref a0), some (.ref a), some (.bl g), some kv, some (.int wd), some (.ref rl), v6, none, none, none, none, none] H10 _
        refine ⟨_, rfl, _, rfl, a, g, rfl, d10, fun mp m1 m2 m3 m4 H11 s11 d11 hm => ?_⟩
        have hP11 := s11 _ _ pa hP10
        have hk11 := hk10.samx s11 d10
        have hy11 := (s11.tt d10) _ _ hy
        show gName 8 (.ref mp) [some (.ref a0), some (.ref a), some (.bl g), some kv, some (.int wd), some (.ref rl), v6, some (.ref yp), none, none, none, none] H11 _
        refine ⟨(by show 0 ≤ sizeLine; decide), fun al nal => ?_⟩
        have alP : t.P_law ≠ al := ne_of_none hP11 nal
        have t12 := same_upd (o := .lst []) nal
        have h12 : upd H11 al (.lst []) al = some (.lst []) := upd_same
        revert t12 h12
        generalize upd H11 al (.lst []) = H12
        intro t12 h12
        have hP12 := t12 _ _ hP11
        have hA : Asks w K mg base H12 kv (.ref yp) (.ref mp) := ⟨hk11.same t12, ⟨_, _, rfl, t12 _ _ hy11⟩, ⟨_, _, _, _, _, rfl, t12 _ _ hm⟩⟩
        clear hP11 hk11 hy11 d11 s11 hP10 hk10 d10 hy t12 nal
        show gName 9 (.ref al) [some (.ref a0), some (.ref a), some (.bl g), some kv, some (.int wd), some (.ref rl), v6, some (.ref yp), some (.ref mp), none, none, none] H12 _
        refine ⟨#[], hP12, trivial, rfl, fun f qs => ?_⟩
        have hA13 := hA.tab (qs := #[] ++ qs) hP12
        have h13 : upd H12 t.P_law (.tbl (#[] ++ qs)) al = some (.lst []) := by rw [upd_ne (Ne.symm alP)]; exact h12
        revert hA13 h13
        generalize upd H12 t.P_law (.tbl (#[] ++ qs)) = H13
        intro hA13 h13
        clear hA h12 hP12
        show (_ : L2.St → Hp → Prop) [some (.ref a0), some (.ref a), some (.bl g), some kv, some (.int wd), some (.ref rl), v6, some (.ref yp), some (.ref mp), some (.ref al), some (.ref f), none] H13
        refine ⟨_, rfl, (by decide), (by decide), for_range (lo := 0) (n := (9 : Int).toNat) (fun j σ H14 => ∃ v11, σ = [some (.ref a0), some (.ref a), some (.bl g), some kv, some (.int wd), some (.ref rl), v6, some (.ref yp), some (.ref mp), some (.ref al), some (.ref f), v11] ∧ Same H13 H14) ⟨_, rfl, Same.refl _⟩ ?_ ?_⟩
        · rintro j σ H14 hj ⟨v11, rfl, q14⟩
          have hj : j < 9 := hj
          refine ⟨_, rfl, _, rfl, _, rfl, _, rfl, _, rfl, _, rfl, _, kv, _, _, _, _, rfl, ⟨hA13.same q14, by omega, by omega⟩, fun H15 s15 => ⟨_, rfl, ?_⟩⟩
          (try refine iteF ?_)
          exact ⟨_, rfl, q14.trans s15⟩
        · rintro σ H14 ⟨v11, rfl, q14⟩
          refine ⟨_, rfl, (by show 0 ≤ sizeLine; decide), fun el nel => ?_⟩
          have t15 := same_upd (o := .lst []) nel
          refine nil_eq (t15 _ _ (q14 _ _ h13)) upd_same ?_
          refine ⟨_, rfl, ?_⟩
          refine iteT ?_
          generalize upd H14 el (.lst []) = H15
          refine fun x dx nx ndx nex => ⟨x, dx, _, rfl, ⟨by decide, by decide, p7⟩, upd_same, rfl, ?_⟩
          rw [upd_upd]
          have hk : KAt t.Residues (pfs 7) (upd (upd H15 dx (.own x)) x (.ins t.Residues dx (pfs 7))) (.ref x) := ⟨_, _, rfl, upd_same⟩
          revert hk
          generalize upd (upd H15 dx (.own x)) x (.ins t.Residues dx (pfs 7)) = H16
          intro hk
          refine ⟨(by show 2 ≤ sizeLine; decide), fun p np => ⟨(by show 1 ≤ sizeLine; decide), fun lp nl => ?_⟩⟩
          have t17 := same_upd (o := .tup [.int 3, .int 5]) np
          have t18 := same_upd (o := .lst [.ref p]) nl
          have hp := t18 _ _ (upd_same (H := H16) (a := p) (o := .tup [.int 3, .int 5]))
          have hl : upd (upd H16 p (.tup [.int 3, .int 5])) lp (.lst [.ref p]) lp = some (.lst [.ref p]) := upd_same
          have hk := hk.same (t17.trans t18)
          revert hp hl hk
          generalize upd (upd H16 p (.tup [.int 3, .int 5])) lp (.lst [.ref p]) = H18
          intro hp hl hk
          refine ⟨(by show 2 ≤ sizeLine; decide), fun yp ny => ?_⟩
          have t19 := same_upd (o := .tup [.int 0, .int 0]) ny
          have hy : upd H18 yp (.tup [.int 0, .int 0]) yp = some (.tup [.int 0, .int 0]) := upd_same
          have hp := t19 _ _ hp
          have hl := t19 _ _ hl
          have hk := hk.same t19
          revert hp hl hk hy
          generalize upd H18 yp (.tup [.int 0, .int 0]) = H19
          intro hy hp hl hk
          refine ⟨R_re (w := w) (base := base) T 7 (by decide) (by decide) p7, .ref x, .ref lp, .ref yp, 2, 1, 1, rs7, fun _ => (resSR 7 (by decide)).zero, rfl, ⟨hk, ⟨lp, _, rfl, hl, rfl, fun j hj => ?_⟩, ⟨yp, _, rfl, hy, rfl, fun j hj => ?_⟩, by decide, by decide, by decide, .inl (by decide)⟩, fun ns => absurd spn_zero ns, fun rp us H20 c s20 hr' e hc => ?_⟩
          · obtain rfl : j = 0 := by omega
            refine ⟨_, rfl, p, _, rfl, hp, rfl, fun j hj => ?_⟩
            rcases (show j = 0 ∨ j = 1 by omega) with rfl | rfl
            · exact ⟨_, rfl, rfl, trivial⟩
            · exact ⟨_, rfl, rfl, trivial⟩
          · rcases (show j = 0 ∨ j = 1 by omega) with rfl | rfl
            · exact ⟨_, rfl, rfl, trivial⟩
            · exact ⟨_, rfl, rfl, trivial⟩
          · obtain ⟨u0, g0, i0, _⟩ := e.2 0 (by decide)
            have i0 : u0 = .int (Re.x (c 0)) := i0
            rw [only7 hc] at i0
            have eu : us = [.int 0] := by
              have e1 := e.1
              match us, e1, g0 with
              | [z], _, g0 => cases g0; rw [i0]
            subst eu
            refine ⟨(by show 1 ≤ sizeLine; decide), fun q nq => ?_⟩
            exact one_eq ((same_upd nq) _ _ hr') upd_same (k _)
theorem law_binds (T : Txt K mg t) : ∀ (s : Shared) (u : Value), BindsTo s t.d_law ⟨[u], []⟩ [("_law_script", u)] := by
  obtain ⟨oc, od, kV, doc, pm, an, cdv, ct, osl, e, _, _⟩ := T.F_law.ex
  rw [e]
  exact fun s u => .of_eq rfl
--LAST
end
abbrev NS (K : PySem.W.Frag) (x : Str) (a : Addr) : Prop := PySem.W.nsIn K mainGlobals x = some (some (.ref a))
abbrev KI (K : PySem.W.Frag) (a : Addr) : Prop := PySem.W.keepIn K (.ref a) = true
abbrev FX (K : PySem.W.Frag) (n q : Str) (s : Stmt) (a : Addr) : Prop := ∃ d, Fun K n q s a d
theorem fx {K : PySem.W.Frag} {x q : Str} {s : Stmt} {f : Addr} {b : Value} {u v : Option Addr} {w : Array (Option Value)} {c d e g j : Value} (l : K.lookup f = some ⟨b, u, .func (PySem.W.fnOf x q (defArgs s) (defBody s) (defScope s) .none c d e v g j), w⟩) (h : PySem.W.codeIn K g q = true) (k : KI K f) : FX K x q s f := ⟨_, fun_mk l h k⟩
theorem bn1 {K : PySem.W.Frag} {x q : Str} {s : Stmt} {f : Addr} {fd : FuncData} {p0 : Str} (F : Fun K x q s f fd) (h : ∀ (c d e : Value) (v : Option Addr) (g j : Value) (u0 : Value), bindArgs (PySem.W.fnOf x q (defArgs s) (defBody s) (defScope s) .none c d e v g j) ⟨[u0], []⟩ = pure (([p0] : List Str).zip [u0]) := by intros; rfl) : Binds K fd [p0] [] := F.binds fun c d e v g j us hl => match us, hl with | [u0], _ => h c d e v g j u0
theorem bn2 {K : PySem.W.Frag} {x q : Str} {s : Stmt} {f : Addr} {fd : FuncData} {p0 p1 : Str} (F : Fun K x q s f fd) (h : ∀ (c d e : Value) (v : Option Addr) (g j : Value) (u0 u1 : Value), bindArgs (PySem.W.fnOf x q (defArgs s) (defBody s) (defScope s) .none c d e v g j) ⟨[u0, u1], []⟩ = pure (([p0, p1] : List Str).zip [u0, u1]) := by intros; rfl) : Binds K fd [p0, p1] [] := F.binds fun c d e v g j us hl => match us, hl with | [u0, u1], _ => h c d e v g j u0 u1
theorem bn3 {K : PySem.W.Frag} {x q : Str} {s : Stmt} {f : Addr} {fd : FuncData} {p0 p1 p2 : Str} (F : Fun K x q s f fd) (h : ∀ (c d e : Value) (v : Option Addr) (g j : Value) (u0 u1 u2 : Value), bindArgs (PySem.W.fnOf x q (defArgs s) (defBody s) (defScope s) .none c d e v g j) ⟨[u0, u1, u2], []⟩ = pure (([p0, p1, p2] : List Str).zip [u0, u1, u2]) := by intros; rfl) : Binds K fd [p0, p1, p2] [] := F.binds fun c d e v g j us hl => match us, hl with | [u0, u1, u2], _ => h c d e v g j u0 u1 u2
theorem bn4 {K : PySem.W.Frag} {x q : Str} {s : Stmt} {f : Addr} {fd : FuncData} {p0 p1 p2 p3 : Str} (F : Fun K x q s f fd) (h : ∀ (c d e : Value) (v : Option Addr) (g j : Value) (u0 u1 u2 u3 : Value), bindArgs (PySem.W.fnOf x q (defArgs s) (defBody s) (defScope s) .none c d e v g j) ⟨[u0, u1, u2, u3], []⟩ = pure (([p0, p1, p2, p3] : List Str).zip [u0, u1, u2, u3]) := by intros; rfl) : Binds K fd [p0, p1, p2, p3] [] := F.binds fun c d e v g j us hl => match us, hl with | [u0, u1, u2, u3], _ => h c d e v g j u0 u1 u2 u3
theorem bn6 {K : PySem.W.Frag} {x q : Str} {s : Stmt} {f : Addr} {fd : FuncData} {p0 p1 p2 p3 p4 p5 : Str} (F : Fun K x q s f fd) (h : ∀ (c d e : Value) (v : Option Addr) (g j : Value) (u0 u1 u2 u3 u4 u5 : Value), bindArgs (PySem.W.fnOf x q (defArgs s) (defBody s) (defScope s) .none c d e v g j) ⟨[u0, u1, u2, u3, u4, u5], []⟩ = pure (([p0, p1, p2, p3, p4, p5] : List Str).zip [u0, u1, u2, u3, u4, u5]) := by intros; rfl) : Binds K fd [p0, p1, p2, p3, p4, p5] [] := F.binds fun c d e v g j us hl => match us, hl with | [u0, u1, u2, u3, u4, u5], _ => h c d e v g j u0 u1 u2 u3 u4 u5
theorem txt_mk {K : PySem.W.Frag} {h : Heap} {mg : Str → Option Value} (X : K.In h) (G : h.Ns mainGlobals mg) {A0 A1 A2 A3 A4 A5 A6 A7 A8 A9 A10 A11 A12 A13 A14 A15 A16 A17 A18 A19 A20 A21 A22 A23 A24 A25 A26 A27 A28 A29 A30 A31 A32 A33 A34 A35 A36 A37 A38 A39 A40 A41 A42 A43 A44 A45 A46 A47 A48 A49 A50 A51 A52 A53 A54 A55 c_law P_law : Addr}
 (N0 : NS K "Residues" A0)
 (pg0 : PySem.W.plainGet K A0 Str.empty = true)
 (hd0 : PySem.W.hasDictIn K A0 = true)
 (po0 : PySem.W.plainOver K A0 = true)
 (sa0 : PySem.W.findIn K (.ref A0) "__setattr__" = some (some (.builtin "object.__setattr__")))
 (mk0 : PySem.W.makesIn K A0 = true)
 (kp0 : KI K A0)
 (N1 : NS K "Field" A1)
 (pg1 : PySem.W.plainGet K A1 Str.empty = true)
 (hd1 : PySem.W.hasDictIn K A1 = true)
 (po1 : PySem.W.plainOver K A1 = true)
 (sa1 : PySem.W.findIn K (.ref A1) "__setattr__" = some (some (.builtin "object.__setattr__")))
 (mk1 : PySem.W.makesIn K A1 = true)
 (kp1 : KI K A1)
 (in1 : PySem.W.findIn K (.ref A1) "__init__" = some (some (.builtin "object.__init__")))
 (N2 : NS K "Costs" A2)
 (pg2 : PySem.W.plainGet K A2 Str.empty = true)
 (hd2 : PySem.W.hasDictIn K A2 = true)
 (po2 : PySem.W.plainOver K A2 = true)
 (sa2 : PySem.W.findIn K (.ref A2) "__setattr__" = some (some (.builtin "object.__setattr__")))
 (mk2 : PySem.W.makesIn K A2 = true)
 (kp2 : KI K A2)
 (in2 : PySem.W.findIn K (.ref A2) "__init__" = some (some (.builtin "object.__init__")))
 (N3 : NS K "Truths" A3)
 (pg3 : PySem.W.plainGet K A3 Str.empty = true)
 (hd3 : PySem.W.hasDictIn K A3 = true)
 (po3 : PySem.W.plainOver K A3 = true)
 (sa3 : PySem.W.findIn K (.ref A3) "__setattr__" = some (some (.builtin "object.__setattr__")))
 (mk3 : PySem.W.makesIn K A3 = true)
 (kp3 : KI K A3)
 (in3 : PySem.W.findIn K (.ref A3) "__init__" = some (some (.builtin "object.__init__")))
 (N4 : NS K "Picking" A4)
 (pg4 : PySem.W.plainGet K A4 Str.empty = true)
 (hd4 : PySem.W.hasDictIn K A4 = true)
 (po4 : PySem.W.plainOver K A4 = true)
 (sa4 : PySem.W.findIn K (.ref A4) "__setattr__" = some (some (.builtin "object.__setattr__")))
 (mk4 : PySem.W.makesIn K A4 = true)
 (kp4 : KI K A4)
 (in4 : PySem.W.findIn K (.ref A4) "__init__" = some (some (.builtin "object.__init__")))
 (N5 : NS K "WeighError" A5)
 (X5 : ExcK K A5)
 (N6 : NS K "WrongKind" A6)
 (X6 : ExcK K A6)
 (N7 : NS K "NoClosure" A7)
 (X7 : ExcK K A7)
 (N8 : NS K "NoKind" A8)
 (X8 : ExcK K A8)
 (N9 : NS K "NoName" A9)
 (X9 : ExcK K A9)
 (N10 : NS K "NoRow" A10)
 (X10 : ExcK K A10)
 (N11 : NS K "NoText" A11)
 (X11 : ExcK K A11)
 (N12 : NS K "NoWeight" A12)
 (X12 : ExcK K A12)
 (N13 : NS K "NoWord" A13)
 (X13 : ExcK K A13)
 (N14 : NS K "TooGreat" A14)
 (X14 : ExcK K A14)
 (N15 : NS K "Unlike" A15)
 (X15 : ExcK K A15)
 (n0 : NS K "is_whole" A16)
 (f0 : FX K "is_whole" "is_whole" s_is_whole A16)
 (n1 : NS K "is_prime" A17)
 (f1 : FX K "is_prime" "is_prime" s_is_prime A17)
 (n2 : PySem.W.findIn K (.ref A0) "__init__" = some (some (.ref A18)))
 (i2 : PySem.W.isFn K (.ref A18) = true)
 (f2 : FX K "__init__" "Residues.__init__" s_Residues___init__ A18)
 (n3 : PySem.W.findIn K (.ref A0) "nought" = some (some (.ref A19)))
 (i3 : PySem.W.isFn K (.ref A19) = true)
 (f3 : FX K "nought" "Residues.nought" s_Residues_nought A19)
 (n4 : PySem.W.findIn K (.ref A0) "one" = some (some (.ref A20)))
 (i4 : PySem.W.isFn K (.ref A20) = true)
 (f4 : FX K "one" "Residues.one" s_Residues_one A20)
 (n5 : PySem.W.findIn K (.ref A0) "plus" = some (some (.ref A21)))
 (i5 : PySem.W.isFn K (.ref A21) = true)
 (f5 : FX K "plus" "Residues.plus" s_Residues_plus A21)
 (n6 : PySem.W.findIn K (.ref A0) "times" = some (some (.ref A22)))
 (i6 : PySem.W.isFn K (.ref A22) = true)
 (f6 : FX K "times" "Residues.times" s_Residues_times A22)
 (n7 : PySem.W.findIn K (.ref A1) "is_field" = some (some (.ref A23)))
 (i7 : PySem.W.isFn K (.ref A23) = true)
 (f7 : FX K "is_field" "Field.is_field" s_Field_is_field A23)
 (n8 : PySem.W.findIn K (.ref A4) "is_field" = some (some (.ref A24)))
 (i8 : PySem.W.isFn K (.ref A24) = true)
 (f8 : FX K "is_field" "Picking.is_field" s_Picking_is_field A24)
 (n9 : PySem.W.findIn K (.ref A0) "minus" = some (some (.ref A25)))
 (i9 : PySem.W.isFn K (.ref A25) = true)
 (f9 : FX K "minus" "Residues.minus" s_Residues_minus A25)
 (n10 : PySem.W.findIn K (.ref A0) "inverse" = some (some (.ref A26)))
 (i10 : PySem.W.isFn K (.ref A26) = true)
 (f10 : FX K "inverse" "Residues.inverse" s_Residues_inverse A26)
 (n11 : NS K "noughts" A27)
 (f11 : FX K "noughts" "noughts" s_noughts A27)
 (n12 : NS K "unit" A28)
 (f12 : FX K "unit" "unit" s_unit A28)
 (n13 : NS K "times_row" A29)
 (f13 : FX K "times_row" "times_row" s_times_row A29)
 (n14 : NS K "need_field" A30)
 (f14 : FX K "need_field" "need_field" s_need_field A30)
 (n15 : NS K "leading" A31)
 (f15 : FX K "leading" "leading" s_leading A31)
 (n16 : NS K "plus_row" A32)
 (f16 : FX K "plus_row" "plus_row" s_plus_row A32)
 (n17 : NS K "cleared" A33)
 (f17 : FX K "cleared" "cleared" s_cleared A33)
 (n18 : NS K "keep" A34)
 (f18 : FX K "keep" "keep" s_keep A34)
 (n19 : NS K "kept_rows" A35)
 (f19 : FX K "kept_rows" "kept_rows" s_kept_rows A35)
 (n20 : NS K "width_of" A36)
 (f20 : FX K "width_of" "width_of" s_width_of A36)
 (n21 : NS K "marked" A37)
 (f21 : FX K "marked" "marked" s_marked A37)
 (n22 : NS K "kept_marked" A38)
 (f22 : FX K "kept_marked" "kept_marked" s_kept_marked A38)
 (n23 : NS K "parts_by" A39)
 (f23 : FX K "parts_by" "parts_by" s_parts_by A39)
 (n24 : NS K "parts" A40)
 (f24 : FX K "parts" "parts" s_parts A40)
 (n25 : NS K "rank" A41)
 (f25 : FX K "rank" "rank" s_rank A41)
 (n26 : NS K "free" A42)
 (f26 : FX K "free" "free" s_free A42)
 (n27 : NS K "inverse_of" A43)
 (f27 : FX K "inverse_of" "inverse_of" s_inverse_of A43)
 (n28 : NS K "heads" A44)
 (f28 : FX K "heads" "heads" s_heads A44)
 (n29 : NS K "tails" A45)
 (f29 : FX K "tails" "tails" s_tails A45)
 (n30 : NS K "least" A46)
 (f30 : FX K "least" "least" s_least A46)
 (n31 : NS K "paper" A47)
 (f31 : FX K "paper" "paper" s_paper A47)
 (n32 : NS K "learnt" A48)
 (f32 : FX K "learnt" "learnt" s_learnt A48)
 (n33 : NS K "_law_next" A49)
 (f33 : FX K "_law_next" "_law_next" s_law_next A49)
 (n34 : NS K "_law_state" A50)
 (f34 : FX K "_law_state" "_law_state" s_law_state A50)
 (n35 : NS K "_law_weight" A51)
 (f35 : FX K "_law_weight" "_law_weight" s_law_weight A51)
 (n36 : NS K "_law_machine" A52)
 (f36 : FX K "_law_machine" "_law_machine" s_law_machine A52)
 (n37 : NS K "_law_asked" A53)
 (f37 : FX K "_law_asked" "_law_asked" s_law_asked A53)
 (n38 : NS K "_law_refused" A54)
 (f38 : FX K "_law_refused" "_law_refused" s_law_refused A54)
 (n39 : NS K "law" A55)
 (f39 : FX K "law" "law" s_law A55)
 (z_isinstance : PySem.W.nsIn K mainGlobals "isinstance" = some none)
 (z_int : PySem.W.nsIn K mainGlobals "int" = some none)
 (z_bool : PySem.W.nsIn K mainGlobals "bool" = some none)
 {tk_c_GREATEST_PRIME : Tok}
 (c_GREATEST_PRIME : PySem.W.nsIn K mainGlobals "GREATEST_PRIME" = some (some (.int 1000000 tk_c_GREATEST_PRIME)))
 (z_tuple : PySem.W.nsIn K mainGlobals "tuple" = some none)
 (z_range : PySem.W.nsIn K mainGlobals "range" = some none)
 (z_zip : PySem.W.nsIn K mainGlobals "zip" = some none)
 (z_len : PySem.W.nsIn K mainGlobals "len" = some none)
 (z_enumerate : PySem.W.nsIn K mainGlobals "enumerate" = some none)
 (z_ValueError : PySem.W.nsIn K mainGlobals "ValueError" = some none)
 (k_ii : PySem.W.kitOne K (.type "int") (.type "int") = some true)
 (k_ib : PySem.W.kitOne K (.type "int") (.type "bool") = some false)
 (k_tt : PySem.W.kitOne K (.type "tuple") (.type "tuple") = some true)
 (k_bb : PySem.W.kitOne K (.type "bool") (.type "bool") = some true)
 (nP : PySem.W.findIn K (.ref A0) "prime" = some none)
 (iR_is_field : PySem.W.findIn K (.ref A0) "is_field" = some (some (.ref A23)))
 (k_ll : PySem.W.kitOne K (.type "list") (.type "list") = some true)
 (iC_is_field : PySem.W.findIn K (.ref A2) "is_field" = some (some (.ref A24)))
 (iT_is_field : PySem.W.findIn K (.ref A3) "is_field" = some (some (.ref A24)))
 (eW : PySem.W.exmOne K (.ref A6) (.ref A5) = some true)
 (vW : PySem.W.kitOne K (.ref A6) (.type "ValueError") = some true)
 (kWW : PySem.W.kitOne K (.ref A6) (.ref A6) = some true)
 (kW1 : PySem.W.kitAny K (.ref A6) ([(.ref A7), (.ref A8), (.ref A9), (.ref A10), (.ref A11)]) = some false)
 (kW2 : PySem.W.kitAny K (.ref A6) ([(.ref A12), (.ref A13), (.ref A14), (.ref A15)]) = some false)
 (tb_law : PySem.W.tabIn K "law" = some (c_law, P_law))
 : ∃ t : Adr, Txt K mg t :=
 have M : ∀ {x : Str} {v : Value}, PySem.W.nsIn K mainGlobals x = some (some v) → mg x = some v := fun n => PySem.W.mg_of X G n
 have Z : ∀ {x : Str}, PySem.W.nsIn K mainGlobals x = some none → mg x = none := fun n => PySem.W.mg_none_of X G n
 have S : ∀ {n q : Str} {s : Stmt} {a : Addr} (f : FX K n q s a), Fun K n q s a f.choose := fun f => f.choose_spec
 ⟨{ is_whole := A16, d_is_whole := f0.choose, is_prime := A17, d_is_prime := f1.choose, Residues___init__ := A18, d_Residues___init__ := f2.choose, Residues_nought := A19, d_Residues_nought := f3.choose, Residues_one := A20, d_Residues_one := f4.choose, Residues_plus := A21, d_Residues_plus := f5.choose, Residues_times := A22, d_Residues_times := f6.choose, Field_is_field := A23, d_Field_is_field := f7.choose, Picking_is_field := A24, d_Picking_is_field := f8.choose, Residues_minus := A25, d_Residues_minus := f9.choose, Residues_inverse := A26, d_Residues_inverse := f10.choose, noughts := A27, d_noughts := f11.choose, unit := A28, d_unit := f12.choose, times_row := A29, d_times_row := f13.choose, need_field := A30, d_need_field := f14.choose, leading := A31, d_leading := f15.choose, plus_row := A32, d_plus_row := f16.choose, cleared := A33, d_cleared := f17.choose, keep := A34, d_keep := f18.choose, kept_rows := A35, d_kept_rows := f19.choose, width_of := A36, d_width_of := f20.choose, marked := A37, d_marked := f21.choose, kept_marked := A38, d_kept_marked := f22.choose, parts_by := A39, d_parts_by := f23.choose, parts := A40, d_parts := f24.choose, rank := A41, d_rank := f25.choose, free := A42, d_free := f26.choose, inverse_of := A43, d_inverse_of := f27.choose, heads := A44, d_heads := f28.choose, tails := A45, d_tails := f29.choose, least := A46, d_least := f30.choose, paper := A47, d_paper := f31.choose, learnt := A48, d_learnt := f32.choose, law_next := A49, d_law_next := f33.choose, law_state := A50, d_law_state := f34.choose, law_weight := A51, d_law_weight := f35.choose, law_machine := A52, d_law_machine := f36.choose, law_asked := A53, d_law_asked := f37.choose, law_refused := A54, d_law_refused := f38.choose, law := A55, d_law := f39.choose, Residues := A0, Field := A1, Costs := A2, Truths := A3, Picking := A4, WeighError := A5, WrongKind := A6, NoClosure := A7, NoKind := A8, NoName := A9, NoRow := A10, NoText := A11, NoWeight := A12, NoWord := A13, TooGreat := A14, Unlike := A15, c_law := c_law, P_law := P_law },
   { F_is_whole := S f0, b_is_whole := bn1 (S f0), m_is_whole := M n0, F_is_prime := S f1, b_is_prime := bn1 (S f1), m_is_prime := M n1, F_Residues___init__ := S f2, b_Residues___init__ := bn2 (S f2), t_Residues___init__ := ⟨n2, i2, (S f2).kp⟩, F_Residues_nought := S f3, b_Residues_nought := bn1 (S f3), t_Residues_nought := ⟨n3, i3, (S f3).kp⟩, F_Residues_one := S f4, b_Residues_one := bn1 (S f4), t_Residues_one := ⟨n4, i4, (S f4).kp⟩, F_Residues_plus := S f5, b_Residues_plus := bn3 (S f5), t_Residues_plus := ⟨n5, i5, (S f5).kp⟩, F_Residues_times := S f6, b_Residues_times := bn3 (S f6), t_Residues_times := ⟨n6, i6, (S f6).kp⟩, F_Field_is_field := S f7, b_Field_is_field := bn1 (S f7), t_Field_is_field := ⟨n7, i7, (S f7).kp⟩, F_Picking_is_field := S f8, b_Picking_is_field := bn1 (S f8), t_Picking_is_field := ⟨n8, i8, (S f8).kp⟩, F_Residues_minus := S f9, b_Residues_minus := bn2 (S f9), t_Residues_minus := ⟨n9, i9, (S f9).kp⟩, F_Residues_inverse := S f10, b_Residues_inverse := bn2 (S f10), t_Residues_inverse := ⟨n10, i10, (S f10).kp⟩, F_noughts := S f11, b_noughts := bn2 (S f11), m_noughts := M n11, F_unit := S f12, b_unit := bn3 (S f12), m_unit := M n12, F_times_row := S f13, b_times_row := bn3 (S f13), m_times_row := M n13, F_need_field := S f14, b_need_field := bn1 (S f14), m_need_field := M n14, F_leading := S f15, b_leading := bn3 (S f15), m_leading := M n15, F_plus_row := S f16, b_plus_row := bn3 (S f16), m_plus_row := M n16, F_cleared := S f17, b_cleared := bn3 (S f17), m_cleared := M n17, F_keep := S f18, b_keep := bn4 (S f18), m_keep := M n18, F_kept_rows := S f19, b_kept_rows := bn3 (S f19), m_kept_rows := M n19, F_width_of := S f20, b_width_of := bn1 (S f20), m_width_of := M n20, F_marked := S f21, b_marked := bn2 (S f21), m_marked := M n21, F_kept_marked := S f22, b_kept_marked := bn2 (S f22), m_kept_marked := M n22, F_parts_by := S f23, b_parts_by := bn4 (S f23), m_parts_by := M n23, F_parts := S f24, b_parts := bn3 (S f24), m_parts := M n24, F_rank := S f25, b_rank := bn2 (S f25), m_rank := M n25, F_free := S f26, b_free := bn2 (S f26), m_free := M n26, F_inverse_of := S f27, b_inverse_of := bn2 (S f27), m_inverse_of := M n27, F_heads := S f28, b_heads := bn2 (S f28), m_heads := M n28, F_tails := S f29, b_tails := bn2 (S f29), m_tails := M n29, F_least := S f30, b_least := bn2 (S f30), m_least := M n30, F_paper := S f31, b_paper := bn2 (S f31), m_paper := M n31, F_learnt := S f32, b_learnt := bn4 (S f32), m_learnt := M n32, F_law_next := S f33, b_law_next := bn2 (S f33), m_law_next := M n33, F_law_state := S f34, b_law_state := bn1 (S f34), m_law_state := M n34, F_law_weight := S f35, b_law_weight := bn2 (S f35), m_law_weight := M n35, F_law_machine := S f36, b_law_machine := bn2 (S f36), m_law_machine := M n36, F_law_asked := S f37, b_law_asked := bn6 (S f37), m_law_asked := M n37, F_law_refused := S f38, b_law_refused := bn6 (S f38), m_law_refused := M n38, F_law := S f39, b_law := bn1 (S f39), m_law := M n39, C_Residues := ⟨pg0, hd0, po0, sa0⟩, m_Residues := M N0, M_Residues := ⟨mk0, n2, i2, kp0⟩, C_Field := ⟨pg1, hd1, po1, sa1⟩, m_Field := M N1, M_Field := ⟨mk1, in1, kp1⟩, C_Costs := ⟨pg2, hd2, po2, sa2⟩, m_Costs := M N2, M_Costs := ⟨mk2, in2, kp2⟩, C_Truths := ⟨pg3, hd3, po3, sa3⟩, m_Truths := M N3, M_Truths := ⟨mk3, in3, kp3⟩, C_Picking := ⟨pg4, hd4, po4, sa4⟩, m_Picking := M N4, M_Picking := ⟨mk4, in4, kp4⟩, m_WeighError := M N5, x_WeighError := X5, m_WrongKind := M N6, x_WrongKind := X6, m_NoClosure := M N7, x_NoClosure := X7, m_NoKind := M N8, x_NoKind := X8, m_NoName := M N9, x_NoName := X9, m_NoRow := M N10, x_NoRow := X10, m_NoText := M N11, x_NoText := X11, m_NoWeight := M N12, x_NoWeight := X12, m_NoWord := M N13, x_NoWord := X13, m_TooGreat := M N14, x_TooGreat := X14, m_Unlike := M N15, x_Unlike := X15, z_isinstance := Z z_isinstance, z_int := Z z_int, z_bool := Z z_bool, c_GREATEST_PRIME := ⟨_, M c_GREATEST_PRIME⟩, z_tuple := Z z_tuple, z_range := Z z_range, z_zip := Z z_zip, z_len := Z z_len, z_enumerate := Z z_enumerate, z_ValueError := Z z_ValueError, k_ii := k_ii, k_ib := k_ib, k_tt := k_tt, k_bb := k_bb, nP := nP, iR_is_field := iR_is_field, k_ll := k_ll, iC_is_field := iC_is_field, iT_is_field := iT_is_field, eW := eW, vW := vW, kWW := kWW, kW1 := kW1, kW2 := kW2, tb_law := tb_law, ns_law := n39 }⟩
end K34
open PySem PySem.W PyProof.Rows
set_option maxRecDepth 100000 in
set_option maxHeartbeats 0 in
theorem PySem.Challenge.cw_weighwalk_k34_fields_alone_holds : PySem.Challenge.rw_weighwalk_k34_fields_alone.Holds := by
  w_on; o_law
  refine H34.holds_ (by assumption) ?hw ?hc
  (case hw => w_witness2)
  unfold H34.hook
  k_fill
  refine L2.walk_ofT (l := PySem.Challenge.rw_weighwalk_k34_fields_alone) (n := 63) (k := 50) (x := "_law_script") (CX := L2.CX0) (sp := K34.sp_law) ["law"] rfl (by decide) rfl ⟨rfl, by decide, by decide⟩ (by decide +kernel) (fun w h Y => PySem.W.kIn_of Y) ?NT ?RC ?F ?S ?C
  case NT => exact fun w => by kernel_rfl
  case RC => exact fun y hy => by cases List.mem_singleton.mp hy; kernel_rfl
  case F =>
    intro w mg fa h KX G hmg
    have T : ∃ t, K34.Txt (L2.KOf KX) mg t := by
      dsimp only [L2.KOf]
      refine' K34.txt_mk KX G (c_law := 827) (P_law := 825) ?_ ?_ ?_ ?_ ?_ ?_ ?_ ?_ ?_ ?_ ?_ ?_ ?_ ?_ ?_ ?_ ?_ ?_ ?_ ?_ ?_ ?_ ?_ ?_ ?_ ?_ ?_ ?_ ?_ ?_ ?_ ?_ ?_ ?_ ?_ ?_ ?_ ?_ ?_ ?_ ?X5 ?_ ?X6 ?_ ?X7 ?_ ?X8 ?_ ?X9 ?_ ?X10 ?_ ?X11 ?_ ?X12 ?_ ?X13 ?_ ?X14 ?_ ?X15 ?_ (K34.fx (H34.lk_is_whole _) ?_ ?_) ?_ (K34.fx (H34.lk_is_prime _) ?_ ?_) ?_ ?_ (K34.fx (H34.lk_Residues___init__ _) ?_ ?_) ?_ ?_ (K34.fx (H34.lk_Residues_nought _) ?_ ?_) ?_ ?_ (K34.fx (H34.lk_Residues_one _) ?_ ?_) ?_ ?_ (K34.fx (H34.lk_Residues_plus _) ?_ ?_) ?_ ?_ (K34.fx (H34.lk_Residues_times _) ?_ ?_) ?_ ?_ (K34.fx (H34.lk_Field_is_field _) ?_ ?_) ?_ ?_ (K34.fx (H34.lk_Picking_is_field _) ?_ ?_) ?_ ?_ (K34.fx (H34.lk_Residues_minus _) ?_ ?_) ?_ ?_ (K34.fx (H34.lk_Residues_inverse _) ?_ ?_) ?_ (K34.fx (H34.lk_noughts _) ?_ ?_) ?_ (K34.fx (H34.lk_unit _) ?_ ?_) ?_ (K34.fx (H34.lk_times_row _) ?_ ?_) ?_ (K34.fx (H34.lk_need_field _) ?_ ?_) ?_ (K34.fx (H34.lk_leading _) ?_ ?_) ?_ (K34.fx (H34.lk_plus_row _) ?_ ?_) ?_ (K34.fx (H34.lk_cleared _) ?_ ?_) ?_ (K34.fx (H34.lk_keep _) ?_ ?_) ?_ (K34.fx (H34.lk_kept_rows _) ?_ ?_) ?_ (K34.fx (H34.lk_width_of _) ?_ ?_) ?_ (K34.fx (H34.lk_marked _) ?_ ?_) ?_ (K34.fx (H34.lk_kept_marked _) ?_ ?_) ?_ (K34.fx (H34.lk_parts_by _) ?_ ?_) ?_ (K34.fx (H34.lk_parts _) ?_ ?_) ?_ (K34.fx (H34.lk_rank _) ?_ ?_) ?_ (K34.fx (H34.lk_free _) ?_ ?_) ?_ (K34.fx (H34.lk_inverse_of _) ?_ ?_) ?_ (K34.fx (H34.lk_heads _) ?_ ?_) ?_ (K34.fx (H34.lk_tails _) ?_ ?_) ?_ (K34.fx (H34.lk_least _) ?_ ?_) ?_ (K34.fx (H34.lk_paper _) ?_ ?_) ?_ (K34.fx (H34.lk_learnt _) ?_ ?_) ?_ (K34.fx (H34.lk__law_next _) ?_ ?_) ?_ (K34.fx (H34.lk__law_state _) ?_ ?_) ?_ (K34.fx (H34.lk__law_weight _) ?_ ?_) ?_ (K34.fx (H34.lk__law_machine _) ?_ ?_) ?_ (K34.fx (H34.lk__law_asked _) ?_ ?_) ?_ (K34.fx (H34.lk__law_refused _) ?_ ?_) ?_ (K34.fx (H34.lk_law _) ?_ ?_) ?_ ?_ ?_ ?_ ?_ ?_ ?_ ?_ ?_ ?_ ?k_ii ?k_ib ?k_tt ?k_bb ?_ ?_ ?k_ll ?_ ?_ ?eW ?vW ?kWW ?kW1 ?kW2 ?tb_law
      any_goals (show _ = _; k_is)
      (case X5 | X6 | X7 | X8 | X9 | X10 | X11 | X12 | X13 | X14 | X15 => exact ⟨by kernel_rfl, by kernel_rfl, by kernel_rfl, by kernel_rfl, by kernel_rfl, by kernel_rfl⟩)
      (case k_ii | k_ib | k_tt | k_bb | k_ll => kit_is)
      (case eW | vW | kWW | kW1 | kW2 | tb_law => kernel_rfl)
    obtain ⟨t, T⟩ := T
    have e0 := hmg.symm.trans T.m_law
    cases e0
    exact ⟨_, K34.law_binds T, fun base kb nb hT => K34.ok_law T (hT "law" (List.mem_singleton.mpr rfl) _ _ T.tb_law)⟩
  case S => exact fun K H a ns hl hT hS => ⟨a, ns, rfl, hS, hl, fun c P e => hT "law" (List.mem_singleton.mpr rfl) c P e, fun _ => rfl⟩
  case C => exact fun _ _ _ _ z => z
