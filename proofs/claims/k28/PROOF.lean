import PyProof.Rows.All
import Wide.All
import OpenK.AllK
import Wide.FinOn
import Lean
import PyProof.EqAt
import PyProof.EqKinds
import PyProof.TupleCall
import KE.KRevIter
import KE.KTryMore
import PySem.Challenge.RW_weighwalk_k28_whole_built
set_option Elab.async false
set_option linter.all false
set_option maxRecDepth 100000
namespace L2
open PySem PySem.Spec PyProof.Rows
abbrev Key:=Sum Int Str
def keyIs:Key→Value→Bool
  | .inl k,v=>Value.isInt k v
  | .inr x,v=>Value.isStrOf x v
def keyH(w:World):Key→Int
  | .inl k=>hashInt k
  | .inr x=>hashStr w x
theorem b0s:∀{k:Key} {v:Value},keyIs k v=true→(∃i t,k=Sum.inl i∧v=Value.int i t)∨(∃x t,k=Sum.inr x∧v=Value.str x t)
  | .inl i,v,h=>by
    obtain⟨t,e⟩:=Value.isInt_shape (k:=i) (v:=v) h
    exact .inl ⟨i,t,rfl,e⟩
  | .inr x,v,h=>by
    obtain⟨t,e⟩:=Value.isStrOf_shape (x:=x) (v:=v) h
    exact .inr ⟨x,t,rfl,e⟩
theorem keyIs_int(i:Int)(t:Tok):keyIs (.inl i) (.int i t)=true:=by simp[keyIs,Value.isInt]
theorem keyIs_str(x:Str)(t:Tok):keyIs (.inr x) (.str x t)=true:=by simp[keyIs,Value.isStrOf]
theorem key_ll(a b:Int):decide ((Sum.inl a:Key)=Sum.inl b)=(a == b):=by
  by_cases e:a=b
  · subst e;simp
  · have h:¬(Sum.inl a:Key)=Sum.inl b:=fun q=>e (Sum.inl.inj q)
    rw[decide_eq_false h]
    exact(beq_eq_false_iff_ne.mpr e).symm
theorem key_rr(a b:Str):decide ((Sum.inr a:Key)=Sum.inr b)=decide (a=b):=by
  by_cases e:a=b
  · subst e;simp
  · have h:¬(Sum.inr a:Key)=Sum.inr b:=fun q=>e (Sum.inr.inj q)
    rw[decide_eq_false h,decide_eq_false e]
theorem key_lr(a:Int)(b:Str):decide ((Sum.inl a:Key)=Sum.inr b)=false:=decide_eq_false (fun q=>nomatch q)
theorem key_rl(a:Str)(b:Int):decide ((Sum.inr a:Key)=Sum.inl b)=false:=decide_eq_false (fun q=>nomatch q)
def c0m(prog:Program)(w:World):PySem.KeyKind prog w Key where
  is:=keyIs
  hash:=keyH w
  inj:=fun v a b ha hb=>by
    rcases b0s ha with ⟨i,t,rfl,rfl⟩ | ⟨x,t,rfl,rfl⟩
    · rcases b0s hb with ⟨j,u,rfl,e⟩ | ⟨y,u,rfl,e⟩
      · injection e with e1 _;rw[e1]
      · exact nomatch e
    · rcases b0s hb with ⟨j,u,rfl,e⟩ | ⟨y,u,rfl,e⟩
      · exact nomatch e
      · injection e with e1 _;rw[e1]
  byValue:=fun k v h=>by
    rcases b0s h with ⟨i,t,rfl,rfl⟩ | ⟨x,t,rfl,rfl⟩ <;>rfl
  pyHash:=fun hv h=>by
    rcases b0s hv with ⟨i,t,rfl,rfl⟩ | ⟨x,t,rfl,rfl⟩
    · exact wpAny_pyHash_int h
    · exact wpAny_pyHash_str h
  eqBool:=fun hu hv h=>by
    rcases b0s hu with ⟨i,t,rfl,rfl⟩ | ⟨x,t,rfl,rfl⟩
    · rcases b0s hv with ⟨j,u,rfl,rfl⟩ | ⟨y,u,rfl,rfl⟩
      · rw[key_ll]at h;exact wpAny_eqBool_int h
      · rw[key_lr]at h;exact SeqAt.EqAt.int_str i t y u _ _ _ _ h
    · rcases b0s hv with ⟨j,u,rfl,rfl⟩ | ⟨y,u,rfl,rfl⟩
      · rw[key_rl]at h;exact SeqAt.EqAt.str_int x t j u _ _ _ _ h
      · rw[key_rr]at h;exact wpAny_eqBool_str h
  «strs»:=fun k x t v h=>by
    rcases b0s h with ⟨i,u,rfl,e⟩ | ⟨y,u,rfl,e⟩
    · exact nomatch e
    · injection e with e1 _
      subst e1
      cases v <;>rfl
theorem mixKind_int(prog:Program)(w:World)(i:Int)(t:Tok):(c0m prog w).is (.inl i) (.int i t)=true:=keyIs_int i t
theorem mixKind_str(prog:Program)(w:World)(x:Str)(t:Tok):(c0m prog w).is (.inr x) (.str x t)=true:=keyIs_str x t
end L2
namespace L2
open PySem PySem.Spec PyProof.Rows
inductive V where
  | non | bl (b:Bool) | int (i:Int) | str (x:Str) | byt (b:Array UInt8) | flt (b:UInt64) | ref (a:Addr) | ty (n:String)
  deriving DecidableEq
def RelV:V→Value→Prop
  | .non,u=>u=Value.none
  | .bl b,u=>u=Value.bool b
  | .int i,u=>∃t,u=Value.int i t
  | .str x,u=>∃t,u=Value.str x t
  | .byt b,u=>∃t,u=Value.bytes b t
  | .flt b,u=>∃t,u=Value.float b t
  | .ref a,u=>u=Value.ref a
  | .ty n,u=>u=Value.type n
abbrev Vals:List V→List Value→Prop:=Paired RelV
theorem Vals.length{xs:List V}{us:List Value}(r:Vals xs us):xs.length=us.length:=Paired.length r
theorem Vals.get:∀{xs:List V} {us:List Value} {i:Nat} {x:V},Vals xs us→xs[i]? = some x→∃u,us[i]? = some u∧RelV x u
  | _,_,_,_,.nil,e=>by simp at e
  | _,_,0,_,.cons r _,e=>by simp at e;subst e;exact⟨_,rfl,r⟩
  | _,_,i+1,x,.cons _ t,e=>by
    obtain⟨u,h1,h2⟩:=Vals.get (i:=i) (x:=x) t (by simpa using e)
    exact⟨u,by simpa using h1,h2⟩
theorem Vals.set{x:V}{u:Value}(r:RelV x u):∀{xs:List V} {us:List Value} (i:Nat),Vals xs us→Vals (xs.set i x) (us.set i u)
  | _,_,_,.nil=>.nil
  | _,_,0,.cons _ t=>.cons r t
  | _,_,i+1,.cons q t=>.cons q (Vals.set r i t)
theorem Vals.append:∀{xs ys:List V} {us ws:List Value},Vals xs us→Vals ys ws→Vals (xs++ys) (us++ws)
  | _,_,_,_,.nil,s=>s
  | _,_,_,_,.cons r t,s=>.cons r (Vals.append t s)
theorem Vals.take:∀{xs:List V} {us:List Value} (n:Nat),Vals xs us→Vals (xs.take n) (us.take n)
  | _,_,0,_=>.nil
  | _,_,_+1,.nil=>.nil
  | _,_,n+1,.cons r t=>.cons r (Vals.take n t)
theorem Vals.drop:∀{xs:List V} {us:List Value} (n:Nat),Vals xs us→Vals (xs.drop n) (us.drop n)
  | _,_,0,r=>r
  | _,_,_+1,.nil=>.nil
  | _,_,n+1,.cons _ t=>Vals.drop n t
theorem Vals.none_of:∀{xs:List V} {us:List Value} {i:Nat},Vals xs us→xs[i]? = none→us[i]? = none:=fun{xs us i} r e=>by
  have h1:=r.length
  have h2:xs.length≤i:=List.getElem?_eq_none_iff.mp e
  exact List.getElem?_eq_none_iff.mpr (by omega)
def RelO:Option V→Option Value→Prop
  | some v,some u=>RelV v u
  | none,none=>True
  | _,_=>False
def KV{κ:Type}:List (κ × V)→List (κ × Value)→Prop:=Paired fun(p:κ × V) (q:κ × Value)=>p.1=q.1∧RelV p.2 q.2
def kV:Key→V
  | .inl i=>.int i
  | .inr x=>.str x
inductive HO where
  | lst (xs:List V)
  | tup (xs:List V)
  | dK (kvs:List (Key × V)) | dT (kvs:List (List Key × V))
  | set (S:Int→Bool) (n:Nat)
  | ins (C dx:Addr) (fs:List (Str × V))
  | own (x:Addr)
  | xd (fs:List (Str × V))
  | met (f x:Addr)
  | rng (lo hi:Int)
  | frz (o:Obj) (u:HO)
  | tbl (ps:Array Value)
  | ext (φ:Heap→Prop)
abbrev Hp:=Addr→Option HO
def upd(H:Hp)(a:Addr)(o:HO):Hp:=fun b=>if b=a then some o else H b
theorem a0d{H:Hp}{a:Addr}{o:HO}:upd H a o a=some o:=by unfold upd;rw[if_pos rfl]
theorem b0b{H:Hp}{a b:Addr}{o:HO}(h:b≠a):upd H a o b=H b:=by unfold upd;rw[if_neg h]
theorem upd_upd{H:Hp}{a:Addr}{o u:HO}:upd (upd H a o) a u=upd H a u:=by
  funext b;unfold upd;split <;>rfl
theorem a0v{H:Hp}{a b:Addr}{o:HO}(h:H a=some o)(h':H b=none):a≠b:=by
  intro e;subst e;rw[h]at h';cases h'
section
variable(P:Program)(w:World)
def ObjOk(H:Hp)(h:Heap)(a:Addr):HO→Prop
  | .lst xs=>xs.length≤sizeLine∧∃(its:List Value) (n:Nat),Vals xs its∧h.get? a=some { cls:=.type "list",data:=.seq its.toArray n }
  | .tup xs=>xs.length≤sizeLine∧∃its:List Value,Vals xs its∧IsTup h a its.toArray∧((∀i y,xs≠[.int i,y])→∃o,h.get? a=some o∧o.dict=none)
  | .dK kvs=>kvs.length≤sizeLine∧(a == sysModules)=false∧∃vs,KV kvs vs∧h.DictOf (c0m P w) a vs
  | .dT kvs=>kvs.length≤sizeLine∧(a == sysModules)=false∧∃xs:List (List Key × Addr × Value),
      Paired (fun(p:List Key × V) (q:List Key × Addr × Value)=>p.1=q.1∧H q.2.1=some (.tup (p.1.map kV))∧RelV p.2 q.2.2) kvs xs∧
      ∃o es ep,h.get? a=some o∧o.ExactDict∧o.data=.dict es ep∧es.toList=xs.map (entryOfKey (tupleKind (c0m P w)))∧(xs.map (·.1)).Nodup
  | .set S n=>h.SetOf (intKind P w) a S n
  | .ins C dx fs=>H dx=some (.own a)∧fs.length≤1000∧dx≠a∧h.get? a=some (PySem.W.instObj C dx)∧
      ∃mA,h.Ns1 dx mA∧(∀f,RelO (fs.lookup f) (mA f))∧PySem.Within mA (fs.map (·.1))
  | .own _=>∃o,h.get? a=some o
  | .xd fs=>∃mA,h.Ns1 a mA∧∀f,RelO (fs.lookup f) (mA f)
  | .rng lo hi=>∃t u v,h.get? a=some { cls:=.type "range",data:=.fields #[.int lo t,.int hi u,.int 1 v] }
  | .frz o u=>h.get? a=some o∧ObjOk H h a u
  | .tbl ps=>h.get? a=some { cls:=.none,data:=.fields ps }
  | .met f x=>h.get? a=some (PySem.W.methodObj (.ref f) (.ref x))
  | .ext φ=>φ h∧(∃o,h.get? a=some o)∧∀h1 h2:Heap,φ h1→(∀o,h1.get? a=some o→h2.get? a=some o)→φ h2
def HOk(H:Hp)(h:Heap):Prop:=∀a o,H a=some o→ObjOk P w H h a o
end
section
variable{P:Program}{w:World}{H H':Hp}{h h':Heap}{a:Addr}{o:HO}
theorem ObjOk.lt(x:ObjOk P w H h a o):a < h.objs.size:=by
  cases o with
  | lst xs=>obtain⟨_,_,_,_,e⟩:=x;exact Heap.lt_size e
  | tup xs=>obtain⟨_,_,_,p,_⟩:=x;exact p.lt
  | dK kvs=>obtain⟨_,_,_,_,o,_,_,e,_⟩:=x;exact Heap.lt_size e
  | dT kvs=>obtain⟨_,_,_,_,o,_,_,e,_⟩:=x;exact Heap.lt_size e
  | set S n=>obtain⟨o,_,_,_,e,_⟩:=x;exact Heap.lt_size e
  | ins C dx fs=>obtain⟨_,_,_,e,_⟩:=x;exact Heap.lt_size e
  | own y=>obtain⟨_,e⟩:=x;exact Heap.lt_size e
  | xd fs=>obtain⟨_,⟨_,_,_,e,_⟩,_⟩:=x;exact Heap.lt_size e
  | rng lo hi=>obtain⟨_,_,_,e⟩:=x;exact Heap.lt_size e
  | frz ob u=>obtain⟨e,_⟩:=x;exact Heap.lt_size e
  | tbl ps=>exact Heap.lt_size (show h.get? a=some _ from x)
  | met f y=>exact Heap.lt_size (show h.get? a=some _ from x)
  | ext φ=>obtain⟨_,⟨_,e⟩,_⟩:=x;exact Heap.lt_size e
theorem Paired.mapP{α β:Type}{F G:α→β→Prop}:∀{l₁:List α} {l₂:List β},Paired F l₁ l₂→(∀a b,F a b→G a b)→Paired G l₁ l₂
  | _,_,.nil,_=>.nil
  | _,_,.cons r t,f=>.cons (f _ _ r) (Paired.mapP t f)
theorem ObjOk.stay(x:ObjOk P w H h a o)(k:∀b u,(b=a∨H b=some (.own a))→h.get? b=some u→h'.get? b=some u)
    (ho:∀b,H b=some (.own a)→H' b=some (.own a)) (ht:∀b xs,H b=some (.tup xs)→H' b=some (.tup xs)):ObjOk P w H' h' a o:=by
  induction o with
  | lst xs=>obtain⟨z,its,n,r,e⟩:=x;exact⟨z,its,n,r,k _ _ (.inl rfl) e⟩
  | tup xs=>obtain⟨z,its,r,⟨ob,e,c⟩,d⟩:=x;exact⟨z,its,r,⟨ob,k _ _ (.inl rfl) e,c⟩,fun nx=>let⟨o,e2,d2⟩:=d nx;⟨o,k _ _ (.inl rfl) e2,d2⟩⟩
  | dK kvs=>obtain⟨z,y,vs,r,ob,es,ep,e,c⟩:=x;exact⟨z,y,vs,r,ob,es,ep,k _ _ (.inl rfl) e,c⟩
  | dT kvs=>
    obtain⟨z,y,xs,r,ob,es,ep,e,c⟩:=x
    exact⟨z,y,xs,Paired.mapP r fun p q z=>⟨z.1,ht _ _ z.2.1,z.2.2⟩,ob,es,ep,k _ _ (.inl rfl) e,c⟩
  | set S n=>obtain⟨ob,es,ep,t,e,c⟩:=x;exact⟨ob,es,ep,t,k _ _ (.inl rfl) e,c⟩
  | ins C dx fs=>
    obtain⟨d,z,ne,e,mA,⟨od,es,ep,e2,c⟩,r⟩:=x
    exact⟨ho _ d,z,ne,k _ _ (.inl rfl) e,mA,⟨od,es,ep,k _ _ (.inr d) e2,c⟩,r⟩
  | own y=>obtain⟨ob,e⟩:=x;exact⟨ob,k _ _ (.inl rfl) e⟩
  | xd fs=>obtain⟨mA,⟨od,es,ep,e,c⟩,r⟩:=x;exact⟨mA,⟨od,es,ep,k _ _ (.inl rfl) e,c⟩,r⟩
  | rng lo hi=>obtain⟨t,u,v,e⟩:=x;exact⟨t,u,v,k _ _ (.inl rfl) e⟩
  | frz ob u ih=>obtain⟨e,q⟩:=x;exact⟨k _ _ (.inl rfl) e,ih q⟩
  | tbl ps=>
    have e:h.get? a=some { cls:=.none,data:=.fields ps }:=x
    show h'.get? a=some { cls:=.none,data:=.fields ps }
    exact k a _ (.inl rfl) e
  | met f y=>
    have e:h.get? a=some (PySem.W.methodObj (.ref f) (.ref y)):=x
    show h'.get? a=some (PySem.W.methodObj (.ref f) (.ref y))
    exact k a _ (.inl rfl) e
  | ext φ=>obtain⟨p,⟨o,e⟩,st⟩:=x;exact⟨st _ _ p fun o q=>k _ _ (.inl rfl) q,⟨o,k _ _ (.inl rfl) e⟩,st⟩
theorem HOk.lt(x:HOk P w H h)(e:H a=some o):a < h.objs.size:=(x a o e).lt
theorem HOk.fresh(x:HOk P w H h)(e:h.objs.size≤a):H a=none:=by
  cases q:H a with
  | none=>rfl
  | some u=>exact absurd (Nat.lt_of_lt_of_le (x.lt q) e) (Nat.lt_irrefl _)
theorem HOk.kept(x:HOk P w H h)(k:∀b u,h.get? b=some u→h'.get? b=some u):HOk P w H h':=fun a o e=>
  (x a o e).stay (fun b u _ q=>k b u q) (fun _ q=>q) fun _ _ q=>q
theorem HOk.laid(x:HOk P w H h)(k:∀b u,h.get? b=some u→h'.get? b=some u)(hp:h.objs.size≤a)(new:ObjOk P w (upd H a o) h' a o):HOk P w (upd H a o) h':=fun b u e=>by
  have hn:=x.fresh hp
  by_cases hb:b=a
  · subst hb;rw[a0d]at e;cases e;exact new
  · rw[b0b hb]at e
    exact(x b u e).stay (fun c v _ q=>k c v q) (fun c q=>by rw[b0b (a0v q hn)];exact q) fun c xs q=>by rw[b0b (a0v q hn)];exact q
end
def Rd(H:Hp)(a:Addr)(u:HO):Prop:=H a=some u∨∃o,H a=some (.frz o u)
theorem Rd.of{H:Hp}{a:Addr}{u:HO}(h:H a=some u):Rd H a u:=.inl h
theorem Rd.ok{P:Program}{w:World}{H:Hp}{h:Heap}{a:Addr}{u:HO}(r:Rd H a u)(x:HOk P w H h):ObjOk P w H h a u:=by
  rcases r with r | ⟨o,r⟩
  · exact x a u r
  · obtain⟨_,q⟩:=x a _ r
    exact q
def Mut:Option HO→Prop
  | some (.lst _)=>True
  | some (.dK _)=>True
  | some (.dT _)=>True
  | some (.set _ _)=>True
  | some (.ins _ _ _)=>True
  | some (.ext _)=>True
  | _=>False
section
variable{P:Program}{w:World}{H:Hp}{h h':Heap}{x e:Addr}{o':HO}
theorem HOk.write(ok:HOk P w H h)(mu:Mut (H x))(he:e=x∨H e=some (.own x))(k:∀b u,b≠e→h.get? b=some u→h'.get? b=some u)(heo:∃u,h'.get? e=some u)
    (new:ObjOk P w (upd H x o') h' x o'):HOk P w (upd H x o') h':=fun b u q=>by
  have nown:∀c y,H c=some (.own y)→c≠x:=fun c y r z=>by subst z;rw[r]at mu;exact mu
  have ntup:∀c xs,H c=some (.tup xs)→c≠x:=fun c xs r z=>by subst z;rw[r]at mu;exact mu
  by_cases hb:b=x
  · subst hb;rw[a0d]at q;cases q;exact new
  · rw[b0b hb]at q
    by_cases hbe:b=e
    · have q':H b=some (.own x):=by
        rcases he with z | z
        · exact absurd (hbe.trans z) hb
        · rw[hbe];exact z
      rw[q]at q';cases q'
      obtain⟨v,hv⟩:=heo
      exact⟨v,by rw[hbe];exact hv⟩
    · refine(ok b u q).stay (fun c v hc r=>k c v ?_ r) (fun c r=>by rw[b0b (nown c b r)];exact r) fun c xs r=>by rw[b0b (ntup c xs r)];exact r
      rcases hc with rfl | hc
      · exact hbe
      · rintro rfl
        rcases he with z | z
        · exact nown c b hc z
        · rw[hc]at z;cases z;exact hb rfl
end
structure Un(fs ex:List Addr)(H H':Hp)(h h':Heap):Prop where
  keep:∀b o,h.get? b=some o→H b=none→b ∉ fs→b ∉ ex→h'.get? b=some o
  slot:∀b o,h.get? b=some o→H b=none→b∈fs→b ∉ ex→∃sl,h'.get? b=some { o with slots:=sl }
  free:∀b o,h.get? b=some o→H b=none→b ∉ ex→H' b=none
  there:∀b o,h.get? b=some o→b ∉ ex→∃o',h'.get? b=some o'
  tups:∀b xs,H b=some (.tup xs)→H' b=some (.tup xs)
  frzs:∀b o u,H b=some (.frz o u)→H' b=some (.frz o u)
  tbls:∀b ps,H b=some (.tbl ps)→∃more,H' b=some (.tbl (ps++more))
section
variable{fs fs' ex ex':List Addr}{H H1 H2:Hp}{h h1 h2 h':Heap}{a x e:Addr}{o:HO}
theorem Un.any(u:Un fs ex H H1 h h1){b:Addr}{ob:Obj}(q:h.get? b=some ob)(n:H b=none)(hx:b ∉ ex):∃sl,h1.get? b=some { ob with slots:=sl }:=by
  by_cases hb:b∈fs
  · exact u.slot b ob q n hb hx
  · exact⟨ob.slots,u.keep b ob q n hb hx⟩
theorem Un.trans(a:Un fs ex H H1 h h1)(b:Un fs ex H1 H2 h1 h2):Un fs ex H H2 h h2 where
  keep:=fun c ob q n hc hx=>b.keep c ob (a.keep c ob q n hc hx) (a.free c ob q n hx) hc hx
  slot:=fun c ob q n hc hx=>by
    obtain⟨sl,e1⟩:=a.slot c ob q n hc hx
    obtain⟨sl',e2⟩:=b.slot c _ e1 (a.free c ob q n hx) hc hx
    exact⟨sl',e2⟩
  free:=fun c ob q n hx=>by
    obtain⟨o',e1⟩:=a.there c ob q hx
    exact b.free c o' e1 (a.free c ob q n hx) hx
  there:=fun c ob q hx=>by
    obtain⟨o',e1⟩:=a.there c ob q hx
    exact b.there c o' e1 hx
  tups:=fun c xs q=>b.tups c xs (a.tups c xs q)
  frzs:=fun c ob xs q=>b.frzs c ob xs (a.frzs c ob xs q)
  tbls:=fun c ps q=>by
    obtain⟨m1,e1⟩:=a.tbls c ps q
    obtain⟨m2,e2⟩:=b.tbls c _ e1
    exact⟨m1++m2,by rw[e2,Array.append_assoc]⟩
theorem Un.kept(k:∀b u,h.get? b=some u→h'.get? b=some u):Un fs ex H H h h':=
  ⟨fun b ob q _ _ _=>k b ob q,fun b ob q _ _ _=>⟨ob.slots,k b ob q⟩,fun _ _ _ n _=>n,fun b ob q _=>⟨ob,k b ob q⟩,fun _ _ q=>q,fun _ _ _ q=>q,fun _ ps q=>⟨#[],by rw[q];simp⟩⟩
theorem Un.refl:Un fs ex H H h h:=Un.kept fun _ _ q=>q
theorem Un.laid(k:∀b u,h.get? b=some u→h'.get? b=some u)(hp:h.objs.size≤a)(hn:H a=none):Un fs ex H (upd H a o) h h' where
  keep:=fun b u q _ _ _=>k b u q
  slot:=fun b u q _ _ _=>⟨u.slots,k b u q⟩
  free:=fun b u q n _=>by rw[b0b (Nat.ne_of_lt (Nat.lt_of_lt_of_le (Heap.lt_size q) hp))];exact n
  there:=fun b u q _=>⟨u,k b u q⟩
  tups:=fun b xs q=>by rw[b0b (a0v q hn)];exact q
  frzs:=fun b u xs q=>by rw[b0b (a0v q hn)];exact q
  tbls:=fun b ps q=>⟨#[],by rw[b0b (a0v q hn),q];simp⟩
theorem Un.write(mu:Mut (H x))(he:e=x∨H e=some (.own x))(k:∀b u,b≠e→h.get? b=some u→h'.get? b=some u)(heo:∃u,h'.get? e=some u):Un fs ex H (upd H x o) h h':=by
  have hx:∀b,H b=none→b≠x:=fun b n z=>by subst z;rw[n]at mu;exact mu
  have hb:∀b,H b=none→b≠e:=fun b n z=>by
    subst z
    rcases he with r | r
    · exact hx b n r
    · rw[n]at r;cases r
  have hm:∀b u,H b=some u→¬Mut (some u)→b≠x:=fun b u q nm z=>by subst z;rw[q]at mu;exact nm mu
  refine⟨fun b u q n _ _=>k b u (hb b n) q,fun b u q n _ _=>⟨u.slots,k b u (hb b n) q⟩,fun b u q n _=>by rw[b0b (hx b n)];exact n,fun b u q _=>?_,
    fun b xs q=>by rw[b0b (hm b _ q fun z=>z)];exact q,fun b u xs q=>by rw[b0b (hm b _ q fun z=>z)];exact q,fun b ps q=>⟨#[],by rw[b0b (hm b _ q fun z=>z),q];simp⟩⟩
  by_cases hbe:b=e
  · subst hbe;exact heo
  · exact⟨u,k b u hbe q⟩
theorem Un.mono(u:Un fs ex H H1 h h1)(hs:∀b∈fs,b∈fs')(hx:∀b∈ex,b∈ex'):Un fs' ex' H H1 h h1:=
  ⟨fun b ob q n hb he=>u.keep b ob q n (fun z=>hb (hs b z)) fun z=>he (hx b z),fun _ _ q n _ he=>u.any q n fun z=>he (hx _ z),fun b ob q n he=>u.free b ob q n fun z=>he (hx b z),fun b ob q he=>u.there b ob q fun z=>he (hx b z),u.tups,u.frzs,u.tbls⟩
end
def trk(h:Heap)(H:Hp):List Addr:=(List.range h.objs.size).filter fun a=>(H a).isSome
def hidT(h:Heap)(H:Hp):Heap:=PySem.W.hideAll h (trk h H)
theorem hidT_size(h:Heap)(H:Hp):(hidT h H).objs.size=h.objs.size:=PySem.W.hideAll_size _ _
theorem hidT_get{h:Heap}{H:Hp}{b:Addr}{o:Obj}(e:h.get? b=some o)(n:H b=none):(hidT h H).get? b=some o:=
  PySem.W.hideAll_get _ e fun hm=>by
    have q:(H b).isSome=true:=(List.mem_filter.mp hm).2
    rw[n]at q;simp at q
theorem of_hidT{h:Heap}{H:Hp}{b:Addr}{o:Obj}(e:(hidT h H).get? b=some o):h.get? b=some o∧H b=none:=by
  have e':h.get? b=some o:=PySem.W.of_hideAll (trk h H) e
  refine⟨e',?_⟩
  cases q:H b with
  | none=>rfl
  | some x=>
    have hm:b∈trk h H:=List.mem_filter.mpr ⟨List.mem_range.mpr (Heap.lt_size e'),by simp[q]⟩
    have z:(hidT h H).get? b=none:=PySem.W.hideAll_none (trk h H) hm
    rw[z]at e;cases e
def allNews(g h:Heap)(L:Addr):List (Addr × Obj):=(List.range h.objs.size).filterMap fun a=>if a=L∨(g.get? a).isSome=true then none else(h.get? a).map fun o=>(a,o)
def rest(g h:Heap)(L d:Addr):List (Addr × Obj):=(allNews g h L).filter fun p=>decide (p.1≠d)
end L2
namespace L2
open PySem PySem.Spec PyProof.Rows
structure Mod(K:PySem.W.Frag)(mg:Str→Option Value)(base:Heap):Prop where
  kin:K.In base
  glob:base.Ns mainGlobals mg
  blt:∃mb,base.Ns builtinsNs mb∧∀x:Str,x≠"__name__"→mb x=bootBuiltins x
  nolimit:base.NoLimit
  seer:base.NoSeer
set_option genInjectivity false in
set_option genSizeOfSpec false in
structure Cx where
  prog:Program
  w:World
  K:PySem.W.Frag
  mg:Str→Option Value
  base:Heap
  A:Around
  N:List Str
  s₀:Shared
  H₀:Hp
  env:Env
  outer:List Env
  stack:List Env
  ex:List Addr
  fn:Str→Bool
  calm:Bool
  pn:List (Addr × Obj)
  xe:Value→Shared→Prop
def frs(l:List Env):List Addr:=l.filterMap (·.frame)
abbrev Cx.fs(X:Cx):List Addr:=frs X.outer
def Vis(sc:Scope)(x:Str):Prop:=sc.names.lookup x=some .local∨sc.names.lookup x=some .cell∨sc.names.lookup x=some .free
def Loc(sc:Scope)(x:Str):Prop:=sc.names.lookup x=some .local∨sc.names.lookup x=some .cell
def Look(env:Env)(h:Heap)(m:Str→Option Value)(x:Str)(u:Value):Prop:=
  (env.kindOf x=some .local∧m x=some u)∨((env.kindOf x=some .cell∨env.kindOf x=some .free)∧∃c,env.cells.lookup x=some c∧h.IsCell c (some u))
structure Cx.Ok(X:Cx):Prop where
  mod:Mod X.K X.mg X.base
  kind:X.env.scope.kind=.function
  glob:X.env.globals=mainGlobals
  blt:X.env.builtins=builtinsNs
  above:X.s₀.heap.objs.size≤X.env.locals
  inj:∀x y c,X.env.cells.lookup x=some c→X.env.cells.lookup y=some c→x=y
  has:∀x,(X.env.kindOf x=some .cell∨X.env.kindOf x=some .free)→∃c,X.env.cells.lookup x=some c
  cab:∀x c,X.fn x=true→X.env.cells.lookup x=some c→X.s₀.heap.objs.size≤c
  hd:X.calm=true→X.A.handled=none
  frames:X.A.frames=some X.stack
  stk:X.stack=X.outer∨(X.stack=X.env::X.outer∧X.env.frame=some X.env.locals)
  exf:∀b∈X.ex,b≠X.env.locals∧∀x c,X.env.cells.lookup x=some c→c≠b
  bs:∀b o,X.base.get? b=some o→X.s₀.heap.get? b=some o∧X.H₀ b=none
  bsz:X.base.objs.size≤X.s₀.heap.objs.size
  noex:∀b o,X.base.get? b=some o→b ∉ X.ex
  exfs:∀b∈X.ex,b ∉ X.fs
  funs:X.s₀.heap.FunFrames X.base X.outer
  frf:∀b∈X.fs,X.H₀ b=none
structure Inv(X:Cx)(pins:List (Addr × Obj))(σ:List (Option V))(H:Hp)(s:Shared):Prop where
  ok:X.Ok
  os:s.os=X.s₀.os
  bare:AllBare s.gens
  base:Un X.fs X.ex X.H₀ H X.s₀.heap s.heap
  loc:∃m,s.heap.Ns X.env.locals m∧∀(i:Nat) (x:Str) (v:V),X.N[i]? = some x→σ[i]? = some (some v)→Vis X.env.scope x→∃u,RelV v u∧Look X.env s.heap m x u
  cell:∀x c,X.env.cells.lookup x=some c→∃v,s.heap.IsCell c v
  free:H X.env.locals=none
  freeC:∀x c,X.env.cells.lookup x=some c→H c=none
  pin:∀p∈X.pn++pins,s.heap.get? p.1=some p.2∧H p.1=none∧p.1≠X.env.locals∧p.1 ∉ X.fs∧∀v,p.2.data≠.cell v
  hok:HOk X.prog X.w H s.heap
  len:σ.length=X.N.length
section
variable{X:Cx}{pins:List (Addr × Obj)}{σ:List (Option V)}{H H':Hp}{s:Shared}{h':Heap}
theorem Cx.Ok.nofr(ok:X.Ok){b:Addr}{o:Obj}(e:X.base.get? b=some o):b ∉ X.fs:=fun hb=>by
  have:=(ok.funs.mem hb).1
  rw[e]at this;cases this
theorem Inv.bs(I:Inv X pins σ H s):∀b o,X.base.get? b=some o→s.heap.get? b=some o∧H b=none:=fun b o e=>
  ⟨I.base.keep b o (I.ok.bs b o e).1 (I.ok.bs b o e).2 (I.ok.nofr e) (I.ok.noex b o e),I.base.free b o (I.ok.bs b o e).1 (I.ok.bs b o e).2 (I.ok.noex b o e)⟩
theorem Inv.bk(I:Inv X pins σ H s):∀b o,X.base.get? b=some o→s.heap.get? b=some o:=fun b o e=>(I.bs b o e).1
theorem Inv.mod(I:Inv X pins σ H s):Mod X.K X.mg X.base:=I.ok.mod
theorem Inv.kIn(I:Inv X pins σ H s):X.K.In s.heap:=I.ok.mod.kin.keeps I.bk
theorem Inv.nolimit(I:Inv X pins σ H s):s.heap.NoLimit:=I.ok.mod.nolimit.keeps I.bk
theorem Inv.fr(I:Inv X pins σ H s):∃m,Fr X.base X.env.locals s.heap m:=
  let⟨m,hn,_⟩:=I.loc
  ⟨m,hn,I.bk,Nat.le_trans I.ok.bsz I.ok.above⟩
theorem Inv.lt(I:Inv X pins σ H s):X.env.locals < s.heap.objs.size:=let⟨_,hn,_⟩:=I.loc;hn.lt
theorem Inv.sz(I:Inv X pins σ H s):X.s₀.heap.objs.size≤s.heap.objs.size:=Nat.le_trans I.ok.above (Nat.le_of_lt I.lt)
theorem Inv.nofs(I:Inv X pins σ H s){a:Addr}(h:s.heap.objs.size≤a):a ∉ X.fs:=fun hb=>by
  obtain⟨_,o,ho,_⟩:=I.ok.funs.mem hb
  exact absurd (Nat.lt_of_lt_of_le (Heap.lt_size ho) (Nat.le_trans I.sz h)) (Nat.lt_irrefl _)
theorem Inv.cne(I:Inv X pins σ H s):∀x c,X.env.cells.lookup x=some c→c≠X.env.locals:=fun x c e z=>by
  obtain⟨v,o,ho,hd⟩:=I.cell x c e
  obtain⟨m,⟨o',es,ep,ho',hd',_⟩,_⟩:=I.loc
  rw[z,ho']at ho;cases ho;rw[hd']at hd;cases hd
theorem Inv.funs(I:Inv X pins σ H s):s.heap.FunFrames X.base X.outer:=by
  have all:∀(l:List Env),(∀b∈frs l,b∈X.fs)→X.s₀.heap.FunFrames X.base l→s.heap.FunFrames X.base l:=by
    intro l
    induction l with
    | nil=>intro _ _;trivial
    | cons env r ih=>
      intro hs hl
      obtain⟨hk,⟨L,o,hf,hn,ho,hd⟩,hr⟩:=hl
      have hL:L∈X.fs:=hs L (by unfold frs;rw[List.filterMap_cons,hf];exact List.mem_cons_self)
      obtain⟨sl,e⟩:=I.base.slot L o ho (I.ok.frf L hL) hL fun z=>I.ok.exfs L z hL
      exact⟨hk,⟨L,_,hf,hn,e,hd⟩,ih (fun b hb=>hs b (by unfold frs;rw[List.filterMap_cons,hf];exact List.mem_cons_of_mem _ hb)) hr⟩
  exact all X.outer (fun _ hb=>hb) I.ok.funs
theorem Inv.stack(I:Inv X pins σ H s):s.heap.FunFrames X.base X.stack:=by
  rcases I.ok.stk with e | ⟨e,hf⟩
  · rw[e];exact I.funs
  · rw[e]
    obtain⟨m,hn,_⟩:=I.loc
    refine .cons (by rw[I.ok.kind];decide) hf hn ?_ I.funs
    exact Heap.get?_none_of_le (Nat.le_trans I.ok.bsz I.ok.above)
theorem Inv.stkSub(I:Inv X pins σ H s):∀b∈frs X.stack,b∈X.env.locals::X.fs:=fun b hb=>by
  rcases I.ok.stk with e | ⟨e,hf⟩
  · rw[e]at hb;exact List.mem_cons_of_mem _ hb
  · rw[e]at hb
    unfold frs at hb
    rw[List.filterMap_cons,hf]at hb
    exact hb
theorem Inv.stkFree(I:Inv X pins σ H s):∀b∈frs X.stack,H b=none:=fun b hb=>by
  rcases List.mem_cons.mp (I.stkSub b hb)with e | hb
  · rw[e];exact I.free
  · obtain⟨_,o,ho,_⟩:=I.ok.funs.mem hb
    exact I.base.free b o ho (I.ok.frf b hb) fun z=>I.ok.exfs b z hb
theorem Inv.step{g':Array GenState}{t':Nat}{d':Drawn}{ch:List Addr}(I:Inv X pins σ H s)
    (hch:∀b∈ch,(b∈X.ex∨X.s₀.heap.objs.size≤b)∧b≠X.env.locals∧(∀x c,X.env.cells.lookup x=some c→c≠b)∧∀p∈X.pn++pins,p.1≠b)
    (keep:∀b o,b≠X.env.locals→b ∉ X.fs→b ∉ ch→s.heap.get? b=some o→H b=none→h'.get? b=some o)
    (slot:∀b o,b≠X.env.locals→b∈X.fs→b ∉ ch→s.heap.get? b=some o→H b=none→∃sl,h'.get? b=some { o with slots:=sl }) (free:∀b o,b ∉ ch→s.heap.get? b=some o→H b=none→H' b=none)
    (there:∀b o,b ∉ ch→s.heap.get? b=some o→∃o',h'.get? b=some o')
    (tups:∀b xs,H b=some (.tup xs)→H' b=some (.tup xs)) (frzs:∀b o u,H b=some (.frz o u)→H' b=some (.frz o u)) (tbls:∀b ps,H b=some (.tbl ps)→∃more,H' b=some (.tbl (ps++more)))
    (ns:∀m,s.heap.Ns X.env.locals m→h'.Ns X.env.locals m) (hok:HOk X.prog X.w H' h') (hg:AllBare g') :
    Inv X pins σ H' { s with heap:=h',gens:=g',drawn:=d',toks:=t' }:=by
  have neL:∀b o,X.s₀.heap.get? b=some o→b≠X.env.locals:=fun b o e=>Nat.ne_of_lt (Nat.lt_of_lt_of_le (Heap.lt_size e) I.ok.above)
  have neC:∀b o,X.s₀.heap.get? b=some o→b ∉ X.ex→b ∉ ch:=fun b o e hx hb=>by
    rcases(hch b hb).1 with z | z
    · exact hx z
    · exact absurd (Nat.lt_of_lt_of_le (Heap.lt_size e) z) (Nat.lt_irrefl _)
  have cellK:∀x c,X.env.cells.lookup x=some c→∀v,s.heap.IsCell c v→h'.IsCell c v:=fun x c e v ⟨o,ho,hd⟩=>by
    have nch:c ∉ ch:=fun z=>(hch c z).2.2.1 x c e rfl
    by_cases hc:c∈X.fs
    · obtain⟨sl,q⟩:=slot c o (I.cne x c e) hc nch ho (I.freeC x c e)
      exact⟨_,q,hd⟩
    · exact⟨o,keep c o (I.cne x c e) hc nch ho (I.freeC x c e),hd⟩
  refine⟨I.ok,I.os,hg,⟨fun b o e n hb hx=>?_,fun b o e n hb hx=>?_,fun b o e n hx=>?_,fun b o e hx=>?_,fun b xs e=>tups b xs (I.base.tups b xs e),fun b o xs e=>frzs b o xs (I.base.frzs b o xs e),fun b ps e=>?_⟩,?_,fun x c e=>?_,?_,fun x c e=>?_,fun p hp=>?_,hok,I.len⟩
  · exact keep b o (neL b o e) hb (neC b o e hx) (I.base.keep b o e n hb hx) (I.base.free b o e n hx)
  · obtain⟨sl,e1⟩:=I.base.slot b o e n hb hx
    obtain⟨sl',e2⟩:=slot b _ (neL b o e) hb (neC b o e hx) e1 (I.base.free b o e n hx)
    exact⟨sl',e2⟩
  · obtain⟨o',e1⟩:=I.base.there b o e hx
    exact free b o' (neC b o e hx) e1 (I.base.free b o e n hx)
  · obtain⟨o',e1⟩:=I.base.there b o e hx
    exact there b o' (neC b o e hx) e1
  · obtain⟨m1,e1⟩:=I.base.tbls b ps e
    obtain⟨m2,e2⟩:=tbls b _ e1
    exact⟨m1++m2,by rw[e2,Array.append_assoc]⟩
  · obtain⟨m,hn,hl⟩:=I.loc
    refine⟨m,ns m hn,fun i x v e1 e2 e3=>?_⟩
    obtain⟨u,r,l⟩:=hl i x v e1 e2 e3
    refine⟨u,r,?_⟩
    rcases l with l | ⟨k,c,e,z⟩
    · exact .inl l
    · exact .inr ⟨k,c,e,cellK x c e _ z⟩
  · obtain⟨v,z⟩:=I.cell x c e
    exact⟨v,cellK x c e v z⟩
  · obtain⟨m,⟨o,_,_,ho,_⟩,_⟩:=I.loc
    exact free _ o (fun z=>(hch _ z).2.1 rfl) ho I.free
  · obtain⟨v,o,ho,hd⟩:=I.cell x c e
    exact free c o (fun z=>(hch c z).2.2.1 x c e rfl) ho (I.freeC x c e)
  · obtain⟨e,n,ne,nf,d⟩:=I.pin p hp
    have nch:p.1 ∉ ch:=fun z=>(hch p.1 z).2.2.2 p hp rfl
    exact⟨keep p.1 p.2 ne nf nch e n,free p.1 p.2 nch e n,ne,nf,d⟩
theorem Inv.un{t':Nat}(I:Inv X pins σ H s)(u:Un X.fs [] H H' s.heap h')(hok:HOk X.prog X.w H' h'):Inv X pins σ H' { s with heap:=h',toks:=t' }:=by
  obtain⟨m,⟨o,es,ep,ho,r⟩,_⟩:=id I.loc
  obtain⟨sl,hL⟩:=u.any ho I.free (by simp)
  exact I.step (g':=s.gens) (d':=s.drawn) (ch:=[]) (fun _ z=>nomatch z) (fun b o _ hb _ e n=>u.keep b o e n hb (by simp)) (fun b o _ hb _ e n=>u.slot b o e n hb (by simp)) (fun b o _ e n=>u.free b o e n (by simp)) (fun b o _ e=>u.there b o e (by simp)) u.tups u.frzs u.tbls (fun m' hm=>by
    obtain⟨o',es',ep',ho',r'⟩:=hm
    rw[ho]at ho';cases ho'
    exact⟨_,es',ep',hL,r'⟩) hok I.bare
theorem Inv.call{g':Array GenState}{t':Nat}{d':Drawn}{ch:List Addr}(I:Inv X pins σ H s)(u:Un (frs X.stack) ch H H' s.heap h')(hok:HOk X.prog X.w H' h')(hg:AllBare g')
    (hch:∀b∈ch,(b∈X.ex∨X.s₀.heap.objs.size≤b)∧b≠X.env.locals∧(∀x c,X.env.cells.lookup x=some c→c≠b)∧∀p∈X.pn++pins,p.1≠b) :
    Inv X pins σ H' { s with heap:=h',gens:=g',drawn:=d',toks:=t' }:=by
  obtain⟨m,⟨o,es,ep,ho,r⟩,_⟩:=id I.loc
  obtain⟨sl,hL⟩:=u.any ho I.free fun z=>(hch _ z).2.1 rfl
  exact I.step (ch:=ch) hch (fun b o hL hb hc e n=>u.keep b o e n (fun z=>(List.mem_cons.mp (I.stkSub b z)).elim hL hb) hc) (fun b o _ _ hc e n=>u.any e n hc) (fun b o hc e n=>u.free b o e n hc) (fun b o hc e=>u.there b o e hc) u.tups u.frzs u.tbls (fun m' hm=>by
    obtain⟨o',es',ep',ho',r'⟩:=hm
    rw[ho]at ho';cases ho'
    exact⟨_,es',ep',hL,r'⟩) hok hg
theorem Inv.turned{t':Nat}{it:Addr}(I:Inv X pins σ H s)(k:∀b o,b≠it→s.heap.get? b=some o→h'.get? b=some o)(hn:H it=none)(hL:it≠X.env.locals)
    (h1:it∈X.ex∨X.s₀.heap.objs.size≤it) (h2:∀x c,X.env.cells.lookup x=some c→c≠it) (h3:∀p∈X.pn++pins,p.1≠it):Inv X pins σ H { s with heap:=h',toks:=t' }:=by
  have nit:∀b u,H b=some u→b≠it:=fun b u e z=>by rw[z,hn]at e;cases e
  refine I.step (g':=s.gens) (d':=s.drawn) (ch:=[it]) (fun b hb=>?_) (fun b o _ _ hc e _=>k b o (fun z=>hc (by simp[z])) e) (fun b o _ _ hc e _=>⟨o.slots,k b o (fun z=>hc (by simp[z])) e⟩) (fun _ _ _ _ n=>n)
    (fun b o hc e=>⟨o,k b o (fun z=>hc (by simp[z])) e⟩) (fun _ _ e=>e) (fun _ _ _ e=>e) (fun b ps e=>⟨#[],by rw[e];simp⟩) (fun m hm=>?_) (fun b u e=>?_) I.bare
  · have e:b=it:=by simpa using hb
    subst e
    exact⟨h1,hL,h2,h3⟩
  · obtain⟨o,es,ep,ho,r⟩:=hm
    exact⟨o,es,ep,k _ o (Ne.symm hL) ho,r⟩
  · refine(I.hok b u e).stay (fun c v hc q=>k c v ?_ q) (fun _ q=>q) fun _ _ q=>q
    rcases hc with z | z
    · rw[z];exact nit b u e
    · exact nit c _ z
theorem Inv.tok(I:Inv X pins σ H s)(t:Nat):Inv X pins σ H { s with toks:=t }:=I.un (h':=s.heap) (t':=t) Un.refl I.hok
theorem Inv.kept{t':Nat}(I:Inv X pins σ H s)(k:∀b u,s.heap.get? b=some u→h'.get? b=some u):Inv X pins σ H { s with heap:=h',toks:=t' }:=I.un (Un.kept k) (I.hok.kept k)
theorem Inv.laid{a:Addr}{o:HO}{t':Nat}(I:Inv X pins σ H s)(k:∀b u,s.heap.get? b=some u→h'.get? b=some u)(hp:s.heap.objs.size≤a)(new:ObjOk X.prog X.w (upd H a o) h' a o) :
    Inv X pins σ (upd H a o) { s with heap:=h',toks:=t' }:=I.un (Un.laid k hp (I.hok.fresh hp)) (I.hok.laid k hp new)
theorem Inv.write{x e:Addr}{o:HO}{t':Nat}(I:Inv X pins σ H s)(mu:Mut (H x))(he:e=x∨H e=some (.own x))(k:∀b u,b≠e→s.heap.get? b=some u→h'.get? b=some u)(heo:∃u,h'.get? e=some u)
    (new:ObjOk X.prog X.w (upd H x o) h' x o):Inv X pins σ (upd H x o) { s with heap:=h',toks:=t' }:=I.un (Un.write mu he k heo) (I.hok.write mu he k heo new)
theorem Inv.weak{σ':List (Option V)}(I:Inv X pins σ H s)(hl:σ'.length=σ.length)(w:∀(i:Nat) v,σ'[i]? = some (some v)→σ[i]? = some (some v)):Inv X pins σ' H s:=
  ⟨I.ok,I.os,I.bare,I.base,let⟨m,hn,hl'⟩:=I.loc;⟨m,hn,fun i x v e1 e2 e3=>hl' i x v e1 (w i v e2) e3⟩,I.cell,I.free,I.freeC,I.pin,I.hok,hl.trans I.len⟩
theorem Inv.pins_of{pins':List (Addr × Obj)}(I:Inv X pins σ H s)(h:∀p∈pins',s.heap.get? p.1=some p.2∧H p.1=none∧p.1≠X.env.locals∧p.1 ∉ X.fs∧∀v,p.2.data≠.cell v):Inv X pins' σ H s:=
  ⟨I.ok,I.os,I.bare,I.base,I.loc,I.cell,I.free,I.freeC,fun p hp=>(List.mem_append.mp hp).elim (fun z=>I.pin p (List.mem_append_left _ z)) (h p),I.hok,I.len⟩
theorem nodup_ix{N:List Str}(hN:N.Nodup){i j:Nat}{x:Str}(a:N[i]? = some x)(b:N[j]? = some x):i=j:=by
  obtain⟨h1,e1⟩:=List.getElem?_eq_some_iff.mp a
  obtain⟨h2,e2⟩:=List.getElem?_eq_some_iff.mp b
  exact(List.getElem_inj hN).mp (e1.trans e2.symm)
theorem store_ok2{M:Model}{A:Around}{E:Value→Shared→Prop}{i:Nat}{x:Str}{v:V}{u:Value}{Q:Unit→Shared→Prop}(I:Inv X pins σ H s)(hN:X.N.Nodup)(hi:X.N[i]? = some x)(hx:Loc X.env.scope x)(r:RelV v u)
    (h:∀s',Inv X pins (σ.set i (some v)) H s'→(∃a,Heap.SameBut a s.heap s'.heap∧(a=X.env.locals∨X.env.cells.lookup x=some a))→Q () s') (hf:X.fn x=true∨X.env.scope.names.lookup x=some .local:=by first | exact .inl rfl | exact .inr rfl | assumption):wpAny M A (storeName X.env x u) Q E s:=by
  obtain⟨m,hn,hl⟩:=id I.loc
  have hcls:(X.env.scope.kind == .class || (X.env.scope.kind == .module && X.env.locals != X.env.globals))=false:=by rw[I.ok.kind];rfl
  have hiσ:i < σ.length:=by rw[I.len];exact(List.getElem?_eq_some_iff.mp hi).1
  have cne:=I.cne
  have tracked:∀{a:Addr} {h':Heap},(∃o,s.heap.get? a=some o∧H a=none)→Heap.SameBut a s.heap h'→HOk X.prog X.w H h':=fun{a h'} ha hs b ob e=>by
    obtain⟨_,_,hfree⟩:=ha
    refine(I.hok b ob e).stay (fun c w' hc q=>(hs.2 c ?_).trans q) (fun _ q=>q) fun _ _ q=>q
    rintro rfl
    rcases hc with rfl | hc
    · rw[hfree]at e;cases e
    · rw[hfree]at hc;cases hc
  rcases hx with hk | hk
  · refine wpAny_storeName_local hk hn (fun h' hn' hs=>?_) hcls
    obtain⟨oL,_,_,hoL,_⟩:=id hn
    refine h _ ⟨I.ok,I.os,I.bare,⟨fun b o e n hb hx=>?_,fun b o e n hb hx=>?_,I.base.free,fun b o e hx=>?_,I.base.tups,I.base.frzs,I.base.tbls⟩,⟨_,hn',fun j y v' e1 e2 e3=>?_⟩,fun y c e=>?_,I.free,I.freeC,fun p hp=>?_,tracked ⟨oL,hoL,I.free⟩ hs,by simpa using I.len⟩ ⟨_,hs,.inl rfl⟩
    · exact(hs.2 b (Nat.ne_of_lt (Nat.lt_of_lt_of_le (Heap.lt_size e) I.ok.above))).trans (I.base.keep b o e n hb hx)
    · obtain⟨sl,e1⟩:=I.base.slot b o e n hb hx
      exact⟨sl,(hs.2 b (Nat.ne_of_lt (Nat.lt_of_lt_of_le (Heap.lt_size e) I.ok.above))).trans e1⟩
    · obtain⟨o',e1⟩:=I.base.there b o e hx
      exact⟨o',(hs.2 b (Nat.ne_of_lt (Nat.lt_of_lt_of_le (Heap.lt_size e) I.ok.above))).trans e1⟩
    · by_cases hj:j=i
      · subst hj
        rw[hi]at e1;cases e1
        rw[List.getElem?_set_self hiσ]at e2
        cases e2
        exact⟨u,r,.inl ⟨hk,by simp⟩⟩
      · rw[List.getElem?_set_ne (Ne.symm hj)]at e2
        obtain⟨u',r',q⟩:=hl j y v' e1 e2 e3
        refine⟨u',r',?_⟩
        rcases q with ⟨k,e⟩ | ⟨k,c,e,z⟩
        · refine .inl ⟨k,?_⟩
          have:y≠x:=fun e=>hj (nodup_ix hN e1 (e▸hi))
          simp[this,e]
        · exact .inr ⟨k,c,e,z.sameBut hs (cne y c e)⟩
    · obtain⟨w',z⟩:=I.cell y c e
      exact⟨w',z.sameBut hs (cne y c e)⟩
    · obtain⟨e,n,ne,nf,d⟩:=I.pin p hp
      exact⟨(hs.2 p.1 ne).trans e,n,ne,nf,d⟩
  · have hfn:X.fn x=true:=by
      rcases hf with z | z
      · exact z
      · rw[z]at hk;cases hk
    obtain⟨c,hc⟩:=I.ok.has x (.inl hk)
    obtain⟨w',z⟩:=I.cell x c hc
    refine wpAny_storeName_cell I.ok.kind hk hc z (fun h' hc' hs=>?_)
    obtain⟨oc,hoc,hocd⟩:=id z
    refine h { s with heap:=h' } ⟨I.ok,I.os,I.bare,⟨fun b o e n hb hx=>?_,fun b o e n hb hx=>?_,I.base.free,fun b o e hx=>?_,I.base.tups,I.base.frzs,I.base.tbls⟩,⟨m,hn.sameBut hs (Ne.symm (cne x c hc)),fun j y v' e1 e2 e3=>?_⟩,fun y c' e=>?_,I.free,I.freeC,fun p hp=>?_,tracked ⟨oc,hoc,I.freeC x c hc⟩ hs,by simpa using I.len⟩ ⟨c,hs,.inr hc⟩
    · exact(hs.2 b (Nat.ne_of_lt (Nat.lt_of_lt_of_le (Heap.lt_size e) (I.ok.cab x c hfn hc)))).trans (I.base.keep b o e n hb hx)
    · obtain⟨sl,e1⟩:=I.base.slot b o e n hb hx
      exact⟨sl,(hs.2 b (Nat.ne_of_lt (Nat.lt_of_lt_of_le (Heap.lt_size e) (I.ok.cab x c hfn hc)))).trans e1⟩
    · obtain⟨o',e1⟩:=I.base.there b o e hx
      exact⟨o',(hs.2 b (Nat.ne_of_lt (Nat.lt_of_lt_of_le (Heap.lt_size e) (I.ok.cab x c hfn hc)))).trans e1⟩
    · by_cases hj:j=i
      · subst hj
        rw[hi]at e1;cases e1
        rw[List.getElem?_set_self hiσ]at e2
        cases e2
        exact⟨u,r,.inr ⟨.inl hk,c,hc,hc'⟩⟩
      · rw[List.getElem?_set_ne (Ne.symm hj)]at e2
        obtain⟨u',r',q⟩:=hl j y v' e1 e2 e3
        refine⟨u',r',?_⟩
        rcases q with q | ⟨k,c',e,z'⟩
        · exact .inl q
        · refine .inr ⟨k,c',e,z'.sameBut hs ?_⟩
          rintro rfl
          exact hj (nodup_ix hN e1 (I.ok.inj _ _ _ e hc▸hi))
    · by_cases hcc:c'=c
      · subst hcc;exact⟨_,hc'⟩
      · obtain⟨w2,z2⟩:=I.cell y c' e
        exact⟨w2,z2.sameBut hs hcc⟩
    · obtain⟨e,n,ne,nf,d⟩:=I.pin p hp
      refine⟨(hs.2 p.1 ?_).trans e,n,ne,nf,d⟩
      intro q
      rw[q,hoc]at e
      have q':oc=p.2:=Option.some.inj e
      exact d w' (by rw[← q'];exact hocd)
theorem j0h{M:Model}{A:Around}{E:Value→Shared→Prop}{i:Nat}{x:Str}{v:V}{u:Value}{Q:Unit→Shared→Prop}(I:Inv X pins σ H s)(hN:X.N.Nodup)(hi:X.N[i]? = some x)(hx:Loc X.env.scope x)(r:RelV v u)
    (h:∀s',Inv X pins (σ.set i (some v)) H s'→Q () s') (hf:X.fn x=true∨X.env.scope.names.lookup x=some .local:=by first | exact .inl rfl | exact .inr rfl | assumption):wpAny M A (storeName X.env x u) Q E s:=
  store_ok2 I hN hi hx r (fun s' I' _=>h s' I') hf
theorem Inv.call'{s':Shared}{ch:List Addr}(I:Inv X pins σ H s)(ho:s'.os=s.os)(u:Un (frs X.stack) ch H H' s.heap s'.heap)(hok:HOk X.prog X.w H' s'.heap)(hg:AllBare s'.gens)
    (hch:∀b∈ch,(b∈X.ex∨X.s₀.heap.objs.size≤b)∧b≠X.env.locals∧(∀x c,X.env.cells.lookup x=some c→c≠b)∧∀p∈X.pn++pins,p.1≠b):Inv X pins σ H' s':=by
  obtain⟨h',g',d',t',o'⟩:=s'
  have e:o'=s.os:=ho
  subst e
  exact I.call (g':=g') (t':=t') (d':=d') u hok hg hch
end
abbrev XK:=Value→Option Addr→Hp→Prop
abbrev St:=List (Option V)
abbrev VK:=V→Hp→Prop
abbrev TE:=St→Hp→VK→Prop
abbrev TT:=St→Hp→(Bool→Hp→Prop)→Prop
abbrev TA:=St→Hp→(List V→Hp→Prop)→Prop
structure Ends where
  nx:St→Hp→Prop
  rt:VK
  bk:St→Hp→Prop:=fun _ _=>False
  ct:St→Hp→Prop:=fun _ _=>False
abbrev TS:=Ends→St→Hp→Prop
def EP(X:Cx)(pins:List (Addr × Obj))(σ:St)(Q:VK)(u:Value)(s':Shared):Prop:=∃v H',Inv X pins σ H' s'∧RelV v u∧Q v H'
def TP(X:Cx)(pins:List (Addr × Obj))(σ:St)(Q:Bool→Hp→Prop)(b:Bool)(s':Shared):Prop:=∃H',Inv X pins σ H' s'∧Q b H'
def AP(X:Cx)(pins:List (Addr × Obj))(σ:St)(Q:List V→Hp→Prop)(us:List Value)(s':Shared):Prop:=∃vs H',Inv X pins σ H' s'∧Vals vs us∧Q vs H'
def SP(X:Cx)(pins:List (Addr × Obj))(D:Ends)(f:Flow)(s':Shared):Prop:=
  match f with
  | .next=>∃σ' H',Inv X pins σ' H' s'∧D.nx σ' H'
  | .brk=>∃σ' H',Inv X pins σ' H' s'∧D.bk σ' H'
  | .cont=>∃σ' H',Inv X pins σ' H' s'∧D.ct σ' H'
  | .ret u=>∃v σ' H',Inv X pins σ' H' s'∧RelV v u∧D.rt v H'
def PE(X:Cx)(e:Expr)(t:TE):Prop:=
  ∀(pins:List (Addr × Obj)) (s:Shared) (σ:St) (H:Hp) (Q:VK),Inv X pins σ H s→t σ H Q→wpAny (model X.prog X.w) X.A (eval e X.env) (EP X pins σ Q) X.xe s
def PT(X:Cx)(e:Expr)(t:TT):Prop:=
  ∀(pins:List (Addr × Obj)) (s:Shared) (σ:St) (H:Hp) (Q:Bool→Hp→Prop),Inv X pins σ H s→t σ H Q→wpAny (model X.prog X.w) X.A (isTrue e X.env (eval e X.env)) (TP X pins σ Q) X.xe s
def PW(X:Cx)(e:Expr)(t:TT):Prop:=
  ∀(whole:Sem Value) (pins:List (Addr × Obj)) (s:Shared) (σ:St) (H:Hp) (Q:Bool→Hp→Prop),Inv X pins σ H s→t σ H Q→wpAny (model X.prog X.w) X.A (isTrue e X.env whole) (TP X pins σ Q) X.xe s
theorem PW.pt{X:Cx}{e:Expr}{t:TT}(h:PW X e t):PT X e t:=h _
def PA(X:Cx)(es:List Expr)(t:TA):Prop:=
  ∀(pos:Pos) (pins:List (Addr × Obj)) (s:Shared) (σ:St) (H:Hp) (Q:List V→Hp→Prop),Inv X pins σ H s→t σ H Q→wpAny (model X.prog X.w) X.A (spliced (backTo pos (starEach es X.env))) (AP X pins σ Q) X.xe s
def PS(X:Cx)(st:Stmt)(t:TS):Prop:=
  ∀(pins:List (Addr × Obj)) (s:Shared) (σ:St) (H:Hp) (D:Ends),Inv X pins σ H s→t D σ H→wpAny (model X.prog X.w) X.A (exec st X.env) (SP X pins D) X.xe s
def PSs(X:Cx)(st:List Stmt)(t:TS):Prop:=
  ∀(pins:List (Addr × Obj)) (s:Shared) (σ:St) (H:Hp) (D:Ends),Inv X pins σ H s→t D σ H→wpAny (model X.prog X.w) X.A (execs st X.env) (SP X pins D) X.xe s
theorem thn{α:Type}{t:Sem α}{Q Q':α→Shared→Prop}{M:Model}{A:Around}{E:Value→Shared→Prop}{s:Shared}(h:wpAny M A t Q E s)(hQ:∀a s,Q a s→Q' a s):wpAny M A t Q' E s:=wpAny_mono h hQ fun _ _ x=>x
end L2
namespace L2
open PySem PySem.Spec PyProof.Rows
section
variable{X:Cx}
def tVar(i:Nat):TE:=fun σ H Q=>∃v,σ[i]? = some (some v)∧Q v H
def tC(v:V):TE:=fun _ H Q=>Q v H
theorem pe_var{i:Nat}{x:Str}{pos:Pos}(hN:X.N[i]? = some x)(hv:Vis X.env.scope x)(hd:(x == ("__debug__":Str))=false:=by decide)(hcd:(x == ("__classdict__":Str))=false:=by decide):PE X (.Name x pos) (tVar i):=by
  intro pins s σ H Q I h
  obtain⟨v,e,h⟩:=h
  obtain⟨m,hn,hl⟩:=I.loc
  obtain⟨u,r,l⟩:=hl i x v hN e hv
  have fin:EP X pins σ Q u s:=⟨v,H,I,r,h⟩
  rcases l with ⟨hk,hm⟩ | ⟨hk,c,hc,hcell⟩
  · exact wpAny_Name (wpAny_loadName_local I.ok.kind hk hn hm fin) hd
  · rcases hk with hk | hk
    · exact wpAny_Name (wpAny_loadName_cell I.ok.kind hk hc hcell fin) hd
    · exact wpAny_Name (wpAny_loadName_free I.ok.kind hk hc hcell fin hcd) hd
theorem a0e{i j pos}:PE X (.Constant (.int i) j pos) (tC (.int i)):=fun _ _ _ H _ I h=>wpAny_Constant_int ⟨.int i,H,I.tok _,⟨_,rfl⟩,h⟩
theorem g0w{b j pos}:PE X (.Constant (.bool b) j pos) (tC (.bl b)):=fun _ _ _ H _ I h=>Constant_bool ⟨.bl b,H,I,rfl,h⟩
theorem c0z{j pos}:PE X (.Constant .none j pos) (tC .non):=fun _ _ _ H _ I h=>Constant_none ⟨.non,H,I,rfl,h⟩
theorem b0e{x j pos}:PE X (.Constant (.str x) j pos) (tC (.str x)):=fun _ _ _ H _ I h=>Calls.Constant_str ⟨.str x,H,I.tok _,⟨_,rfl⟩,h⟩
def Gl(X:Cx)(x:Str):Prop:=X.env.kindOf x=some .globalImplicit
theorem i0j{E:Value→Shared→Prop}{pins:List (Addr × Obj)}{s:Shared}{σ:St}{H:Hp}{x:Str}{u:Value}{pos:Pos}{Q:Value→Shared→Prop}(I:Inv X pins σ H s)(hg:Gl X x)(hm:X.mg x=some u)(h:Q u s)
    (hd:(x == ("__debug__":Str))=false:=by decide):wpAny (model X.prog X.w) X.A (eval (.Name x pos) X.env) Q E s:=
  Calls.Name_function_global I.ok.kind hg (Calls.loadGlobal_global (by rw[I.ok.glob];exact I.mod.glob.keeps I.bk) hm h) hd
theorem ld_blt{E:Value→Shared→Prop}{pins:List (Addr × Obj)}{s:Shared}{σ:St}{H:Hp}{x:Str}{u:Value}{pos:Pos}{Q:Value→Shared→Prop}(I:Inv X pins σ H s)(hg:Gl X x)(hm:X.mg x=none)(hv:bootBuiltins x=some u)(h:Q u s)
    (hn:x≠"__name__":=by decide) (hd:(x == ("__debug__":Str))=false:=by decide):wpAny (model X.prog X.w) X.A (eval (.Name x pos) X.env) Q E s:=by
  obtain⟨mb,h1,h2⟩:=I.mod.blt
  exact Calls.Name_function_global I.ok.kind hg (Calls.loadGlobal_builtin (by rw[I.ok.glob];exact I.mod.glob.keeps I.bk) hm (by rw[I.ok.blt];exact h1.keeps I.bk) ((h2 x hn).trans hv) h) hd
theorem pe_glob{x:Str}{v:V}{u:Value}{pos:Pos}(hg:Gl X x)(hm:X.mg x=some u)(r:RelV v u)(hd:(x == ("__debug__":Str))=false:=by decide):PE X (.Name x pos) (tC v):=
  fun _ _ _ H _ I h=>i0j I hg hm ⟨v,H,I,r,h⟩ hd
theorem d0h{x:Str}{v:V}{u:Value}{pos:Pos}(hg:Gl X x)(hm:X.mg x=none)(hv:bootBuiltins x=some u)(r:RelV v u)(hn:x≠"__name__":=by decide)(hd:(x == ("__debug__":Str))=false:=by decide):PE X (.Name x pos) (tC v):=
  fun _ _ _ H _ I h=>ld_blt I hg hm hv ⟨v,H,I,r,h⟩ hn hd
variable{a b:Expr}{ta tb:TE}{pos:Pos}
def tB(t:TE):TT:=fun σ H Q=>t σ H fun x H1=>∃c,x=.bl c∧Q c H1
theorem e0l{e:Expr}{t:TE}(h:PE X e t)(he:∀whole,isTrue e X.env whole=(do let v ← whole;standAt e.pos;holding [v] (truthy v)):=by intro _;rfl):PT X e (tB t):=by
  intro pins s σ H Q I hw
  refine isTrue_plain (thn (h pins s σ H _ I hw) fun v s1 ⟨x,H1,I1,r1,q1⟩=>?_) (he _)
  obtain⟨d,rfl,q⟩:=q1
  cases r1
  exact wpAny_truthy_bool ⟨H1,I1,q⟩
variable{tA tB':TT}{rest:List Expr}
def tAnd(t u:TT):TT:=fun σ H Q=>t σ H fun c H1=>if c=true then u σ H1 Q else Q false H1
def tOr(t u:TT):TT:=fun σ H Q=>t σ H fun c H1=>if c=true then Q true H1 else u σ H1 Q
def tNot(t:TT):TT:=fun σ H Q=>t σ H fun c H1=>Q (!c) H1
theorem j0y(ha:PT X a tA):PW X (.BoolOp .And [a] pos) tA:=by
  intro wh pins s σ H Q I h
  refine isTrue_and (thn (ha pins s σ H Q I h) fun c s1 e=>?_)
  cases c with
  | true=>exact isTrue_and_nil e
  | false=>exact e
theorem i0m(ha:PT X a tA):PW X (.BoolOp .Or [a] pos) tA:=by
  intro wh pins s σ H Q I h
  refine isTrue_or (thn (ha pins s σ H Q I h) fun c s1 e=>?_)
  cases c with
  | false=>exact isTrue_or_nil e
  | true=>exact e
theorem j0z(ha:PT X a tA)(hb:PW X (.BoolOp .And (b::rest) pos) tB'):PW X (.BoolOp .And (a::b::rest) pos) (tAnd tA tB'):=by
  intro wh pins s σ H Q I h
  refine isTrue_and (thn (ha pins s σ H _ I h) fun c s1 ⟨H1,I1,q1⟩=>?_)
  cases c with
  | true=>exact hb wh pins s1 σ H1 Q I1 q1
  | false=>exact⟨H1,I1,q1⟩
theorem j0x(ha:PT X a tA)(hb:PW X (.BoolOp .Or (b::rest) pos) tB'):PW X (.BoolOp .Or (a::b::rest) pos) (tOr tA tB'):=by
  intro wh pins s σ H Q I h
  refine isTrue_or (thn (ha pins s σ H _ I h) fun c s1 ⟨H1,I1,q1⟩=>?_)
  cases c with
  | true=>exact⟨H1,I1,q1⟩
  | false=>exact hb wh pins s1 σ H1 Q I1 q1
theorem g0t(ha:PT X a tA):PT X (.UnaryOp .Not a pos) (tNot tA):=by
  intro pins s σ H Q I h
  exact isTrue_not (ha pins s σ H (fun c H1=>Q (!c) H1) I h)
def tAndV(ta tb:TE):TE:=fun σ H Q=>ta σ H fun x H1=>∃c,x=.bl c∧if c=true then tb σ H1 Q else Q (.bl false) H1
def tOrV(ta tb:TE):TE:=fun σ H Q=>ta σ H fun x H1=>∃c,x=.bl c∧if c=true then Q (.bl true) H1 else tb σ H1 Q
def tNotV(ta:TE):TE:=fun σ H Q=>ta σ H fun x H1=>∃c,x=.bl c∧Q (.bl (!c)) H1
theorem f0p{op}{t:TE}(h:PE X a t):PE X (.BoolOp op [a] pos) t:=fun pins s σ H Q I hw=>BoolOp_one (h pins s σ H Q I hw)
theorem f0q(ha:PE X a ta)(hb:PE X (.BoolOp .And (b::rest) pos) tb):PE X (.BoolOp .And (a::b::rest) pos) (tAndV ta tb):=by
  intro pins s σ H Q I h
  refine BoolOp_and (thn (ha pins s σ H _ I h) fun v s1 ⟨x,H1,I1,r1,q1⟩=>?_)
  obtain⟨c,rfl,q1⟩:=q1
  cases r1
  refine wpAny_truthy_bool ?_
  cases c with
  | true=>exact hb pins s1 σ H1 Q I1 q1
  | false=>exact⟨.bl false,H1,I1,rfl,q1⟩
theorem pe_or(ha:PE X a ta)(hb:PE X (.BoolOp .Or (b::rest) pos) tb):PE X (.BoolOp .Or (a::b::rest) pos) (tOrV ta tb):=by
  intro pins s σ H Q I h
  refine BoolOp_or (thn (ha pins s σ H _ I h) fun v s1 ⟨x,H1,I1,r1,q1⟩=>?_)
  obtain⟨c,rfl,q1⟩:=q1
  cases r1
  refine wpAny_truthy_bool ?_
  cases c with
  | false=>exact hb pins s1 σ H1 Q I1 q1
  | true=>exact⟨.bl true,H1,I1,rfl,q1⟩
theorem pe_not(ha:PE X a ta):PE X (.UnaryOp .Not a pos) (tNotV ta):=by
  intro pins s σ H Q I h
  refine UnaryOp_ (thn (ha pins s σ H _ I h) fun v s1 ⟨x,H1,I1,r1,q1⟩=>?_)
  obtain⟨c,rfl,q1⟩:=q1
  cases r1
  exact not_of (wpAny_truthy_bool ⟨.bl (!c),H1,I1,rfl,q1⟩)
def tIf(t:TT)(ta tb:TE):TE:=fun σ H Q=>t σ H fun c H1=>if c=true then ta σ H1 Q else tb σ H1 Q
theorem pe_ifExp{c:Expr}(hc:PT X c tA)(ha:PE X a ta)(hb:PE X b tb):PE X (.IfExp c a b pos) (tIf tA ta tb):=by
  intro pins s σ H Q I h
  refine wpAny_IfExp (thn (hc pins s σ H _ I h) fun d s1 ⟨H1,I1,q1⟩=>?_)
  cases d with
  | true=>exact ha pins s1 σ H1 Q I1 q1
  | false=>exact hb pins s1 σ H1 Q I1 q1
end
end L2
namespace L2
open PySem PySem.Spec PyProof.Rows
def SqL(K:PySem.W.Frag)(H:Hp)(a:Addr)(xs:List V):Prop:=
  Rd H a (.lst xs)∨
    ∃(o:Obj) (its:Array Value) (n:Nat),K.lookup a=some o∧o.cls=.type "list"∧o.dict=none∧o.data=.seq its n∧its.size≤sizeLine∧Vals xs its.toList
def SqT(K:PySem.W.Frag)(H:Hp)(a:Addr)(xs:List V):Prop:=
  Rd H a (.tup xs)∨
    ∃(o:Obj) (its:Array Value) (n:Nat),K.lookup a=some o∧o.cls=.type "tuple"∧o.data=.seq its n∧its.size≤sizeLine∧Vals xs its.toList
def absV:Value→Option V
  | .none=>some .non
  | .bool b=>some (.bl b)
  | .int i _=>some (.int i)
  | .str x _=>some (.str x)
  | .bytes b _=>some (.byt b)
  | .float b _=>some (.flt b)
  | .ref a=>some (.ref a)
  | .type n=>some (.ty n)
  | _=>none
theorem RelV.abs{x:V}{u:Value}(r:RelV x u):absV u=some x:=by
  cases x with
  | non=>cases r;rfl
  | bl _=>cases r;rfl
  | int _=>obtain⟨t,rfl⟩:=r;rfl
  | str _=>obtain⟨t,rfl⟩:=r;rfl
  | byt _=>obtain⟨t,rfl⟩:=r;rfl
  | flt _=>obtain⟨t,rfl⟩:=r;rfl
  | ref _=>cases r;rfl
  | ty _=>cases r;rfl
theorem RelV.inj{x y:V}{u:Value}(r:RelV x u)(q:RelV y u):x=y:=Option.some.inj (r.abs.symm.trans q.abs)
theorem Vals.inj:∀{xs ys:List V} {us:List Value},Vals xs us→Vals ys us→xs=ys
  | _,_,_,.nil,.nil=>rfl
  | _,_,_,.cons r t,.cons r' t'=>by rw[r.inj r',Vals.inj t t']
section
variable{X:Cx}{pins:List (Addr × Obj)}{σ:St}{H:Hp}{s:Shared}{a:Addr}{xs ys:List V}
theorem SqL.of{K:PySem.W.Frag}(h:H a=some (.lst xs)):SqL K H a xs:=.inl (.inl h)
theorem SqT.of{K:PySem.W.Frag}(h:H a=some (.tup xs)):SqT K H a xs:=.inl (.inl h)
theorem Inv.list(I:Inv X pins σ H s)(h:SqL X.K H a xs):∃its:List Value,Vals xs its∧PlainL s.heap a its.toArray∧xs.length≤sizeLine:=by
  rcases h with h | ⟨o,its,n,hk,hc,hd,hs,hz,r⟩
  · obtain⟨z,its,n,r,e⟩:=h.ok I.hok
    exact⟨its,r,⟨_,n,e,rfl,rfl,rfl⟩,z⟩
  · refine⟨its.toList,r,⟨o,n,I.kIn a o hk,hc,hd,by simpa using hs⟩,?_⟩
    have e:=r.length
    simp only[Array.length_toList]at e
    omega
theorem Inv.tuple(I:Inv X pins σ H s)(h:SqT X.K H a xs):∃its:List Value,Vals xs its∧IsTup s.heap a its.toArray∧xs.length≤sizeLine:=by
  rcases h with h | ⟨o,its,n,hk,hc,hs,hz,r⟩
  · obtain⟨z,its,r,p,_⟩:=h.ok I.hok
    exact⟨its,r,p,z⟩
  · refine⟨its.toList,r,⟨o,I.kIn a o hk,hc,n,by simpa using hs⟩,?_⟩
    have e:=r.length
    simp only[Array.length_toList]at e
    omega
theorem Inv.list_inj(I:Inv X pins σ H s)(h:SqL X.K H a xs)(h':SqL X.K H a ys):xs=ys:=by
  obtain⟨its,r,⟨o,n,e,_,_,d⟩,_⟩:=I.list h
  obtain⟨its',r',⟨o',n',e',_,_,d'⟩,_⟩:=I.list h'
  rw[e]at e';cases e'
  rw[d]at d'
  injection d' with d1 _
  have:its=its':=by simpa using congrArg Array.toList d1
  subst this
  exact r.inj r'
theorem Inv.tuple_inj(I:Inv X pins σ H s)(h:SqT X.K H a xs)(h':SqT X.K H a ys):xs=ys:=by
  obtain⟨its,r,⟨o,e,_,n,d⟩,_⟩:=I.tuple h
  obtain⟨its',r',⟨o',e',_,n',d'⟩,_⟩:=I.tuple h'
  rw[e]at e';cases e'
  rw[d]at d'
  injection d' with d1 _
  have:its=its':=by simpa using congrArg Array.toList d1
  subst this
  exact r.inj r'
end
abbrev Cx.wish(X:Cx)(E:Value→Shared→Prop):Cx:={ X with xe:=E }
abbrev Cx.nox(X:Cx):Cx:=X.wish fun _ _=>False
theorem Cx.Ok.wish{X:Cx}(ok:X.Ok)(E:Value→Shared→Prop):(X.wish E).Ok:=
  ⟨ok.mod,ok.kind,ok.glob,ok.blt,ok.above,ok.inj,ok.has,ok.cab,ok.hd,ok.frames,ok.stk,ok.exf,ok.bs,ok.bsz,ok.noex,ok.exfs,ok.funs,ok.frf⟩
theorem Cx.Ok.unwish{X:Cx}{E:Value→Shared→Prop}(ok:(X.wish E).Ok):X.Ok:=
  ⟨ok.mod,ok.kind,ok.glob,ok.blt,ok.above,ok.inj,ok.has,ok.cab,ok.hd,ok.frames,ok.stk,ok.exf,ok.bs,ok.bsz,ok.noex,ok.exfs,ok.funs,ok.frf⟩
section
variable{X:Cx}{pins:List (Addr × Obj)}{σ:St}{H:Hp}{s:Shared}{E:Value→Shared→Prop}
theorem Inv.wish(I:Inv X pins σ H s)(E:Value→Shared→Prop):Inv (X.wish E) pins σ H s:=⟨I.ok.wish E,I.os,I.bare,I.base,I.loc,I.cell,I.free,I.freeC,I.pin,I.hok,I.len⟩
theorem Inv.unwish(I:Inv (X.wish E) pins σ H s):Inv X pins σ H s:=⟨I.ok.unwish,I.os,I.bare,I.base,I.loc,I.cell,I.free,I.freeC,I.pin,I.hok,I.len⟩
theorem SP.unwish{D:Ends}{f:Flow}{s':Shared}(h:SP (X.wish E) pins D f s'):SP X pins D f s':=by
  cases f with
  | next=>obtain⟨σ',H',I,q⟩:=h;exact⟨σ',H',I.unwish,q⟩
  | brk=>obtain⟨σ',H',I,q⟩:=h;exact⟨σ',H',I.unwish,q⟩
  | cont=>obtain⟨σ',H',I,q⟩:=h;exact⟨σ',H',I.unwish,q⟩
  | ret u=>obtain⟨v,σ',H',I,r,q⟩:=h;exact⟨v,σ',H',I.unwish,r,q⟩
theorem PE.nox{e:Expr}{t:TE}(h:PE X.nox e t):PE X e t:=fun pins s σ H Q I hw=>
  wpAny_mono (h pins s σ H Q (I.wish _) hw) (fun _ _ ⟨v,H',I',r,q⟩=>⟨v,H',I'.unwish,r,q⟩) fun _ _ z=>False.elim z
theorem PT.nox{e:Expr}{t:TT}(h:PT X.nox e t):PT X e t:=fun pins s σ H Q I hw=>
  wpAny_mono (h pins s σ H Q (I.wish _) hw) (fun _ _ ⟨H',I',q⟩=>⟨H',I'.unwish,q⟩) fun _ _ z=>False.elim z
theorem PSs.nox{st:List Stmt}{t:TS}(h:PSs X.nox st t):PSs X st t:=fun pins s σ H D I hw=>
  wpAny_mono (h pins s σ H D (I.wish _) hw) (fun _ _ q=>q.unwish) fun _ _ z=>False.elim z
end
section
variable{X:Cx}{st:Stmt}{rest:List Stmt}{t u:TS}{e:Expr}{te:TE}{pos:Pos}
def tNext:TS:=fun D σ H=>D.nx σ H
def tSeq(t u:TS):TS:=fun D σ H=>t { D with nx:=u D } σ H
theorem a0y:PSs X [] tNext:=fun _ _ σ H _ I h=>wpAny_execs_nil ⟨σ,H,I,h⟩
theorem a0c(h1:PS X st t)(h2:PSs X rest u):PSs X (st::rest) (tSeq t u):=by
  intro pins s σ H D I h
  refine wpAny_execs_cons (thn (h1 pins s σ H { D with nx:=u D } I h) fun f s1 q=>?_)
  cases f with
  | next=>
    obtain⟨σ',H',I',q⟩:=q
    exact h2 pins s1 σ' H' D I' q
  | ret v=>exact q
  | brk=>exact q
  | cont=>exact q
theorem a0i(h1:PS X st t):PSs X [st] t:=by
  intro pins s σ H D I h
  refine wpAny_execs_cons (thn (h1 pins s σ H D I h) fun f s1 q=>?_)
  cases f with
  | next=>exact wpAny_execs_nil q
  | ret v=>exact q
  | brk=>exact q
  | cont=>exact q
theorem Inv.quiet{pins:List (Addr × Obj)}{σ:St}{H:Hp}{s:Shared}(I:Inv X pins σ H s):interactive X.env=false:=by simp[interactive,I.ok.kind]
def tDrop(te:TE):TS:=fun D σ H=>te σ H fun _ H1=>D.nx σ H1
theorem b0f(he:PE X e te)(hs:swapsWith e none pos.line X.env=pure false:=by rfl):PS X (.Expr e pos) (tDrop te):=by
  intro pins s σ H D I h
  exact wpAny_Expr_any (thn (he pins s σ H _ I h) fun v s1 ⟨x,H1,I1,r1,q1⟩=>⟨σ,H1,I1,q1⟩) I.quiet hs
def tRet(te:TE):TS:=fun D σ H=>te σ H D.rt
theorem a0m(he:PE X e te):PS X (.Return (some e) pos) (tRet te):=by
  intro pins s σ H D I h
  exact wpAny_Return_some (thn (he pins s σ H _ I h) fun v s1 ⟨x,H1,I1,r1,q1⟩=>⟨x,σ,H1,I1,r1,q1⟩)
def tIfS(c:TT)(t u:TS):TS:=fun D σ H=>c σ H fun b H1=>if b=true then t D σ H1 else u D σ H1
theorem b0n{c:Expr}{a b:List Stmt}{tc:TT}(hc:PT X c tc)(ha:PSs X a t)(hb:PSs X b u):PS X (.If c a b pos) (tIfS tc t u):=by
  intro pins s σ H D I h
  refine wpAny_If (thn (hc pins s σ H _ I h) fun d s1 ⟨H1,I1,q1⟩=>?_)
  cases d with
  | true=>exact ha pins s1 σ H1 D I1 q1
  | false=>exact hb pins s1 σ H1 D I1 q1
def tNever:TS:=fun _ _ _=>False
theorem f0f:PS X st tNever:=fun _ _ _ _ _ _ h=>h.elim
end
abbrev TG:=V→St→Hp→(St→Hp→Prop)→Prop
abbrev TGs:=List V→St→Hp→(St→Hp→Prop)→Prop
def PG(X:Cx)(target:Expr)(t:TG):Prop:=
  ∀(pins:List (Addr × Obj)) (s:Shared) (σ:St) (H:Hp) (v:V) (u:Value) (Q:St→Hp→Prop),Inv X pins σ H s→RelV v u→t v σ H Q→
    wpAny (model X.prog X.w) X.A (assign target X.env u) (fun _ s'=>∃σ' H',Inv X pins σ' H' s'∧Q σ' H') X.xe s
def PGs(X:Cx)(ts:List Expr)(t:TGs):Prop:=
  ∀(pins:List (Addr × Obj)) (s:Shared) (σ:St) (H:Hp) (vs:List V) (us:List Value) (Q:St→Hp→Prop),Inv X pins σ H s→Vals vs us→t vs σ H Q→
    wpAny (model X.prog X.w) X.A (assignInOrder ((assignEach ts X.env).map (·.2)) us) (fun _ s'=>∃σ' H',Inv X pins σ' H' s'∧Q σ' H') X.xe s
abbrev TSet:=V→V→V→Hp→(Hp→Prop)→Prop
def PSet(X:Cx)(t:TSet):Prop:=
  ∀(pins:List (Addr × Obj)) (s:Shared) (σ:St) (H:Hp) (o i v:V) (ov iv u:Value) (Q:Hp→Prop),Inv X pins σ H s→RelV o ov→RelV i iv→RelV v u→t o i v H Q→
    wpAny (model X.prog X.w) X.A (setItem ov iv u) (fun _ s'=>∃H',Inv X pins σ H' s'∧Q H') X.xe s
section
variable{X:Cx}{pos:Pos}
def c0b(i:Nat):TG:=fun v σ H Q=>Q (σ.set i (some v)) H
theorem a0u{i:Nat}{x:Str}(hN:X.N.Nodup)(hi:X.N[i]? = some x)(hx:Loc X.env.scope x)(hf:X.fn x=true∨X.env.scope.names.lookup x=some .local:=by first | exact .inl rfl | exact .inr rfl | assumption):PG X (.Name x pos) (c0b i):=by
  intro pins s σ H v u Q I r h
  exact wpAny_assign_Name (j0h I hN hi hx r (fun s' I'=>⟨_,H,I',h⟩) hf)
def gNil:TGs:=fun vs σ H Q=>vs=[]∧Q σ H
def gCons(t:TG)(u:TGs):TGs:=fun vs σ H Q=>∃v r,vs=v::r∧t v σ H fun σ' H'=>u r σ' H' Q
theorem e0f:PGs X [] gNil:=by
  intro pins s σ H vs us Q I r h
  obtain⟨e,h⟩:=h
  subst e
  cases r
  exact assignInOrder_nil ⟨σ,H,I,h⟩
theorem b0k{e:Expr}{es:List Expr}{t:TG}{u:TGs}(h1:PG X e t)(h2:PGs X es u)
    (hs:(assignEach (e::es) X.env).map (·.2)=assign e X.env::(assignEach es X.env).map (·.2):=by rfl):PGs X (e::es) (gCons t u):=by
  intro pins s σ H vs us Q I r h
  obtain⟨v,vr,e1,h⟩:=h
  subst e1
  cases r with
  | cons r rr=>
    rw[hs]
    refine assignInOrder_cons (thn (h1 pins s σ H _ _ _ I r h) fun _ s1 ⟨σ1,H1,I1,q1⟩=>?_)
    exact h2 pins s1 σ1 H1 _ _ Q I1 rr q1
def gTup(K:PySem.W.Frag)(n:Nat)(t:TGs):TG:=fun v σ H Q=>∃a xs,v=.ref a∧SqT K H a xs∧xs.length=n∧t xs σ H Q
theorem g0u{es:List Expr}{k:Nat}{t:TGs}{n:Nat}(hc:X.calm=true)(h:PGs X es t)
    (hn:(assignEach es X.env).length=n:=by rfl) (hst:(assignEach es X.env).findIdx? (·.1)=none:=by rfl):PG X (.Tuple es k pos) (gTup X.K n t):=by
  intro pins s σ H v u Q I r hw
  obtain⟨a,xs,e1,hq,hl,hw⟩:=hw
  subst e1
  cases r
  obtain⟨its,rv,ht,hz⟩:=I.tuple hq
  refine assign_Tuple_tuple (I.ok.hd hc) ht (by simp[hn,← hl,rv.length]) hst fun h' hx=>?_
  have I1:Inv X pins σ H { s with heap:=h' }:=I.kept (t':=s.toks) fun b o e=>hx b o (Nat.ne_of_lt (Heap.lt_size e)) e
  exact h pins _ σ H xs _ Q I1 (by simpa using rv) hw
def gSub(to ti:TE)(t:TSet):TG:=fun v σ H Q=>to σ H fun o H1=>ti σ H1 fun i H2=>t o i v H2 fun H3=>Q σ H3
theorem pg_sub{o i:Expr}{to ti:TE}{t:TSet}(ho:PE X o to)(hi:PE X i ti)(hs:PSet X t)
    (ha:∀v,assign (.Subscript o i pos) X.env v=(do
      let ov ← holding [v] (eval o X.env)
      let iv ← holding [v,ov] (eval i X.env)
      standAt pos
      holding [v,ov,iv] (setItem ov iv v)
      release [v,ov,iv] []):=by intro _;rfl):PG X (.Subscript o i pos) (gSub to ti t):=by
  intro pins s σ H v u Q I r h
  rw[ha]
  refine wpAny_bind (wpAny_holding (thn (ho pins s σ H _ I h) fun ov s1 ⟨x,H1,I1,r1,q1⟩=>?_))
  refine wpAny_bind (wpAny_holding (thn (hi pins s1 σ H1 _ I1 q1) fun iv s2 ⟨y,H2,I2,r2,q2⟩=>?_))
  refine wpAny_bind (wpAny_standAt (wpAny_bind (wpAny_holding (thn (hs pins s2 σ H2 x y v ov iv u _ I2 r1 r2 r q2) fun _ s3 ⟨H3,I3,q3⟩=>?_))))
  exact wpAny_release ⟨σ,H3,I3,q3⟩
def tAsg(te:TE)(g:TG):TS:=fun D σ H=>te σ H fun x H1=>g x σ H1 D.nx
theorem ps_asg{tg e:Expr}{te:TE}{g:TG}(he:PE X e te)(hg:PG X tg g)(hs:swapsWithSole [tg] e pos.line X.env=pure false:=by rfl)(hw:swappedStores [tg] e X.env=pure none:=by rfl)
    (h1:(assignEach [tg] X.env).map (·.2)=[assign tg X.env]:=by rfl):PS X (.Assign [tg] e pos) (tAsg te g):=by
  intro pins s σ H D I h
  refine wpAny_Assign_stores (thn (he pins s σ H _ I h) fun v s1 ⟨x,H1,I1,r1,q1⟩=>?_) hs hw
  rw[h1]
  exact thn (hg pins s1 σ H1 x v _ I1 r1 q1) fun _ s2 q=>q
theorem a0s{i:Nat}{x:Str}{e:Expr}{te:TE}{pos':Pos}(hN:X.N.Nodup)(hi:X.N[i]? = some x)(hx:Loc X.env.scope x)(he:PE X e te)(hs:swapsWith e (some (.Name x pos')) pos.line X.env=pure false:=by rfl)(hf:X.fn x=true∨X.env.scope.names.lookup x=some .local:=by first | exact .inl rfl | exact .inr rfl | assumption) :
    PS X (.Assign [.Name x pos'] e pos) (tAsg te (c0b i)):=by
  intro pins s σ H D I h
  refine wpAny_Assign_Name (thn (he pins s σ H _ I h) fun v s1 ⟨y,H1,I1,r1,q1⟩=>?_) hs
  exact j0h I1 hN hi hx r1 (fun s2 I2=>⟨_,H1,I2,q1⟩) hf
def tPar(i j:Nat)(ta:TA):TS:=fun D σ H=>ta σ H fun vs H1=>∃v w,vs=[v,w]∧D.nx ((σ.set i (some v)).set j (some w)) H1
theorem ps_par{i j:Nat}{x y:Str}{a b:Expr}{ta:TA}{px py pt:Pos}{kt k2 pt2}(hc:X.calm=true)(hN:X.N.Nodup)(hi:X.N[i]? = some x)(hj:X.N[j]? = some y)(hij:i≠j)
    (hx:X.env.scope.names.lookup x=some .local) (hy:X.env.scope.names.lookup y=some .local) (ha:PA X [a,b] ta)
    (hw:swappedStores [.Tuple [.Name x px,.Name y py] kt pt] (.Tuple [a,b] k2 pt2) X.env=pure (some [x,y]))
    (hs:swapsWithSole [.Tuple [.Name x px,.Name y py] kt pt] (.Tuple [a,b] k2 pt2) pos.line X.env=pure false:=by rfl) :
    PS X (.Assign [.Tuple [.Name x px,.Name y py] kt pt] (.Tuple [a,b] k2 pt2) pos) (tPar i j ta):=by
  intro pins s σ H D I h
  rw[exec_Assign_arm]
  refine wpAny_bind (wpAny_standAt ?_)
  rw[hs]
  refine wpAny_bind (wpAny_pure ?_)
  rw[if_neg (by decide)]
  refine wpAny_bind (Tuple_ (thn (ha _ pins s σ H _ I h) fun us s1 ⟨vs,H1,I1,r1,q1⟩=>?_))
  obtain⟨v,w,e1,q1⟩:=q1
  subst e1
  obtain⟨u1,u2,rfl,rv,rw'⟩:∃u1 u2,us=[u1,u2]∧RelV v u1∧RelV w u2:=by
    cases r1 with
    | cons p q=>
      cases q with
      | cons p' q'=>
        cases q'
        exact⟨_,_,rfl,p,p'⟩
  refine wpAny_newObj_type ?_ (by show 2≤sizeLine;decide)
  have I2:Inv X pins σ H1 { s1 with heap:=s1.heap.push { cls:=.type "tuple",data:=.seq [u1,u2].toArray } }:=I1.kept (t':=s1.toks) fun b o e=>Heap.get?_push_of_some _ e
  rw[hw]
  refine wpAny_bind (wpAny_pure ?_)
  show wpAny (model X.prog X.w) X.A (do rule "assign.swapped-stores";let items ← unpackItems (.ref s1.heap.objs.size) 2 none;assignInOrder [fun v=>bindName X.env y v,fun v=>bindName X.env x v] items.reverse;pure Flow.next) _ _ _
  refine wpAny_bind (wpAny_rule (wpAny_bind (unpackItems_tuple (items:=#[u1,u2]) (I.ok.hd hc) (IsTup.new s1.heap _) fun h' hx'=>?_)))
  have I3:=I2.kept (h':=h') (t':=s1.toks) fun b o e=>hx' b o (Nat.ne_of_lt (Heap.lt_size e)) e
  show wpAny _ _ (assignInOrder [fun v=>bindName X.env y v,fun v=>bindName X.env x v] [u2,u1] >>= fun _=>pure Flow.next) _ _ _
  refine wpAny_bind (assignInOrder_cons (wpAny_bindName (j0h I3 hN hj (.inl hy) rw' (fun s2 I4=>?_) (.inr hy))))
  refine assignInOrder_cons (wpAny_bindName (j0h I4 hN hi (.inl hx) rv (fun s3 I5=>assignInOrder_nil (wpAny_pure ?_)) (.inr hx)))
  rw[List.set_comm _ _ (Ne.symm hij)]at I5
  exact⟨_,H1,I5,q1⟩
end
section
variable{X:Cx}{pos:Pos}
def tWhile(c:TT)(tb:TS):TS:=fun D σ H=>∃W:Nat→St→Hp→Prop,(∃m,W m σ H)∧∀m σ H,W m σ H→
  c σ H fun b H1=>if b=true then ∃N:St→Hp→Prop,(∀σ' H',N σ' H'→∃m',m' < m∧W m' σ' H')∧tb { D with nx:=N,ct:=N,bk:=D.nx } σ H1 else D.nx σ H1
theorem m0w{c:Expr}{body:List Stmt}{tc:TT}{tb:TS}(hp:PassesOwn (model X.prog X.w) X.A X.env X.xe)(hc:PT X c tc)(hb:PSs X body tb):PS X (.While c body [] pos) (tWhile tc tb):=by
  intro pins s σ H D I h
  obtain⟨W,⟨m0,w0⟩,turn⟩:=h
  refine wpAny_While (codeAny_whileLoop (fun n s'=>∃σ' H',Inv X pins σ' H' s'∧W n σ' H') ?_ m0 ⟨σ,H,I,w0⟩)
  rintro n s1 ⟨σ1,H1,I1,w1⟩
  refine wpAny_passesOwn hp (thn (hc pins s1 σ1 H1 _ I1 (turn n σ1 H1 w1)) fun b s2 ⟨H2,I2,q2⟩=>?_)
  cases b with
  | true=>
    obtain⟨N,hN,q2⟩:=q2
    rw[if_pos rfl]
    refine wpAny_passesOwn hp (thn (hb pins s2 σ1 H2 _ I2 q2) fun f s3 q3=>?_)
    cases f with
    | next=>
      obtain⟨σ3,H3,I3,n3⟩:=q3
      obtain⟨m',hm,w3⟩:=hN σ3 H3 n3
      exact⟨m',hm,σ3,H3,I3,w3⟩
    | cont=>
      obtain⟨σ3,H3,I3,n3⟩:=q3
      obtain⟨m',hm,w3⟩:=hN σ3 H3 n3
      exact⟨m',hm,σ3,H3,I3,w3⟩
    | brk=>exact q3
    | ret v=>exact q3
  | false=>
    rw[if_neg Bool.false_ne_true]
    exact wpAny_execs_nil ⟨σ1,H2,I2,q2⟩
end
structure It where
  go:Nat→Hp→Prop
  yld:Nat→Hp→V→Hp→Prop
  stop:Nat→Hp→Prop
def FpOk(X:Cx)(pins:List (Addr × Obj))(H:Hp)(b:Addr):Prop:=
  H b=none∧b≠X.env.locals∧b ∉ X.fs∧(b∈X.ex∨X.s₀.heap.objs.size≤b)∧(∀x c,X.env.cells.lookup x=some c→c≠b)∧∀p∈X.pn++pins,p.1≠b
theorem Inv.fpOk{X:Cx}{pins:List (Addr × Obj)}{σ:St}{H H':Hp}{s:Shared}{b:Addr}(I:Inv X pins σ H s)(hb:s.heap.objs.size≤b)(hn:H' b=none):FpOk X pins H' b:=by
  refine⟨hn,Nat.ne_of_gt (Nat.lt_of_lt_of_le I.lt hb),I.nofs hb,.inr (Nat.le_trans I.sz hb),fun x c e z=>?_,fun p hp z=>?_⟩
  · obtain⟨v,q⟩:=I.cell x c e
    exact absurd (Nat.lt_of_lt_of_le q.lt (by rw[z];exact hb)) (Nat.lt_irrefl _)
  · exact absurd (Nat.lt_of_lt_of_le (Heap.lt_size (I.pin p hp).1) (by rw[z];exact hb)) (Nat.lt_irrefl _)
structure Turn(P:Program)(w:World)(K:PySem.W.Frag)(tg:Expr)(J:It)(fp:List Addr)(it:Addr)(tn:Nat→Heap→Prop):Prop where
  mem:it∈fp
  obj:∀i h,tn i h→∀b∈fp,∃o,h.get? b=some o∧∀v,o.data≠.cell v
  keep:∀i h h',tn i h→(∀b∈fp,∀o,h.get? b=some o→h'.get? b=some o)→tn i h'
  item:∀(X:Cx),X.prog=P→X.w=w→X.K=K→X.calm=true→∀(i:Nat) (pins:List (Addr × Obj)) (s:Shared) (σ:St) (H:Hp) (E:Value→Shared→Prop),Inv X pins σ H s→(∀b∈fp,FpOk X pins H b)→tn i s.heap→J.go i H→
    wpAny (model P w) X.A (pyNext (.ref it)) (fun r s1=>∃u,r=some u∧
      wpAny (model P w) X.A (letOwnedTupleGo tg (.ref it) u) (fun _ s2=>∃x H',Inv X pins σ H' s2∧RelV x u∧J.yld i H x H'∧tn (i+1) s2.heap∧∀b∈fp,H' b=none) E s1) E s
  done:∀(X:Cx),X.prog=P→X.w=w→X.K=K→X.calm=true→∀(i:Nat) (pins:List (Addr × Obj)) (s:Shared) (σ:St) (H:Hp) (E:Value→Shared→Prop),Inv X pins σ H s→(∀b∈fp,FpOk X pins H b)→tn i s.heap→J.stop i H→
    wpAny (model P w) X.A (pyNext (.ref it)) (fun r s1=>r=none∧Inv X pins σ H s1) E s
  self:∀(A:Around) (i:Nat) (s:Shared) (Q:Value→Shared→Prop) (E:Value→Shared→Prop),tn i s.heap→Q (.ref it) s→wpAny (model P w) A (pyIter (.ref it)) Q E s
abbrev TI:=St→Hp→(It→Hp→Prop)→Prop
def PIE(X:Cx)(pins:List (Addr × Obj))(σ:St)(tg:Expr)(R:It→Hp→Prop)(itv:Value)(s2:Shared):Prop:=
  ∃(it:Addr) (fp:List Addr) (tn:Nat→Heap→Prop) (J:It) (H':Hp),itv=.ref it∧Inv X pins σ H' s2∧Turn X.prog X.w X.K tg J fp it tn∧tn 0 s2.heap∧(∀b∈fp,FpOk X pins H' b)∧R J H'
def PI(X:Cx)(tg iter:Expr)(wi:TI):Prop:=
  ∀(pins:List (Addr × Obj)) (s:Shared) (σ:St) (H:Hp) (R:It→Hp→Prop),Inv X pins σ H s→wi σ H R→
    wpAny (model X.prog X.w) X.A (eval iter X.env) (fun v s1=>wpAny (model X.prog X.w) X.A (pyIter v) (PIE X pins σ tg R) X.xe s1) X.xe s
theorem go_of{M:Model}{A:Around}{E:Value→Shared→Prop}{s:Shared}{tg:Expr}{it:Addr}{u:Value}{o:Obj}{n:String}{vs:Array Value}{Q:Unit→Shared→Prop}(ho:s.heap.get? it=some o)(hc:o.cls=.type n)(hd:o.data=.fields vs)
    (hn:["enumerate","zip","dict_itemiterator","dict_reverseitemiterator","odict_iterator","itertools.zip_longest","itertools.pairwise"].contains n=false) (hQ:Q () s):wpAny M A (letOwnedTupleGo tg (.ref it) u) Q E s:=by
  unfold letOwnedTupleGo
  cases tg <;>first
    | exact wpAny_pure hQ
    | (cases u <;>first
        | exact wpAny_pure hQ
        | (refine wpAny_bind (wpAny_load ho ?_)
           rw[hc,hd]
           show wpAny M A (if(["enumerate","zip","dict_itemiterator","dict_reverseitemiterator","odict_iterator","itertools.zip_longest","itertools.pairwise"].contains n && vs[0]? == some (rawInt _))=true then _ else _) Q E s
           rw[if_neg (by intro h;rw[hn,Bool.false_and]at h;cases h)]
           exact wpAny_pure hQ))
def Itl(K:PySem.W.Frag)(a:Addr):It:=
  ⟨fun i H=>∃xs x,SqL K H a xs∧xs[i]? = some x,fun i H x H'=>H'=H∧∀xs,SqL K H a xs→xs[i]? = some x,fun i H=>∃xs,SqL K H a xs∧xs.length≤i⟩
def Itt(K:PySem.W.Frag)(a:Addr):It:=
  ⟨fun i H=>∃xs x,SqT K H a xs∧xs[i]? = some x,fun i H x H'=>H'=H∧∀xs,SqT K H a xs→xs[i]? = some x,fun i H=>∃xs,SqT K H a xs∧xs.length≤i⟩
def Itr(lo:Int)(n:Nat):It:=⟨fun i _=>i < n,fun i H x H'=>H'=H∧x=.int (lo+i),fun i _=>n≤i⟩
theorem turn_list{P:Program}{w:World}{K:PySem.W.Frag}{tg:Expr}(a it:Addr):Turn P w K tg (Itl K a) [it] it (fun i h=>h.IsListIter it a i)where
  mem:=by simp
  obj:=fun i h st b hb=>by
    have e:b=it:=by simpa using hb
    subst e
    obtain⟨o,e,c,d⟩:=st
    exact⟨o,e,fun v z=>by rw[d]at z;cases z⟩
  keep:=fun i h h' st k=>st.at fun o e=>k it (by simp) o e
  item:=by
    intro X hP hw hK hc i pins s σ H E I hf st hg
    subst hP hw hK
    obtain⟨xs,x,hq,hx⟩:=hg
    obtain⟨its,rv,p,hz⟩:=I.list hq
    obtain⟨u,hu,ru⟩:=rv.get hx
    obtain⟨f0,f1,f2,f3,f4,f5⟩:=hf it (by simp)
    refine wpAny_pyNext_list_item st p.isList (x:=u) (by simpa using hu) fun h' st' sb=>?_
    have I1:Inv X pins σ H { s with heap:=h' }:=I.turned (t':=s.toks) (fun b o hb e=>(sb.2 b hb).trans e) f0 f1 f3 f4 f5
    obtain⟨o,e,c,d⟩:=id st'
    exact⟨u,rfl,go_of (s:={ s with heap:=h' }) e c d (by decide) ⟨x,H,I1,ru,⟨rfl,fun ys hy=>by rw[I.list_inj hy hq];exact hx⟩,st',fun b hb=>(hf b hb).1⟩⟩
  done:=by
    intro X hP hw hK hc i pins s σ H E I hf st hg
    subst hP hw hK
    obtain⟨xs,hq,hx⟩:=hg
    obtain⟨its,rv,p,hz⟩:=I.list hq
    obtain⟨f0,f1,f2,f3,f4,f5⟩:=hf it (by simp)
    have hl:=rv.length
    exact wpAny_pyNext_list_end (I.ok.hd hc) st p.isList (by simp;omega) fun h' eb=>⟨rfl,I.turned (t':=s.toks) (fun b o hb e=>eb b o hb e) f0 f1 f3 f4 f5⟩
  self:=fun _ _ _ _ _ st h=>wpAny_pyIter_listiter st h
theorem turn_tuple{P:Program}{w:World}{K:PySem.W.Frag}{tg:Expr}(a it:Addr):Turn P w K tg (Itt K a) [it] it (fun i h=>h.IsTupleIter it a i)where
  mem:=by simp
  obj:=fun i h st b hb=>by
    have e:b=it:=by simpa using hb
    subst e
    obtain⟨o,e,c,d⟩:=st
    exact⟨o,e,fun v z=>by rw[d]at z;cases z⟩
  keep:=fun i h h' st k=>st.at fun o e=>k it (by simp) o e
  item:=by
    intro X hP hw hK hc i pins s σ H E I hf st hg
    subst hP hw hK
    obtain⟨xs,x,hq,hx⟩:=hg
    obtain⟨its,rv,p,hz⟩:=I.tuple hq
    obtain⟨u,hu,ru⟩:=rv.get hx
    obtain⟨f0,f1,f2,f3,f4,f5⟩:=hf it (by simp)
    refine wpAny_pyNext_tuple_item st (show s.heap.IsTuple a its.toArray from p) (x:=u) (by simpa using hu) fun h' st' sb=>?_
    have I1:Inv X pins σ H { s with heap:=h' }:=I.turned (t':=s.toks) (fun b o hb e=>(sb.2 b hb).trans e) f0 f1 f3 f4 f5
    obtain⟨o,e,c,d⟩:=id st'
    exact⟨u,rfl,go_of (s:={ s with heap:=h' }) e c d (by decide) ⟨x,H,I1,ru,⟨rfl,fun ys hy=>by rw[I.tuple_inj hy hq];exact hx⟩,st',fun b hb=>(hf b hb).1⟩⟩
  done:=by
    intro X hP hw hK hc i pins s σ H E I hf st hg
    subst hP hw hK
    obtain⟨xs,hq,hx⟩:=hg
    obtain⟨its,rv,p,hz⟩:=I.tuple hq
    obtain⟨f0,f1,f2,f3,f4,f5⟩:=hf it (by simp)
    have hl:=rv.length
    exact wpAny_pyNext_tuple_end (I.ok.hd hc) st (show s.heap.IsTuple a its.toArray from p) (by simp;omega) fun h' eb=>⟨rfl,I.turned (t':=s.toks) (fun b o hb e=>eb b o hb e) f0 f1 f3 f4 f5⟩
  self:=fun _ _ _ _ _ st h=>wpAny_pyIter_tupleiter st h
theorem turn_range{P:Program}{w:World}{K:PySem.W.Frag}{tg:Expr}(it:Addr)(lo:Int)(n:Nat):Turn P w K tg (Itr lo n) [it] it (fun i h=>IsRangeIter h it (lo+(i:Nat) * 1) ((n:Int) - (i:Nat)) 1)where
  mem:=by simp
  obj:=fun i h st b hb=>by
    have e:b=it:=by simpa using hb
    subst e
    exact⟨_,st,fun v z=>by
      have z':Data.fields _=Data.cell v:=z
      cases z'⟩
  keep:=fun i h h' st k=>k it (by simp) _ st
  item:=by
    intro X hP hw hK hc i pins s σ H E I hf st hg
    subst hP hw hK
    obtain⟨f0,f1,f2,f3,f4,f5⟩:=hf it (by simp)
    have W:=Walks.range (prog:=X.prog) (w:=X.w) (I.ok.hd hc) it lo 1 n
    refine W.item i s _ _ hg st fun v h' tk hv st' kk=>?_
    obtain⟨t,rfl⟩:=hv
    have I1:Inv X pins σ H { s with heap:=h',toks:=tk }:=I.turned (fun b o hb e=>kk b o (by simpa using hb) e) f0 f1 f3 f4 f5
    refine⟨_,rfl,go_of (s:={ s with heap:=h',toks:=tk }) (n:="range_iterator") st' rfl rfl (by decide) ⟨.int (lo+i),H,I1,⟨t,?_⟩,⟨rfl,rfl⟩,st',fun b hb=>(hf b hb).1⟩⟩
    rw[Int.mul_one]
  done:=by
    intro X hP hw hK hc i pins s σ H E I hf st hg
    subst hP hw hK
    obtain⟨f0,f1,f2,f3,f4,f5⟩:=hf it (by simp)
    exact wpAny_pyNext_range_end (I.ok.hd hc) st (by have:n≤i:=hg;omega) fun h' eb=>⟨rfl,I.turned (t':=s.toks) (fun b o hb e=>eb b o hb e) f0 f1 f3 f4 f5⟩
  self:=fun _ _ _ _ _ st h=>wpAny_pyIter_rangeiter st h
end L2
namespace L2
open PySem PySem.Spec PyProof.Rows
section
variable{X:Cx}{tg:Expr}
def iList(K:PySem.W.Frag)(tl:TE):TI:=fun σ H R=>tl σ H fun x H1=>∃a,x=.ref a∧(∃xs,SqL K H1 a xs)∧R (Itl K a) H1
def iTup(K:PySem.W.Frag)(tl:TE):TI:=fun σ H R=>tl σ H fun x H1=>∃a,x=.ref a∧(∃xs,SqT K H1 a xs)∧R (Itt K a) H1
theorem k0b{l:Expr}{tl:TE}(hl:PE X l tl):PI X tg l (iList X.K tl):=by
  intro pins s σ H R I h
  refine thn (hl pins s σ H _ I h) fun v s1 ⟨x,H1,I1,r1,q1⟩=>?_
  obtain⟨a,e,⟨xs,hq⟩,q⟩:=q1
  subst e
  cases r1
  obtain⟨its,rv,p,hz⟩:=I1.list hq
  refine wpAny_pyIter_list p.isList ?_
  refine⟨s1.heap.objs.size,[s1.heap.objs.size],_,_,H1,rfl,I1.kept (t':=s1.toks) fun b o e=>Heap.get?_push_of_some _ e,turn_list a _,⟨_,Heap.get?_push_size _ rfl,rfl,rfl⟩,fun b hb=>?_,q⟩
  have e:b=s1.heap.objs.size:=by simpa using hb
  subst e
  exact I1.fpOk (Nat.le_refl _) (I1.hok.fresh (Nat.le_refl _))
theorem e0m{l:Expr}{tl:TE}(hl:PE X l tl):PI X tg l (iTup X.K tl):=by
  intro pins s σ H R I h
  refine thn (hl pins s σ H _ I h) fun v s1 ⟨x,H1,I1,r1,q1⟩=>?_
  obtain⟨a,e,⟨xs,hq⟩,q⟩:=q1
  subst e
  cases r1
  obtain⟨its,rv,p,hz⟩:=I1.tuple hq
  refine wpAny_pyIter_tuple (show s1.heap.IsTuple a its.toArray from p) ?_
  refine⟨s1.heap.objs.size,[s1.heap.objs.size],_,_,H1,rfl,I1.kept (t':=s1.toks) fun b o e=>Heap.get?_push_of_some _ e,turn_tuple a _,⟨_,Heap.get?_push_size _ rfl,rfl,rfl⟩,fun b hb=>?_,q⟩
  have e:b=s1.heap.objs.size:=by simpa using hb
  subst e
  exact I1.fpOk (Nat.le_refl _) (I1.hok.fresh (Nat.le_refl _))
theorem range_it{pins:List (Addr × Obj)}{σ:St}{H:Hp}{s:Shared}{R:It→Hp→Prop}{E:Value→Shared→Prop}{lo hi:Int}{t u v:Tok}{tk:Nat}(I:Inv X pins σ H s)(h1:-(2 ^ 62)≤lo)(h2:lo < 2 ^ 62)(h3:-(2 ^ 62)≤hi)(h4:hi < 2 ^ 62)
    (q:R (Itr lo (hi - lo).toNat) H):wpAny (model X.prog X.w) X.A (pyIter (.ref s.heap.objs.size)) (PIE X pins σ tg R) E { s with heap:=s.heap.push { cls:=.type "range",data:=.fields #[.int lo t,.int hi u,.int 1 v] },toks:=tk }:=by
  refine wpAny_pyIter_range (IsRange.new ..) (small_one h1 h2 h3 h4) ?_
  have I1:Inv X pins σ H { s with heap:=s.heap.push { cls:=.type "range",data:=.fields #[.int lo t,.int hi u,.int 1 v] },toks:=tk }:=I.kept fun b o e=>Heap.get?_push_of_some _ e
  refine⟨(s.heap.push { cls:=.type "range",data:=.fields #[.int lo t,.int hi u,.int 1 v] }).objs.size,[(s.heap.push { cls:=.type "range",data:=.fields #[.int lo t,.int hi u,.int 1 v] }).objs.size],_,_,H,rfl,
    I1.kept (t':=tk) fun b o e=>Heap.get?_push_of_some _ e,turn_range _ lo (hi - lo).toNat,?_,fun b hb=>?_,q⟩
  · have e1:lo+((0:Nat):Int) * 1=lo:=by simp
    have e2:(((hi - lo).toNat:Nat):Int) - ((0:Nat):Int)=Builtin.Range.rangeSize lo hi 1:=by rw[rangeSize_one];split <;>omega
    show IsRangeIter _ _ (lo+((0:Nat):Int) * 1) ((((hi - lo).toNat:Nat):Int) - ((0:Nat):Int)) 1
    rw[e1,e2]
    exact Heap.get?_push_size _ rfl
  · have e:b=(s.heap.push { cls:=.type "range",data:=.fields #[.int lo t,.int hi u,.int 1 v] }).objs.size:=by simpa using hb
    subst e
    exact I1.fpOk (Nat.le_refl _) (I1.hok.fresh (Nat.le_refl _))
def iRng1(ta:TA):TI:=fun σ H R=>ta σ H fun vs H1=>∃j:Int,vs=[.int j]∧-(2 ^ 62)≤j∧j < 2 ^ 62∧R (Itr 0 j.toNat) H1
theorem b0v{a:Expr}{ta:TA}{p pos:Pos}(hg:Gl X "range")(hm:X.mg "range"=none)(ha:PA X [a] ta)(hs:starEach [a] X.env=[(false,eval a X.env)]:=by rfl):PI X tg (.Call (.Name "range" p) [a] [] pos) (iRng1 ta):=by
  intro pins s σ H R I h
  refine Call_ (ld_blt I hg hm boot_range (PyProof.Rows.callWith_type1 (thn (ha pos pins s σ H _ I h) fun us s1 ⟨vs,H1,I1,r1,q1⟩=>?_) hs rfl))
  obtain⟨j,e,q1,q2,q⟩:=q1
  subst e
  cases r1 with
  | cons r rr=>
    cases rr
    obtain⟨t,rfl⟩:=r
    exact call_range_1 (range_it I1 (by omega) (by omega) q1 q2 (by simpa using q))
def tFor(wi:TI)(g:TG)(tb:TS):TS:=fun D σ H=>wi σ H fun J H1=>∃W:Nat→Nat→St→Hp→Prop,(∃m,W 0 m σ H1)∧∀i m σ H,W i m σ H→
  (J.stop i H∧D.nx σ H)∨(J.go i H∧∃N:St→Hp→Prop,(∀σ' H',N σ' H'→∃m',m' < m∧W (i+1) m' σ' H')∧∀x H',J.yld i H x H'→g x σ H' fun σ2 H2=>tb { D with nx:=N,ct:=N,bk:=D.nx } σ2 H2)
def pinsAt(fp:List Addr)(h:Heap):List (Addr × Obj):=fp.filterMap fun b=>(h.get? b).map fun o=>(b,o)
theorem d0c{fp:List Addr}{h:Heap}{b:Addr}{o:Obj}(hb:b∈fp)(e:h.get? b=some o):(b,o)∈pinsAt fp h:=List.mem_filterMap.mpr ⟨b,hb,by rw[e];rfl⟩
theorem of_pinsAt{fp:List Addr}{h:Heap}{p:Addr × Obj}(hp:p∈pinsAt fp h):p.1∈fp∧h.get? p.1=some p.2:=by
  obtain⟨b,hb,e⟩:=List.mem_filterMap.mp hp
  cases q:h.get? b with
  | none=>rw[q]at e;cases e
  | some o=>
    rw[q]at e
    have e':(b,o)=p:=Option.some.inj e
    subst e'
    exact⟨hb,q⟩
theorem Inv.pinned{pins:List (Addr × Obj)}{σ:St}{H:Hp}{s:Shared}{fp:List Addr}(I:Inv X pins σ H s)(hf:∀b∈fp,FpOk X pins H b)(ho:∀b∈fp,∃o,s.heap.get? b=some o∧∀v,o.data≠.cell v):Inv X (pins++pinsAt fp s.heap) σ H s:=
  I.pins_of fun p hp=>(List.mem_append.mp hp).elim (fun z=>I.pin p (List.mem_append_right _ z)) fun z=>by
    obtain⟨hb,e⟩:=of_pinsAt z
    obtain⟨f0,f1,f2,_⟩:=hf p.1 hb
    obtain⟨o,e',d⟩:=ho p.1 hb
    rw[e]at e';cases e'
    exact⟨e,f0,f1,f2,d⟩
theorem Inv.unpinned{pins pl:List (Addr × Obj)}{σ:St}{H:Hp}{s:Shared}(I:Inv X (pins++pl) σ H s):Inv X pins σ H s:=I.pins_of fun p hp=>I.pin p (List.mem_append_right _ (List.mem_append_left _ hp))
theorem c0i{iter:Expr}{body:List Stmt}{wi:TI}{g:TG}{tb:TS}{pos:Pos}(hp:PassesOwn (model X.prog X.w) X.A X.env X.xe)(hc:X.calm=true)(hi:PI X tg iter wi)(hg:PG X tg g)(hb:PSs X body tb)
    (hs:∀x,foldedSetIterable iter X.env x=pure x:=by intro _;rfl):PS X (.For tg iter body [] pos) (tFor wi g tb):=by
  intro pins s σ H D I h
  refine wpAny_For (thn (hi pins s σ H _ I h) fun v s1 h1=>thn h1 fun itv s2 h2=>?_) hs
  obtain⟨it,fp,tn,J,H2,e,I2,T,st2,f2,W,⟨m0,w0⟩,turn⟩:=h2
  subst e
  have stat:∀{H':Hp},(∀b∈fp,H' b=none)→∀b∈fp,FpOk X pins H' b:=fun hn b hb=>⟨hn b hb,(f2 b hb).2⟩
  refine codeAny_forLoop_any (fun n s'=>∃i σ' H',Inv X pins σ' H' s'∧tn i s'.heap∧(∀b∈fp,H' b=none)∧W i n σ' H') ?_ m0 ⟨0,σ,H2,I2,st2,fun b hb=>(f2 b hb).1,w0⟩
  rintro n s3 ⟨i,σ3,H3,I3,st3,fr3,w3⟩
  rcases turn i n σ3 H3 w3 with ⟨stop,qn⟩ | ⟨go,N,hN,step⟩
  · refine wpAny_passesOwn hp (thn (T.done X rfl rfl rfl hc i pins s3 σ3 H3 X.xe I3 (stat fr3) st3 stop) fun r s4 ⟨hr,I4⟩=>?_)
    subst hr
    exact wpAny_execs_nil ⟨σ3,H3,I4,qn⟩
  · refine wpAny_passesOwn hp (thn (T.item X rfl rfl rfl hc i pins s3 σ3 H3 X.xe I3 (stat fr3) st3 go) fun r s4 ⟨u,hr,h4⟩=>?_)
    subst hr
    refine wpAny_passesOwn hp (thn h4 fun _ s5 ⟨x,H5,I5,r5,y5,st5,fr5⟩=>?_)
    have I5':=I5.pinned (stat fr5) (T.obj _ _ st5)
    refine wpAny_passesOwn hp (thn (hg _ s5 σ3 H5 x u _ I5' r5 (step x H5 y5)) fun _ s6 ⟨σ6,H6,I6,q6⟩=>?_)
    refine wpAny_passesOwn hp (thn (hb _ s6 σ6 H6 _ I6 q6) fun f s7 q7=>?_)
    have again:∀{σ7:St} {H7:Hp},Inv X (pins++pinsAt fp s5.heap) σ7 H7 s7→N σ7 H7→∃m,m < n∧∃i σ' H',Inv X pins σ' H' s7∧tn i s7.heap∧(∀b∈fp,H' b=none)∧W i m σ' H':=fun{σ7 H7} I7 n7=>by
      obtain⟨m',hm,w7⟩:=hN σ7 H7 n7
      refine⟨m',hm,i+1,σ7,H7,I7.unpinned,T.keep _ _ _ st5 fun b hb o e=>(I7.pin (b,o) (List.mem_append_right _ (List.mem_append_right _ (d0c hb e)))).1,fun b hb=>?_,w7⟩
      obtain⟨o,e,d⟩:=T.obj _ _ st5 b hb
      exact(I7.pin (b,o) (List.mem_append_right _ (List.mem_append_right _ (d0c hb e)))).2.1
    cases f with
    | next=>obtain⟨σ7,H7,I7,n7⟩:=q7;exact again I7 n7
    | cont=>obtain⟨σ7,H7,I7,n7⟩:=q7;exact again I7 n7
    | brk=>obtain⟨σ7,H7,I7,q7⟩:=q7;exact⟨σ7,H7,I7.unpinned,q7⟩
    | ret v=>obtain⟨x7,σ7,H7,I7,r7,q7⟩:=q7;exact⟨x7,σ7,H7,I7.unpinned,r7,q7⟩
end
theorem h0g{K:PySem.W.Frag}{a:Addr}{xs:List V}{g:TG}{tb:TS}{D:Ends}{σ:St}{H:Hp}(Pv:Nat→St→Hp→Prop)(h0:Pv 0 σ H)(hl:∀i σ H,i≤xs.length→Pv i σ H→SqL K H a xs)
    (hs:∀i x σ H,xs[i]? = some x→Pv i σ H→g x σ H fun σ2 H2=>tb { D with nx:=Pv (i+1),ct:=Pv (i+1),bk:=D.nx } σ2 H2) (hd:∀σ H,Pv xs.length σ H→D.nx σ H) :
    ∃W:Nat→Nat→St→Hp→Prop,(∃m,W 0 m σ H)∧∀i m σ H,W i m σ H→
      ((Itl K a).stop i H∧D.nx σ H)∨((Itl K a).go i H∧∃N:St→Hp→Prop,(∀σ' H',N σ' H'→∃m',m' < m∧W (i+1) m' σ' H')∧∀x H',(Itl K a).yld i H x H'→g x σ H' fun σ2 H2=>tb { D with nx:=N,ct:=N,bk:=D.nx } σ2 H2):=by
  refine⟨fun i m σ H=>m=xs.length - i∧i≤xs.length∧Pv i σ H,⟨xs.length,by simp,Nat.zero_le _,h0⟩,?_⟩
  rintro i m σ H ⟨rfl,hi,p⟩
  have q:=hl i σ H hi p
  by_cases hlt:i < xs.length
  · refine .inr ⟨⟨xs,xs[i],q,by simp[hlt]⟩,Pv (i+1),fun σ' H' p'=>⟨xs.length - (i+1),by omega,rfl,hlt,p'⟩,fun x H' y=>?_⟩
    obtain⟨e,y⟩:=y
    subst e
    exact hs i x σ _ (y xs q) p
  · have e:i=xs.length:=by omega
    subst e
    exact .inl ⟨⟨xs,q,Nat.le_refl _⟩,hd σ H p⟩
theorem h0f{lo:Int}{n:Nat}{g:TG}{tb:TS}{D:Ends}{σ:St}{H:Hp}(Pv:Nat→St→Hp→Prop)(h0:Pv 0 σ H)
    (hs:∀i σ H,i < n→Pv i σ H→g (.int (lo+i)) σ H fun σ2 H2=>tb { D with nx:=Pv (i+1),ct:=Pv (i+1),bk:=D.nx } σ2 H2) (hd:∀σ H,Pv n σ H→D.nx σ H) :
    ∃W:Nat→Nat→St→Hp→Prop,(∃m,W 0 m σ H)∧∀i m σ H,W i m σ H→
      ((Itr lo n).stop i H∧D.nx σ H)∨((Itr lo n).go i H∧∃N:St→Hp→Prop,(∀σ' H',N σ' H'→∃m',m' < m∧W (i+1) m' σ' H')∧∀x H',(Itr lo n).yld i H x H'→g x σ H' fun σ2 H2=>tb { D with nx:=N,ct:=N,bk:=D.nx } σ2 H2):=by
  refine⟨fun i m σ H=>m=n - i∧i≤n∧Pv i σ H,⟨n,by simp,Nat.zero_le _,h0⟩,?_⟩
  rintro i m σ H ⟨rfl,hi,p⟩
  by_cases hlt:i < n
  · refine .inr ⟨hlt,Pv (i+1),fun σ' H' p'=>⟨n - (i+1),by omega,rfl,hlt,p'⟩,fun x H' y=>?_⟩
    obtain⟨e,y⟩:=y
    subst e y
    exact hs i σ _ hlt p
  · have e:i=n:=by omega
    subst e
    exact .inl ⟨Nat.le_refl _,hd σ H p⟩
end L2
namespace L2
open PySem PySem.Spec PyProof.Rows
abbrev R2:=V→V→Hp→VK→Prop
def OpR(X:Cx)(f:Value→Value→Sem Value)(r:R2):Prop:=
  ∀(pins:List (Addr × Obj)) (s:Shared) (σ:St) (H:Hp) (x y:V) (v u:Value) (Q:VK),Inv X pins σ H s→RelV x v→RelV y u→r x y H Q→
    wpAny (model X.prog X.w) X.A (f v u) (EP X pins σ Q) X.xe s
def UnR(X:Cx)(f:Value→Sem Value)(r:V→Hp→VK→Prop):Prop:=
  ∀(pins:List (Addr × Obj)) (s:Shared) (σ:St) (H:Hp) (x:V) (v:Value) (Q:VK),Inv X pins σ H s→RelV x v→r x H Q→
    wpAny (model X.prog X.w) X.A (f v) (EP X pins σ Q) X.xe s
def CallR(X:Cx)(f:Value)(r:List V→Hp→VK→Prop):Prop:=
  ∀(pins:List (Addr × Obj)) (s:Shared) (σ:St) (H:Hp) (xs:List V) (us:List Value) (Q:VK),Inv X pins σ H s→Vals xs us→r xs H Q→
    wpAny (model X.prog X.w) X.A (call f us) (EP X pins σ Q) X.xe s
def tOp(r:R2)(ta tb:TE):TE:=fun σ H Q=>ta σ H fun x H1=>tb σ H1 fun y H2=>r x y H2 Q
def tUn(r:V→Hp→VK→Prop)(ta:TE):TE:=fun σ H Q=>ta σ H fun x H1=>r x H1 Q
def rI(C:Int→Int→Prop)(g:Int→Int→V):R2:=fun x y H Q=>∃i j,x=.int i∧y=.int j∧C i j∧Q (g i j) H
def rI0(g:Int→Int→V):R2:=fun x y H Q=>∃i j,x=.int i∧y=.int j∧Q (g i j) H
def rU(g:Int→V):V→Hp→VK→Prop:=fun x H Q=>∃i,x=.int i∧Q (g i) H
section
variable{X:Cx}{a b c:Expr}{ta tb tc:TE}{pos:Pos}
theorem binT(ha:PE X a ta)(hb:PE X b tb){pins:List (Addr × Obj)}{s:Shared}{σ:St}{H:Hp}{R:V→V→Hp→Prop}(I:Inv X pins σ H s)
    (h:ta σ H fun x H1=>tb σ H1 fun y H2=>R x y H2) {Q:Value→Shared→Prop} {f:Value→Value→Sem Value}
    (hf:∀v u s2 x y H2,Inv X pins σ H2 s2→RelV x v→RelV y u→R x y H2→wpAny (model X.prog X.w) X.A (f v u) Q X.xe s2) :
    wpAny (model X.prog X.w) X.A (eval a X.env) (fun v s₁=>wpAny (model X.prog X.w) X.A (eval b X.env) (fun u s₂=>wpAny (model X.prog X.w) X.A (f v u) Q X.xe s₂) X.xe s₁) X.xe s:=by
  refine thn (ha pins s σ H _ I h) fun v s1 ⟨x,H1,I1,r1,q1⟩=>?_
  refine thn (hb pins s1 σ H1 _ I1 q1) fun u s2 ⟨y,H2,I2,r2,q2⟩=>?_
  exact hf v u s2 x y H2 I2 r1 r2 q2
theorem a0x{op:Operator}{r:R2}(ho:OpR X (binaryOp op) r)(ha:PE X a ta)(hb:PE X b tb):PE X (.BinOp a op b pos) (tOp r ta tb):=by
  intro pins s σ H Q I h
  exact wpAny_BinOp (binT ha hb I h fun v u s2 x y H2 I2 rx ry q=>ho pins s2 σ H2 x y v u Q I2 rx ry q)
theorem pe_un{op:UnaryOp}{r:V→Hp→VK→Prop}(ho:UnR X (unaryOp op) r)(ha:PE X a ta):PE X (.UnaryOp op a pos) (tUn r ta):=by
  intro pins s σ H Q I h
  exact UnaryOp_ (thn (ha pins s σ H _ I h) fun v s1 ⟨x,H1,I1,r1,q1⟩=>ho pins s1 σ H1 x v Q I1 r1 q1)
theorem opI{f:Value→Value→Sem Value}{C:Int→Int→Prop}{g:Int→Int→Int}
    (rule:∀(i j:Int) (t u:Tok) (s:Shared) (Q:Value→Shared→Prop) (E:Value→Shared→Prop),C i j→Q (.int (g i j) s.toks) { s with toks:=s.toks+1 }→wpAny (model X.prog X.w) X.A (f (.int i t) (.int j u)) Q E s) :
    OpR X f (rI C fun i j=>.int (g i j)):=by
  intro pins s σ H x y v u Q I rx ry h
  obtain⟨i,j,rfl,rfl,hc,q⟩:=h
  obtain⟨t,rfl⟩:=rx
  obtain⟨t',rfl⟩:=ry
  exact rule i j t t' s _ _ hc ⟨.int (g i j),H,I.tok _,⟨_,rfl⟩,q⟩
theorem opI0{f:Value→Value→Sem Value}{g:Int→Int→Int}
    (rule:∀(i j:Int) (t u:Tok) (s:Shared) (Q:Value→Shared→Prop) (E:Value→Shared→Prop),Q (.int (g i j) s.toks) { s with toks:=s.toks+1 }→wpAny (model X.prog X.w) X.A (f (.int i t) (.int j u)) Q E s) :
    OpR X f (rI0 fun i j=>.int (g i j)):=by
  intro pins s σ H x y v u Q I rx ry h
  obtain⟨i,j,rfl,rfl,q⟩:=h
  obtain⟨t,rfl⟩:=rx
  obtain⟨t',rfl⟩:=ry
  exact rule i j t t' s _ _ ⟨.int (g i j),H,I.tok _,⟨_,rfl⟩,q⟩
theorem opB0{f:Value→Value→Sem Value}{g:Int→Int→Bool}
    (rule:∀(i j:Int) (t u:Tok) (s:Shared) (Q:Value→Shared→Prop) (E:Value→Shared→Prop),Q (.bool (g i j)) s→wpAny (model X.prog X.w) X.A (f (.int i t) (.int j u)) Q E s) :
    OpR X f (rI0 fun i j=>.bl (g i j)):=by
  intro pins s σ H x y v u Q I rx ry h
  obtain⟨i,j,rfl,rfl,q⟩:=h
  obtain⟨t,rfl⟩:=rx
  obtain⟨t',rfl⟩:=ry
  exact rule i j t t' s _ _ ⟨.bl (g i j),H,I,rfl,q⟩
def CPow(i j:Int):Prop:=0≤j∧j≤1000000∧i.natAbs < 2 ^ 64
def CMul(i j:Int):Prop:=(-(2 ^ 64) < i∧i < 2 ^ 64)∨(-(2 ^ 64) < j∧j < 2 ^ 64)
theorem CMul.ok{i j:Int}(h:CMul i j):IntMulOk i j:=by
  rcases h with ⟨h1,h2⟩ | ⟨h1,h2⟩
  · exact .of_left (intBits_le_64 h1 h2)
  · exact .of_right (intBits_le_64 h1 h2)
theorem b0x:OpR X (binaryOp .Add) (rI0 fun i j=>.int (i+j)):=opI0 fun _ _ _ _ _ _ _ q=>add_int q
theorem op_sub:OpR X (binaryOp .Sub) (rI0 fun i j=>.int (i - j)):=opI0 fun _ _ _ _ _ _ _ q=>sub_int q
theorem g0x:OpR X (binaryOp .Mult) (rI CMul fun i j=>.int (i * j)):=opI fun _ _ _ _ _ _ _ hc q=>mul_int q hc.ok
theorem c0f:OpR X (binaryOp .Mod) (rI (fun _ j=>j≠0) fun i j=>.int (i.fmod j)):=opI fun _ _ _ _ _ _ _ hc q=>mod_int' hc q
theorem op_pow:OpR X (binaryOp .Pow) (rI CPow fun i j=>.int (i ^ j.toNat)):=opI fun _ _ _ _ _ _ _ hc q=>pow_int_small hc.1 hc.2.1 hc.2.2 q
theorem unI{f:Value→Sem Value}{g:Int→Int}
    (rule:∀(i:Int) (t:Tok) (s:Shared) (Q:Value→Shared→Prop) (E:Value→Shared→Prop),Q (.int (g i) s.toks) { s with toks:=s.toks+1 }→wpAny (model X.prog X.w) X.A (f (.int i t)) Q E s) :
    UnR X f (rU fun i=>.int (g i)):=by
  intro pins s σ H x v Q I rx h
  obtain⟨i,rfl,q⟩:=h
  obtain⟨t,rfl⟩:=rx
  exact rule i t s _ _ ⟨.int (g i),H,I.tok _,⟨_,rfl⟩,q⟩
theorem un_neg:UnR X (unaryOp .USub) (rU fun i=>.int (-i)):=unI fun _ _ _ _ _ q=>neg_int q
end
def scal:V→V→Bool
  | .non,.non=>true | .non,.int _=>true | .int _,.non=>true | .non,.bl _=>true | .bl _,.non=>true | .non,.str _=>true | .str _,.non=>true
  | .int _,.int _=>true | .bl _,.bl _=>true | .str _,.str _=>true | .byt _,.byt _=>true
  | .int _,.str _=>true | .str _,.int _=>true | .bl _,.str _=>true | .str _,.bl _=>true
  | _,_=>false
def rEq:R2:=fun x y H Q=>scal x y=true∧Q (.bl (decide (x=y))) H
def rNe:R2:=fun x y H Q=>scal x y=true∧Q (.bl (!decide (x=y))) H
theorem dec_int{i j:Int}:decide (V.int i=V.int j)=(i == j):=by
  rw[Bool.eq_iff_iff]
  simp
theorem dec_bl{i j:Bool}:decide (V.bl i=V.bl j)=(i == j):=by
  rw[Bool.eq_iff_iff]
  simp
theorem dec_str{i j:Str}:decide (V.str i=V.str j)=(i == j):=by
  rw[Bool.eq_iff_iff]
  simp
theorem dec_byt{i j:Array UInt8}:decide (V.byt i=V.byt j)=(i.toList == j.toList):=by
  rw[Bool.eq_iff_iff]
  cases i
  cases j
  simp
section
variable{X:Cx}{a b c:Expr}{ta tb tc:TE}{pos:Pos}
theorem b0g{pins:List (Addr × Obj)}{σ:St}{H:Hp}{s:Shared}{Q:VK}{k k':Bool}(I:Inv X pins σ H s)(q:Q (.bl k) H)(e:k=k'):EP X pins σ Q (.bool k') s:=by
  subst e
  exact⟨.bl k,H,I,rfl,q⟩
theorem c0j:OpR X (compareOp .Eq) rEq:=by
  intro pins s σ H x y v u Q I rx ry h
  obtain⟨hs,q⟩:=h
  cases x with
  | non=>
    cases rx
    cases y with
    | non=>cases ry;exact PySem.EqNone.eq_none_none (b0g I q (by simp))
    | bl j=>cases ry;exact PySem.EqNone.eq_none_bool (b0g I q (by simp))
    | int j=>obtain⟨t',rfl⟩:=ry;exact PySem.EqNone.eq_none_int (b0g I q (by simp))
    | str j=>obtain⟨t',rfl⟩:=ry;exact PySem.EqNone.eq_none_str (b0g I q (by simp))
    | _=>exact absurd (show false=true from hs) Bool.false_ne_true
  | bl i=>
    cases rx
    cases y with
    | non=>cases ry;exact PySem.EqNone.eq_bool_none (b0g I q (by simp))
    | bl j=>cases ry;exact eq_bool (b0g I q dec_bl)
    | str j=>obtain⟨t',rfl⟩:=ry;exact PySem.EqMixed.eq_bool_str (b0g I q (by simp))
    | _=>exact absurd (show false=true from hs) Bool.false_ne_true
  | int i=>
    obtain⟨t,rfl⟩:=rx
    cases y with
    | non=>cases ry;exact PySem.EqNone.eq_int_none (b0g I q (by simp))
    | int j=>obtain⟨t',rfl⟩:=ry;exact eq_int (b0g I q dec_int)
    | str j=>obtain⟨t',rfl⟩:=ry;exact PySem.EqMixed.eq_int_str (b0g I q (by simp))
    | _=>exact absurd (show false=true from hs) Bool.false_ne_true
  | str i=>
    obtain⟨t,rfl⟩:=rx
    cases y with
    | non=>cases ry;exact PySem.EqNone.eq_str_none (b0g I q (by simp))
    | bl j=>cases ry;exact PySem.EqMixed.eq_str_bool (b0g I q (by simp))
    | int j=>obtain⟨t',rfl⟩:=ry;exact PySem.EqMixed.eq_str_int (b0g I q (by simp))
    | str j=>obtain⟨t',rfl⟩:=ry;exact eq_str (b0g I q dec_str)
    | _=>exact absurd (show false=true from hs) Bool.false_ne_true
  | byt i=>
    obtain⟨t,rfl⟩:=rx
    cases y with
    | byt j=>obtain⟨t',rfl⟩:=ry;exact PySem.W.eq_bytes (b0g I q dec_byt)
    | _=>exact absurd (show false=true from hs) Bool.false_ne_true
  | _=>cases y <;>exact absurd (show false=true from hs) Bool.false_ne_true
theorem op_ne:OpR X (compareOp .NotEq) rNe:=by
  intro pins s σ H x y v u Q I rx ry h
  obtain⟨hs,q⟩:=h
  cases x with
  | non=>
    cases rx
    cases y with
    | non=>cases ry;exact PySem.EqNone.ne_none_none (b0g I q (by simp))
    | bl j=>cases ry;exact PySem.EqNone.ne_none_bool (b0g I q (by simp))
    | int j=>obtain⟨t',rfl⟩:=ry;exact PySem.EqNone.ne_none_int (b0g I q (by simp))
    | str j=>obtain⟨t',rfl⟩:=ry;exact PySem.EqNone.ne_none_str (b0g I q (by simp))
    | _=>exact absurd (show false=true from hs) Bool.false_ne_true
  | bl i=>
    cases rx
    cases y with
    | non=>cases ry;exact PySem.EqNone.ne_bool_none (b0g I q (by simp))
    | bl j=>cases ry;exact ne_bool (b0g I q (congrArg not dec_bl))
    | str j=>obtain⟨t',rfl⟩:=ry;exact PySem.EqMixed.ne_bool_str (b0g I q (by simp))
    | _=>exact absurd (show false=true from hs) Bool.false_ne_true
  | int i=>
    obtain⟨t,rfl⟩:=rx
    cases y with
    | non=>cases ry;exact PySem.EqNone.ne_int_none (b0g I q (by simp))
    | int j=>obtain⟨t',rfl⟩:=ry;exact ne_int (b0g I q (congrArg not dec_int))
    | str j=>obtain⟨t',rfl⟩:=ry;exact PySem.EqMixed.ne_int_str (b0g I q (by simp))
    | _=>exact absurd (show false=true from hs) Bool.false_ne_true
  | str i=>
    obtain⟨t,rfl⟩:=rx
    cases y with
    | non=>cases ry;exact PySem.EqNone.ne_str_none (b0g I q (by simp))
    | bl j=>cases ry;exact PySem.EqMixed.ne_str_bool (b0g I q (by simp))
    | int j=>obtain⟨t',rfl⟩:=ry;exact PySem.EqMixed.ne_str_int (b0g I q (by simp))
    | str j=>obtain⟨t',rfl⟩:=ry;exact ne_str (b0g I q (congrArg not dec_str))
    | _=>exact absurd (show false=true from hs) Bool.false_ne_true
  | byt i=>
    obtain⟨t,rfl⟩:=rx
    cases y with
    | byt j=>obtain⟨t',rfl⟩:=ry;exact PySem.W.ne_bytes (b0g I q (congrArg not dec_byt))
    | _=>exact absurd (show false=true from hs) Bool.false_ne_true
  | _=>cases y <;>exact absurd (show false=true from hs) Bool.false_ne_true
theorem op_lt:OpR X (compareOp .Lt) (rI0 fun i j=>.bl (decide (i < j))):=opB0 fun _ _ _ _ _ _ _ q=>lt_int q
theorem op_le:OpR X (compareOp .LtE) (rI0 fun i j=>.bl (decide (i≤j))):=opB0 fun _ _ _ _ _ _ _ q=>le_int q
theorem op_gt:OpR X (compareOp .Gt) (rI0 fun i j=>.bl (decide (j < i))):=opB0 fun _ _ _ _ _ _ _ q=>gt_int q
theorem op_in_str:OpR X (compareOp .In) (fun x y H Q=>∃i j,x=.str i∧y=.str j∧Q (.bl (!(Builtin.Str.occurrences j i 0 j.length 1).isEmpty)) H):=by
  intro pins s σ H x y v u Q I rx ry h
  obtain⟨i,j,rfl,rfl,q⟩:=h
  obtain⟨t,rfl⟩:=rx
  obtain⟨t',rfl⟩:=ry
  exact in_str (b0g I q rfl)
theorem e0x:OpR X (compareOp .Is) (fun x y H Q=>y=.non∧Q (.bl (decide (x=.non))) H):=by
  intro pins s σ H x y v u Q I rx ry h
  obtain⟨rfl,q⟩:=h
  cases ry
  refine is_none_gen (b0g I q ?_)
  cases x <;>first
    | (cases rx;rfl)
    | (obtain⟨t,rfl⟩:=rx;rfl)
theorem op_notN:OpR X (compareOp .IsNot) (fun x y H Q=>y=.non∧Q (.bl (!decide (x=.non))) H):=by
  intro pins s σ H x y v u Q I rx ry h
  obtain⟨rfl,q⟩:=h
  cases ry
  refine isnot_none_gen (b0g I q ?_)
  cases x <;>first
    | (cases rx;rfl)
    | (obtain⟨t,rfl⟩:=rx;rfl)
theorem OpR.or{f:Value→Value→Sem Value}{r r':R2}(h:OpR X f r)(h':OpR X f r'):OpR X f (fun x y H Q=>r x y H Q∨r' x y H Q):=by
  intro pins s σ H x y v u Q I rx ry q
  rcases q with q | q
  · exact h pins s σ H x y v u Q I rx ry q
  · exact h' pins s σ H x y v u Q I rx ry q
theorem a0w(b:Expr){op:CmpOp}(h:op≠.In:=by decide)(h2:op≠.NotIn:=by decide):behindInMarks op b=false:=by
  have e1:(op == CmpOp.In)=false:=by cases op <;>first | rfl | exact absurd rfl h
  have e2:(op == CmpOp.NotIn)=false:=by cases op <;>first | rfl | exact absurd rfl h2
  cases b <;>simp[behindInMarks,e1,e2]
theorem e0w{op:CmpOp}{r:R2}(ho:OpR X (compareOp op) r)(ha:PE X a ta)(hb:PE X b tb)(hm:behindInMarks op b=false):PE X (.Compare a [op] [b] pos) (tOp r ta tb):=by
  intro pins s σ H Q I h
  exact wpAny_Compare1 (binT ha hb I h fun v u s2 x y H2 I2 rx ry q=>ho pins s2 σ H2 x y v u Q I2 rx ry q) hm
def tTest(t:TE):TT:=fun σ H Q=>t σ H fun x H'=>∃k,x=.bl k∧Q k H'
theorem a0t{op:CmpOp}{r:R2}(ho:OpR X (compareOp op) r)(ha:PE X a ta)(hb:PE X b tb)(hm:behindInMarks op b=false):PT X (.Compare a [op] [b] pos) (tTest (tOp r ta tb)):=by
  intro pins s σ H Q I h
  refine wpAny_isTrue_Compare1 (thn (ha pins s σ H _ I h) fun v s1 ⟨x,H1,I1,r1,q1⟩=>thn (hb pins s1 σ H1 _ I1 q1) fun u s2 ⟨y,H2,I2,r2,q2⟩=>
    thn (ho pins s2 σ H2 x y v u _ I2 r1 r2 q2) fun c s3 ⟨z,H3,I3,r3,k,e,q3⟩=>?_) hm
  subst e
  cases r3
  exact wpAny_truthy_bool ⟨H3,I3,q3⟩
theorem line63:(sizeLine:Nat) < 2 ^ 63:=by rw[sizeLine_eq];decide
theorem f0g:OpR X (binaryOp .Add) (fun x y H Q=>∃i j,x=.str i∧y=.str j∧i.length+j.length≤sizeLine∧Q (.str (i++j)) H):=by
  intro pins s σ H x y v u Q I rx ry h
  obtain⟨i,j,rfl,rfl,hz,q⟩:=h
  obtain⟨t,rfl⟩:=rx
  obtain⟨t',rfl⟩:=ry
  exact add_str (fun t' tk=>⟨.str (i++j),H,I.tok _,⟨_,rfl⟩,q⟩) hz
theorem vals1{x:V}{us:List Value}(r:Vals [x] us):∃u,us=[u]∧RelV x u:=by
  cases r with
  | cons r1 r2=>cases r2;exact⟨_,rfl,r1⟩
theorem vals2{x y:V}{us:List Value}(r:Vals [x,y] us):∃u w',us=[u,w']∧RelV x u∧RelV y w':=by
  cases r with
  | cons r1 r2=>
    cases r2 with
    | cons r3 r4=>cases r4;exact⟨_,_,rfl,r1,r3⟩
theorem n0u:CallR X (.builtin "abs") (fun xs H Q=>∃i,xs=[.int i]∧Q (.int (if i < 0 then -i else i)) H):=by
  intro pins s σ H xs us Q I r h
  obtain⟨i,rfl,q⟩:=h
  obtain⟨u,rfl,t,rfl⟩:=vals1 r
  exact call_abs_int fun u tk=>⟨.int (if i < 0 then -i else i),H,I.tok _,⟨_,rfl⟩,q⟩
theorem call_min2(hc:X.calm=true):CallR X (.builtin "min") (fun xs H Q=>∃i j,xs=[.int i,.int j]∧Q (.int (if j < i then j else i)) H):=by
  intro pins s σ H xs us Q I r h
  obtain⟨i,j,rfl,q⟩:=h
  obtain⟨u,w',rfl,⟨t,rfl⟩,⟨t',rfl⟩⟩:=vals2 r
  refine min_two_ints (I.ok.hd hc) fun h' tk k=>⟨_,H,I.kept k,?_,q⟩
  by_cases hj:j < i
  · rw[if_pos hj,if_pos hj];exact⟨_,rfl⟩
  · rw[if_neg hj,if_neg hj];exact⟨_,rfl⟩
theorem call_int1:CallR X (.type "int") (fun xs H Q=>(∃i,xs=[.int i]∧Q (.int i) H)∨∃k,xs=[.bl k]∧Q (.int (if k then 1 else 0)) H):=by
  intro pins s σ H xs us Q I r h
  rcases h with ⟨i,rfl,q⟩ | ⟨k,rfl,q⟩
  · obtain⟨u,rfl,t,rfl⟩:=vals1 r
    exact call_int_int ⟨.int i,H,I,⟨_,rfl⟩,q⟩
  · obtain⟨u,rfl,r1⟩:=vals1 r
    cases r1
    exact call_int_bool ⟨.int (if k then 1 else 0),H,I.tok _,⟨_,rfl⟩,q⟩
def LenV(K:PySem.W.Frag)(x:V)(H:Hp)(n:Nat):Prop:=
  match x with
  | .str y=>y.length≤sizeLine∧n=y.length
  | .byt y=>y.size≤sizeLine∧n=y.size
  | .ref p=>(∃xs,SqL K H p xs∧n=xs.length)∨∃xs,SqT K H p xs∧n=xs.length
  | _=>False
theorem b0l:CallR X (.builtin "len") (fun xs H Q=>∃x n,xs=[x]∧LenV X.K x H n∧Q (.int n) H):=by
  intro pins s σ H xs us Q I r h
  obtain⟨x,n,rfl,e,q⟩:=h
  obtain⟨u,rfl,rx⟩:=vals1 r
  have hl:=line63
  have hs:sizeLine=16777216:=sizeLine_eq
  cases x with
  | str y=>
    obtain⟨t,rfl⟩:=rx
    obtain⟨hy,e'⟩:y.length≤sizeLine∧n=y.length:=e
    subst e'
    exact len_str (by omega) ⟨.int _,H,I.tok _,⟨_,rfl⟩,q⟩
  | byt y=>
    obtain⟨t,rfl⟩:=rx
    obtain⟨hy,e'⟩:y.size≤sizeLine∧n=y.size:=e
    subst e'
    exact PySem.W.len_bytes (by omega) ⟨.int _,H,I.tok _,⟨_,rfl⟩,q⟩
  | ref p=>
    cases rx
    have e':(∃xs,SqL X.K H p xs∧n=xs.length)∨∃xs,SqT X.K H p xs∧n=xs.length:=e
    rcases e' with ⟨xs,hx,e'⟩ | ⟨xs,hx,e'⟩
    · subst e'
      obtain⟨its,r',pl,hz⟩:=I.list hx
      have hlen:=r'.length
      exact Calls.call_len_list pl.isList (by simp only[List.size_toArray];omega) ⟨.int xs.length,H,I.tok _,⟨_,by simp only[List.size_toArray];rw[hlen]⟩,q⟩
    · subst e'
      obtain⟨its,r',pl,hz⟩:=I.tuple hx
      have hlen:=r'.length
      exact len_tuple pl (by simp only[List.size_toArray];omega) ⟨.int xs.length,H,I.tok _,⟨_,by simp only[List.size_toArray];rw[hlen]⟩,q⟩
  | _=>exact(show False from e).elim
end
end L2
namespace L2
open PySem PySem.Spec PyProof.Rows
structure ObjM(h:Heap)(x dx C:Addr)(mA:Str→Option Value):Prop where
  obj:h.get? x=some (PySem.W.instObj C dx)
  ns:h.Ns1 dx mA
  ne:dx≠x
theorem lookIn_ns{h:Heap}{dx:Addr}{mA:Str→Option Value}(n:h.Ns1 dx mA):∃od,h.get? dx=some od∧∀name,PySem.W.lookIn name od=some (mA name):=by
  obtain⟨o,es,ep,ho,hd,hk,_,hm⟩:=n
  refine⟨o,ho,fun name=>?_⟩
  have e:=hm name
  unfold nsFind findBy at e
  rw[← Array.find?_toList]at e
  unfold PySem.W.lookIn
  rw[hd]
  dsimp only
  split
  · rename_i y q
    rw[q]at e
    exact congrArg some e
  · rename_i q
    rw[q]at e
    have a:es.toList.any (·.refKey)=false:=by
      rw[List.any_eq_false]
      intro y hy
      obtain⟨z,t,hkey⟩:=hk y (Array.mem_toList_iff.mp hy)
      simp[DictEntry.refKey,hkey]
    have a':¬es.toList.any (·.refKey)=true:=by rw[a];exact Bool.false_ne_true
    rw[if_neg a']
    exact congrArg some e
theorem ObjM.look{h:Heap}{x dx C:Addr}{mA:Str→Option Value}(I:ObjM h x dx C mA):∃od,PySem.W.InstAt h x (PySem.W.instObj C dx) C (some od)∧∀name,PySem.W.lookIn name od=some (mA name):=
  let⟨od,ho,hl⟩:=lookIn_ns I.ns
  ⟨od,⟨I.obj,rfl,rfl,ho⟩,hl⟩
section
variable{prog:Program}{w:World}{A:Around}{E:Value→Shared→Prop}{s:Shared}{K:PySem.W.Frag}{x dx C f:Addr}{mA:Str→Option Value}{name:Str}{v:Value}
theorem get_map{expr:Bool}{Q:Value→Shared→Prop}(X:K.In s.heap)(I:ObjM s.heap x dx C mA)(hg:PySem.W.plainGet K C name=true)(hh:PySem.W.hasDictIn K C=true)
    (ha:PySem.W.findIn K (.ref C) name=some none) (hv:mA name=some v) (hv':PySem.W.handedIn v=true) (h:Q v { s with toks:=s.toks+1 }) :
    wpAny (model prog w) A (getAttr (.ref x) name expr) Q E s:=by
  obtain⟨od,J,hl⟩:=I.look
  exact PySem.W.get_value X J (PySem.W.plainGet_of hg).1 (PySem.W.findObj_own hh ha rfl (by rw[hl,hv])) hv' h
theorem get_meth{pl:Sem Bool}{Q:Value × List Value→Shared→Prop}(X:K.In s.heap)(I:ObjM s.heap x dx C mA)(hg:PySem.W.plainGet K C name=true)
    (hf:PySem.W.findIn K (.ref C) name=some (some (.ref f))) (ht:PySem.W.isFn K (.ref f)=true) (hv:mA name=none) (h:Q (.ref f,[.ref x]) s) :
    wpAny (model prog w) A (getMethod (.ref x) name pl) Q E s:=by
  obtain⟨od,J,hl⟩:=I.look
  exact PySem.W.method_fn X J (PySem.W.plainGet_of hg).1 (PySem.W.plainGet_of hg).2 hf (beq_iff_eq.mp ht) (by show(PySem.W.lookIn name od).map (·.isSome)=some false;rw[hl,hv];rfl) h
theorem set_map{ns:List Str}{Q:Unit→Shared→Prop}(X:K.In s.heap)(I:ObjM s.heap x dx C mA)
    (hs:PySem.W.findIn K (.ref C) "__setattr__"=some (some (.builtin "object.__setattr__"))) (hp:PySem.W.plainOver K C=true) (ht:PySem.W.takerIn K C name=some none) (hh:PySem.W.hasDictIn K C=true)
    (hw:PySem.Within mA ns) (hsz:ns.length≤sizeLine)
    (h:∀h',ObjM h' x dx C (fun y=>if y=name then some v else mA y)→Heap.SameBut dx s.heap h'→Q () { s with heap:=h',toks:=s.toks+2 }) :
    wpAny (model prog w) A (setAttr (.ref x) name v) Q E s:=by
  obtain⟨od,J,hl⟩:=I.look
  refine PySem.W.set_plain X J hs (PySem.W.osa_open (s:={ s with toks:=s.toks+1 }) (r:=none) X J hp ht fun b=>?_)
  obtain⟨cd,hc,hd'⟩:=PySem.W.any_some hh
  have hx:s.heap.get? x=some ⟨.ref C,some dx,.plain,#[]⟩:=I.obj
  refine wpAny_bind (wpAny_pure (wpAny_bind (wpAny_bind (wpAny_loadPart hx (wpAny_bind (PySem.W.Looks.here (s:={ s with toks:=s.toks+1 }) (PySem.W.looks_clsIn X hc) ?_))))))
  rw[hd']
  refine wpAny_pure (a:=some dx) (wpAny_bind (wpAny_pure (wpAny_bind ?_)))
  refine wpAny_nsSet1 (s:={ s with toks:=s.toks+1 }) I.ns fun h' hn2 hs2=>?_
  obtain⟨oD,esD,epD,hoD,hdD,hcD⟩:=hn2.count (PySem.Within.cons name v hw)
  refine wpAny_bind (wpAny_lookBehind hoD (by rw[hdD];exact pastItsLine_dict (Nat.le_trans hcD (by rw[List.length_cons];omega))) ?_)
  exact wpAny_pure (h _ ⟨(hs2.2 _ (Ne.symm I.ne)).trans I.obj,hn2,I.ne⟩ hs2)
theorem make_map{R:Result→Shared→Prop}{vs:List Value}{kw:List (Str × Value)}(X:K.In s.heap)(hm:PySem.W.makesIn K C=true)
    (hi:PySem.W.findIn K (.ref C) "__init__"=some (some (.ref f))) (hf:PySem.W.typeIn K (.ref f)=some (.type "function"))
    (h:codeAny (model prog w) (A.under (.builtin "type.__call__" ⟨.ref C::vs,kw⟩)) (.call (.ref f) ⟨.ref (s.heap.objs.size+1)::vs,kw⟩) (PySem.W.InitBack (s.heap.objs.size+1) R)
      { s with heap:=(s.heap.push PySem.W.emptyDict).push (PySem.W.instObj C s.heap.objs.size) }) :
    codeAny (model prog w) A (.call (.ref C) ⟨vs,kw⟩) R s:=by
  obtain⟨hh,g,d,t,os⟩:=s
  exact PySem.W.make_core (PySem.W.makes_of X hm) (PySem.W.looks_findIn X hi) (fun self=>PySem.W.bind_fn X self hf) (.inl rfl) h
theorem make_map0{R:Result→Shared→Prop}(X:K.In s.heap)(hm:PySem.W.makesIn K C=true)
    (hi:PySem.W.findIn K (.ref C) "__init__"=some (some (.builtin "object.__init__")))
    (hb:∀self,PySem.W.Looks (model prog w) s.heap (bindSpecial (.builtin "object.__init__") self) (.builtin "object.__init__",[self]))
    (h:codeAny (model prog w) (A.under (.builtin "type.__call__" ⟨[.ref C],[]⟩)) (.call (.builtin "object.__init__") ⟨[.ref (s.heap.objs.size+1)],[]⟩) (PySem.W.InitBack (s.heap.objs.size+1) R)
      { s with heap:=(s.heap.push PySem.W.emptyDict).push (PySem.W.instObj C s.heap.objs.size) }) :
    codeAny (model prog w) A (.call (.ref C) ⟨[],[]⟩) R s:=by
  obtain⟨hh,g,d,t,os⟩:=s
  exact PySem.W.make_core (PySem.W.makes_of X hm) (PySem.W.looks_findIn X hi) hb (.inr ⟨rfl,rfl⟩) h
end
def putF(f:Str)(v:V):List (Str × V)→List (Str × V)
  | []=>[(f,v)]
  | (g,x)::r=>if g=f then(g,v)::r else(g,x)::putF f v r
theorem e0i(f g:Str)(v:V):∀fs:List (Str × V),(putF f v fs).lookup g=if g=f then some v else fs.lookup g
  | []=>by
    show List.lookup g [(f,v)]=_
    by_cases h:g=f
    · have hb:(g == f)=true:=beq_iff_eq.mpr h
      simp only[List.lookup,hb,if_pos h]
    · have hb:(g == f)=false:=beq_eq_false_iff_ne.mpr h
      simp only[List.lookup,hb,if_neg h]
  | (k,x)::r=>by
    have ih:=e0i f g v r
    rw[show putF f v ((k,x)::r)=(if k=f then(k,v)::r else(k,x)::putF f v r)from rfl]
    by_cases hk:k=f
    · rw[if_pos hk]
      by_cases h:g=k
      · have hb:(g == k)=true:=beq_iff_eq.mpr h
        simp only[List.lookup,hb,if_pos (h.trans hk)]
      · have hb:(g == k)=false:=beq_eq_false_iff_ne.mpr h
        simp only[List.lookup,hb,if_neg (fun e:g=f=>h (e.trans hk.symm))]
    · rw[if_neg hk]
      by_cases h:g=k
      · have hb:(g == k)=true:=beq_iff_eq.mpr h
        simp only[List.lookup,hb,if_neg (fun e:g=f=>hk (h.symm.trans e))]
      · have hb:(g == k)=false:=beq_eq_false_iff_ne.mpr h
        simp only[List.lookup,hb]
        exact ih
theorem k0s(f:Str)(v:V):∀fs:List (Str × V),f∈(putF f v fs).map (·.1)∧∀g,g∈fs.map (·.1)→g∈(putF f v fs).map (·.1)
  | []=>⟨by simp[putF],fun g h=>by simp at h⟩
  | (k,x)::r=>by
    obtain⟨i1,i2⟩:=k0s f v r
    rw[show putF f v ((k,x)::r)=(if k=f then(k,v)::r else(k,x)::putF f v r)from rfl]
    by_cases hk:k=f
    · rw[if_pos hk]
      subst hk
      exact⟨by simp,fun g h=>by simpa using h⟩
    · rw[if_neg hk]
      refine⟨?_,fun g h=>?_⟩
      · rw[List.map_cons]
        exact List.mem_cons_of_mem _ i1
      · rw[List.map_cons]at h ⊢
        rcases List.mem_cons.mp h with e | e
        · exact List.mem_cons.mpr (.inl e)
        · exact List.mem_cons_of_mem _ (i2 g e)
theorem k0r(f:Str)(v:V):∀fs:List (Str × V),(putF f v fs).length≤fs.length+1
  | []=>by simp[putF]
  | (k,x)::r=>by
    have ih:=k0r f v r
    rw[show putF f v ((k,x)::r)=(if k=f then(k,v)::r else(k,x)::putF f v r)from rfl]
    by_cases hk:k=f
    · rw[if_pos hk,List.length_cons,List.length_cons];omega
    · rw[if_neg hk,List.length_cons,List.length_cons];omega
theorem RelO.some_of{v:V}{o:Option Value}(r:RelO (some v) o):∃u,o=some u∧RelV v u:=by
  cases o with
  | none=>exact(show False from r).elim
  | some u=>exact⟨u,rfl,r⟩
theorem RelO.none_of{o:Option Value}(r:RelO none o):o=none:=by
  cases o with
  | none=>rfl
  | some u=>exact(show False from r).elim
theorem handed_of{v:V}{u:Value}(r:RelV v u):PySem.W.handedIn u=true:=by
  cases v with
  | non=>cases (show u=Value.none from r);rfl
  | bl b=>cases (show u=Value.bool b from r);rfl
  | int i=>obtain⟨t,e⟩:=(show ∃t,u=Value.int i t from r);cases e;rfl
  | str x=>obtain⟨t,e⟩:=(show ∃t,u=Value.str x t from r);cases e;rfl
  | byt b=>obtain⟨t,e⟩:=(show ∃t,u=Value.bytes b t from r);cases e;rfl
  | flt b=>obtain⟨t,e⟩:=(show ∃t,u=Value.float b t from r);cases e;rfl
  | ref a=>cases (show u=Value.ref a from r);rfl
  | ty n=>cases (show u=Value.type n from r);rfl
section
variable{P:Program}{w:World}{H H':Hp}{h h':Heap}{a C dx:Addr}{fs fs':List (Str × V)}
theorem n0r(hok:HOk P w H h)(e:H a=some (.ins C dx fs)):∃mA,ObjM h a dx C mA∧(∀f,RelO (fs.lookup f) (mA f))∧PySem.Within mA (fs.map (·.1))∧fs.length≤1000∧H dx=some (.own a):=by
  obtain⟨d,z,ne,ob,mA,n,r,q⟩:=(show ObjOk P w H h a (.ins C dx fs)from hok a _ e)
  exact⟨mA,⟨ob,n,ne⟩,r,q,z,d⟩
end
structure Cls(K:PySem.W.Frag)(C:Addr):Prop where
  pg:PySem.W.plainGet K C Str.empty=true
  hd:PySem.W.hasDictIn K C=true
  po:PySem.W.plainOver K C=true
  sa:PySem.W.findIn K (.ref C) "__setattr__"=some (some (.builtin "object.__setattr__"))
theorem Cls.get{K:PySem.W.Frag}{C:Addr}(c:Cls K C)(f:Str):PySem.W.plainGet K C f=true:=c.pg
def NoAttr(K:PySem.W.Frag)(C:Addr)(f:Str):Prop:=PySem.W.findIn K (.ref C) f=some none
theorem NoAttr.taker{K:PySem.W.Frag}{C:Addr}{f:Str}(n:NoAttr K C f):PySem.W.takerIn K C f=some none:=by
  unfold PySem.W.takerIn
  rw[show PySem.W.findIn K (.ref C) f=some none from n]
  rfl
structure Con(K:PySem.W.Frag)(C:Addr)(f:Str)(v:V)(u:Value):Prop where
  at_:PySem.W.findIn K (.ref C) f=some (some u)
  rel:RelV v u
  get:PySem.W.specialIn K u "__get__"=some none
  cp:PySem.W.copiedNames.contains f=false
structure Meth(K:PySem.W.Frag)(C:Addr)(m:Str)(f:Addr):Prop where
  at_:PySem.W.findIn K (.ref C) m=some (some (.ref f))
  fn:PySem.W.isFn K (.ref f)=true
  kp:PySem.W.keepIn K (.ref f)=true
section
variable{X:Cx}{pins:List (Addr × Obj)}{σ:St}{H:Hp}{s:Shared}{a C dx:Addr}{fs:List (Str × V)}{f:Str}{v:V}{A:Around}{E:Value→Shared→Prop}
theorem getattr_ok{b:Bool}{Q:Value→Shared→Prop}(I:Inv X pins σ H s)(e:H a=some (.ins C dx fs))(c:Cls X.K C)(n:NoAttr X.K C f)(l:fs.lookup f=some v)
    (h:∀u s',Inv X pins σ H s'→RelV v u→Q u s'):wpAny (model X.prog X.w) A (getAttr (.ref a) f b) Q E s:=by
  obtain⟨mA,O,r,_,_,_⟩:=n0r I.hok e
  obtain⟨u,hu,ru⟩:=RelO.some_of (v:=v) (o:=mA f) (by rw[← l];exact r f)
  exact get_map I.kIn O (c.get f) c.hd n hu (handed_of ru) (h u _ (I.tok _) ru)
theorem l0z{m:Str}{g:Addr}{pl:Sem Bool}{Q:Value × List Value→Shared→Prop}(I:Inv X pins σ H s)(e:H a=some (.ins C dx fs))(c:Cls X.K C)(k:Meth X.K C m g)(l:fs.lookup m=none)
    (h:Q (.ref g,[.ref a]) s):wpAny (model X.prog X.w) A (getMethod (.ref a) m pl) Q E s:=by
  obtain⟨mA,O,r,_,_,_⟩:=n0r I.hok e
  have hn:mA m=none:=RelO.none_of (by rw[← l];exact r m)
  exact get_meth I.kIn O (c.get m) k.at_ k.fn hn h
theorem setattr_ok{y:V}{u:Value}{Q:Unit→Shared→Prop}(I:Inv X pins σ H s)(e:H a=some (.ins C dx fs))(c:Cls X.K C)(n:NoAttr X.K C f)(hl:fs.length < 1000)(ry:RelV y u)
    (h:∀s',Inv X pins σ (upd H a (.ins C dx (putF f y fs))) s'→Q () s'):wpAny (model X.prog X.w) A (setAttr (.ref a) f u) Q E s:=by
  obtain⟨mA,O,r,wi,_,ho⟩:=n0r I.hok e
  have hz:(fs.map (·.1)).length≤sizeLine:=by rw[List.length_map,sizeLine_eq];omega
  refine set_map I.kIn O c.sa c.po n.taker c.hd wi hz fun h' O' sb=>h _ ?_
  have hd:∃o,h'.get? dx=some o:=let⟨o,_,_,e',_⟩:=O'.ns;⟨o,e'⟩
  refine I.write (x:=a) (e:=dx) (by rw[e];exact True.intro) (.inr ho) (fun b q hb z=>(sb.2 b hb).trans z) hd ?_
  refine⟨by rw[b0b O.ne];exact ho,?_,O.ne,O'.obj,_,O'.ns,fun g=>?_,fun g hg=>?_⟩
  · have:=k0r f y fs;omega
  · show RelO ((putF f y fs).lookup g) (if g=f then some u else mA g)
    rw[e0i]
    by_cases q:g=f
    · rw[if_pos q,if_pos q];exact ry
    · rw[if_neg q,if_neg q];exact r g
  · by_cases q:g=f
    · rw[q];exact(k0s f y fs).1
    · refine(k0s f y fs).2 g (wi g fun z=>hg ?_)
      show(if g=f then some u else mA g)=none
      rw[if_neg q];exact z
theorem Inv.made(I:Inv X pins σ H s):Inv X pins σ (upd (upd H s.heap.objs.size (.own (s.heap.objs.size+1))) (s.heap.objs.size+1) (.ins C s.heap.objs.size []))
    { s with heap:=(s.heap.push PySem.W.emptyDict).push (PySem.W.instObj C s.heap.objs.size) }:=by
  have e1:(s.heap.push PySem.W.emptyDict).get? s.heap.objs.size=some PySem.W.emptyDict:=Heap.get?_push_size s.heap rfl
  have e2:((s.heap.push PySem.W.emptyDict).push (PySem.W.instObj C s.heap.objs.size)).get? (s.heap.objs.size+1)=some (PySem.W.instObj C s.heap.objs.size):=by
    have:=Heap.get?_push_size (s.heap.push PySem.W.emptyDict) (o:=PySem.W.instObj C s.heap.objs.size) rfl
    rwa [Heap.size_push]at this
  have e3:(s.heap.push PySem.W.emptyDict).Ns s.heap.objs.size (fun _=>none):=⟨PySem.W.emptyDict,#[],_,e1,rfl,(fun e he=>absurd he (by simp)),fun _=>rfl⟩
  have I1:=I.laid (a:=s.heap.objs.size) (o:=.own (s.heap.objs.size+1)) (h':=s.heap.push PySem.W.emptyDict) (t':=s.toks) (fun b u q=>Heap.get?_push_of_some _ q) (Nat.le_refl _) ⟨_,e1⟩
  refine I1.laid (a:=s.heap.objs.size+1) (o:=.ins C s.heap.objs.size []) (t':=s.toks) (fun b u q=>Heap.get?_push_of_some _ q) (Nat.le_of_eq (Heap.size_push _ _)) ?_
  have ne:s.heap.objs.size≠s.heap.objs.size+1:=Nat.ne_of_lt (Nat.lt_succ_self _)
  refine⟨by rw[b0b ne,a0d],Nat.zero_le _,ne,e2,fun _=>none,(Heap.Ns1.of_empty e3).at fun o q=>Heap.get?_push_of_some _ q,fun _=>True.intro,fun y hy=>absurd rfl hy⟩
theorem attr_of{prog:Program}{w:World}{env:Env}{e:Expr}{f:Str}{pos:Pos}{s:Shared}{Q:Value→Shared→Prop}(hb:attributeBase e f env (eval e env)=eval e env)
    (h:wpAny (model prog w) A (eval e env) (fun o s₁=>wpAny (model prog w) A (getAttr o f true) Q E s₁) E s):wpAny (model prog w) A (eval (.Attribute e f pos) env) Q E s:=
  Attribute_any_ h (by rw[arm_eval_Attribute,hb])
end
def tFld(K:PySem.W.Frag)(ta:TE)(f:Str):TE:=fun σ H Q=>ta σ H fun x H1=>∃a C dx fs v,x=.ref a∧H1 a=some (.ins C dx fs)∧Cls K C∧NoAttr K C f∧fs.lookup f=some v∧Q v H1
def sFld(K:PySem.W.Frag)(ta tv:TE)(f:Str):TS:=fun D σ H=>tv σ H fun y H1=>ta σ H1 fun x H2=>∃a C dx fs,x=.ref a∧H2 a=some (.ins C dx fs)∧Cls K C∧NoAttr K C f∧fs.length < 1000∧
  D.nx σ (upd H2 a (.ins C dx (putF f y fs)))
section
variable{X:Cx}{o e value:Expr}{f:Str}{pos pos' tpos:Pos}{ta tv:TE}
theorem pe_fld(he:PE X e ta)(hb:attributeBase e f X.env (eval e X.env)=eval e X.env):PE X (.Attribute e f pos) (tFld X.K ta f):=by
  intro pins s σ H Q I h
  refine attr_of hb (thn (he pins s σ H _ I h) fun u s1 ⟨x,H1,I1,rx,a,C,dx,fs,v,ex,ea,c,n,l,q⟩=>?_)
  subst ex
  obtain rfl:u=Value.ref a:=rx
  exact getattr_ok I1 ea c n l fun u' s2 I2 ru=>⟨v,H1,I2,ru,q⟩
theorem ps_fld(ha:PE X o ta)(hv:PE X value tv)(hs:swapsWith value (some (.Attribute o f pos')) pos.line X.env=pure false):PS X (.Assign [.Attribute o f pos'] value pos) (sFld X.K ta tv f):=by
  intro pins s σ H D I h
  refine plainObj_wpAny_Assign_Attribute (thn (hv pins s σ H _ I h) fun u s1 ⟨y,H1,I1,ry,q⟩=>thn (ha pins s1 σ H1 _ I1 q) fun ov s2 ⟨x,H2,I2,rx,a,C,dx,fs,ex,ea,c,n,l,q2⟩=>?_) hs
  subst ex
  obtain rfl:ov=Value.ref a:=rx
  exact setattr_ok I2 ea c n l ry fun s3 I3=>⟨σ,_,I3,q2⟩
end
section
variable{X:Cx}{pins:List (Addr × Obj)}{σ:St}{H:Hp}{s:Shared}{A:Around}{E:Value→Shared→Prop}{Q:Value→Shared→Prop}{c:Value}{b:Bool}
inductive TyOf(K:PySem.W.Frag)(H:Hp):V→Value→Prop where
  | non:TyOf K H .non (.type "NoneType")
  | bl (x:Bool):TyOf K H (.bl x) (.type "bool")
  | int (i:Int):TyOf K H (.int i) (.type "int")
  | str (x:Str):TyOf K H (.str x) (.type "str")
  | flt (x:UInt64):TyOf K H (.flt x) (.type "float")
  | lst {a:Addr} {xs:List V} (e:H a=some (.lst xs)):TyOf K H (.ref a) (.type "list")
  | frz {a:Addr} {o:Obj} {xs:List V} (e:H a=some (.frz o (.lst xs))):TyOf K H (.ref a) (.type "list")
  | tup {a:Addr} {xs:List V} (e:H a=some (.tup xs)):TyOf K H (.ref a) (.type "tuple")
  | dK {a:Addr} {kvs:List (Key × V)} (e:H a=some (.dK kvs)):TyOf K H (.ref a) (.type "dict")
  | dT {a:Addr} {kvs:List (List Key × V)} (e:H a=some (.dT kvs)):TyOf K H (.ref a) (.type "dict")
  | ins {a C dx:Addr} {fs:List (Str × V)} (e:H a=some (.ins C dx fs)) (cl:Cls K C) (ha:PySem.W.findIn K (.ref C) "__class__"=some (some (.builtin "object.__class__")))
      (hn:PySem.W.specialIn K (.builtin "object.__class__") "__get__"=some (some (.builtin "getset_descriptor.__get__"))) (htk:PySem.W.takesIn K (.builtin "object.__class__")=some true)
      (hm:PySem.W.mroIn K C (.type "object")=some true):TyOf K H (.ref a) (.ref C)
theorem isinst_ok{x:V}{u t:Value}(I:Inv X pins σ H s)(rx:RelV x u)(ty:TyOf X.K H x t)(e:PySem.W.kitOne X.K t c=some b)(h:∀tk,Q (.bool b) { s with toks:=tk }) :
    wpAny (model X.prog X.w) A (call (.builtin "isinstance") [u,c]) Q E s:=by
  cases ty with
  | non=>cases (show u=Value.none from rx);exact PySem.W.kia_one PySem.W.kitx_none I.kIn True.intro e (fun z=>nomatch z) h
  | bl y=>cases (show u=Value.bool y from rx);exact PySem.W.kia_one PySem.W.kitx_bool I.kIn True.intro e (fun z=>nomatch z) h
  | int i=>obtain⟨t,q⟩:=(show ∃t,u=Value.int i t from rx);cases q;exact PySem.W.kia_one PySem.W.kitx_int I.kIn True.intro e (fun z=>nomatch z) h
  | str y=>obtain⟨t,q⟩:=(show ∃t,u=Value.str y t from rx);cases q;exact PySem.W.kia_one PySem.W.kitx_str I.kIn True.intro e (fun z=>nomatch z) h
  | flt y=>obtain⟨t,q⟩:=(show ∃t,u=Value.float y t from rx);cases q;exact PySem.W.kia_one PySem.W.kitx_float I.kIn True.intro e (fun z=>nomatch z) h
  | @lst a xs ea=>
    cases (show u=Value.ref a from rx)
    obtain⟨_,_,n,_,h1⟩:=(show ObjOk X.prog X.w H s.heap a (.lst xs)from I.hok a _ ea)
    exact PySem.W.kia_one PySem.W.kitx_list I.kIn ⟨_,h1,rfl⟩ e (fun z=>nomatch z) h
  | @frz a ob xs ea=>
    cases (show u=Value.ref a from rx)
    obtain⟨_,_,_,n,_,h1⟩:=(show ObjOk X.prog X.w H s.heap a (.frz ob (.lst xs))from I.hok a _ ea)
    exact PySem.W.kia_one PySem.W.kitx_list I.kIn ⟨_,h1,rfl⟩ e (fun z=>nomatch z) h
  | @tup a xs ea=>
    cases (show u=Value.ref a from rx)
    obtain⟨_,_,_,p,_⟩:=(show ObjOk X.prog X.w H s.heap a (.tup xs)from I.hok a _ ea)
    obtain⟨o,h1,h2,_⟩:=p
    exact PySem.W.kia_one PySem.W.kitx_tuple I.kIn ⟨o,h1,h2⟩ e (fun z=>nomatch z) h
  | @dK a kvs ea=>
    cases (show u=Value.ref a from rx)
    obtain⟨_,_,vs,_,p⟩:=(show ObjOk X.prog X.w H s.heap a (.dK kvs)from I.hok a _ ea)
    obtain⟨o,es,ep,h1,h2,_⟩:=p
    exact PySem.W.kia_one PySem.W.kitx_dict I.kIn ⟨o,h1,h2.1⟩ e (fun z=>nomatch z) h
  | @dT a kvs ea=>
    cases (show u=Value.ref a from rx)
    obtain⟨_,_,xs,_,o,es,ep,h1,h2,_⟩:=(show ObjOk X.prog X.w H s.heap a (.dT kvs)from I.hok a _ ea)
    exact PySem.W.kia_one PySem.W.kitx_dict I.kIn ⟨o,h1,h2.1⟩ e (fun z=>nomatch z) h
  | @ins a C dx fs ea cl ha hn htk hm=>
    cases (show u=Value.ref a from rx)
    obtain⟨mA,O,_⟩:=n0r I.hok ea
    obtain⟨od,J,_⟩:=O.look
    exact PySem.W.kia_one (PySem.W.kitx_own (cl.get _) cl.hd ha hn htk hm) I.kIn J e (fun z=>nomatch z) h
end
end L2
namespace L2
open PySem PySem.Spec PyProof.Rows
structure Room(k:Nat)(A:Around):Prop where
  hd:A.handled=none
  dp:A.depth+3 * k+5 < recursionLimit
  un:A.units+16 * k+200 < cLine
theorem Room.mono{j k:Nat}{A:Around}(r:Room k A)(h:j≤k):Room j A:=⟨r.hd,by have:=r.dp;omega,by have:=r.un;omega⟩
theorem Room.deeper{k:Nat}{A:Around}(r:Room (k+1) A)(env:Env):Room k (A.deeper env):=
  ⟨r.hd,by have:=r.dp;show A.depth+1+3 * k+5 < _;omega,by have:=r.un;show A.units+3+16 * k+200 < _;omega⟩
theorem Room.in1{k:Nat}{A:Around}(r:Room (k+1) A):Room k A.in1:=
  ⟨r.hd,by have:=r.dp;show A.depth+3 * k+5 < _;omega,by have:=r.un;show A.units+1+16 * k+200 < _;omega⟩
theorem make_depth{A:Around}{C:Addr}{us:List Value}{kw:List (Str × Value)}:(A.under (.builtin "type.__call__" ⟨.ref C::us,kw⟩)).depth=A.depth+1:=by
  first | rfl | simp[Around.under,Code.weight,Code.isCreation,Code.isGuard,Code.isCaller,Code.frames,Code.isFrame,guardIds]
theorem make_units{A:Around}{C:Addr}{us:List Value}{kw:List (Str × Value)}:(A.under (.builtin "type.__call__" ⟨.ref C::us,kw⟩)).units=A.units+1:=by
  first | rfl | simp[Around.under,Code.cUnits,Code.frames,Code.isFrame]
theorem Room.make{k:Nat}{A:Around}(r:Room (k+1) A)(C:Addr)(us:List Value)(kw:List (Str × Value)):Room k (A.under (.builtin "type.__call__" ⟨.ref C::us,kw⟩)):=
  ⟨r.hd,by have:=r.dp;rw[make_depth];omega,by have:=r.un;rw[make_units];omega⟩
theorem Room.depth{k:Nat}{A:Around}(r:Room k A):A.depth < recursionLimit:=by have:=r.dp;omega
theorem Room.units{k:Nat}{A:Around}(r:Room k A):A.units+64 < cLine:=by have:=r.un;omega
def tNil:TA:=fun _ H Q=>Q [] H
def tCons(ta:TE)(tr:TA):TA:=fun σ H Q=>ta σ H fun x H1=>tr σ H1 fun xs H2=>Q (x::xs) H2
section
variable{X:Cx}{e:Expr}{es:List Expr}{te:TE}{t:TA}{pos:Pos}
theorem a0b:PA X [] tNil:=fun _ _ _ _ H Q I h=>Calls.spliced_nil ⟨[],H,I,.nil,h⟩
theorem a0a(ha:PE X e te)(hr:PA X es t)(hs:starEach (e::es) X.env=(false,eval e X.env)::starEach es X.env:=by rfl):PA X (e::es) (tCons te t):=by
  intro pos pins s σ H Q I h
  rw[hs]
  show wpAny _ _ (spliced ((false,eval e X.env)::backTo pos (starEach es X.env))) _ _ s
  refine Calls.spliced_cons (thn (ha pins s σ H _ I h) fun u s1 ⟨x,H1,I1,r1,q1⟩=>?_)
  exact thn (hr pos pins s1 σ H1 _ I1 q1) fun us s2 ⟨xs,H2,I2,r2,q2⟩=>⟨x::xs,H2,I2,.cons r1 r2,q2⟩
def tTup(t:TA):TE:=fun σ H Q=>t σ H fun xs H1=>xs.length≤sizeLine∧∀p,H1 p=none→Q (.ref p) (upd H1 p (.tup xs))
def tLst(t:TA):TE:=fun σ H Q=>t σ H fun xs H1=>xs.length≤sizeLine∧∀p,H1 p=none→Q (.ref p) (upd H1 p (.lst xs))
theorem b0q{x1}(h:PA X es t):PE X (.Tuple es x1 pos) (tTup t):=by
  intro pins s σ H Q I hq
  refine wpAny_Tuple_spliced (thn (h pos pins s σ H _ I hq) fun us s1 ⟨xs,H1,I1,r,z,q⟩=>⟨by rw[← r.length];exact z,?_⟩)
  have hf:H1 s1.heap.objs.size=none:=I1.hok.fresh (Nat.le_refl _)
  refine⟨.ref s1.heap.objs.size,upd H1 s1.heap.objs.size (.tup xs),I1.laid (t':=s1.toks) (fun b u e=>Heap.get?_push_of_some _ e) (Nat.le_refl _) ?_,rfl,q _ hf⟩
  exact⟨z,us,r,⟨_,Heap.get?_push_size _ rfl,rfl,_,rfl⟩,fun _=>⟨_,Heap.get?_push_size _ rfl,rfl⟩⟩
theorem c0p(h:PA X es t):PE X (.List es pos) (tLst t):=by
  intro pins s σ H Q I hq
  refine wpAny_List_spliced (thn (h pos pins s σ H _ I hq) fun us s1 ⟨xs,H1,I1,r,z,q⟩=>⟨by rw[← r.length];exact z,?_⟩)
  have hf:H1 s1.heap.objs.size=none:=I1.hok.fresh (Nat.le_refl _)
  refine⟨.ref s1.heap.objs.size,upd H1 s1.heap.objs.size (.lst xs),I1.laid (t':=s1.toks) (fun b u e=>Heap.get?_push_of_some _ e) (Nat.le_refl _) ?_,rfl,q _ hf⟩
  exact⟨z,us,0,r,Heap.get?_push_size _ rfl⟩
end
abbrev Sp:=List V→Hp→VK→XK→Prop
abbrev CXT:=List Env→Hp→Shared→XK→Value→Shared→Prop
structure Env0(P:Program)(w:World)(K:PySem.W.Frag)(mg:Str→Option Value)(base:Heap)(A:Around)(outer:List Env)(s:Shared)(H:Hp):Prop where
  frames:A.frames=some outer
  mod:Mod K mg base
  bs:∀b o,base.get? b=some o→s.heap.get? b=some o∧H b=none
  bsz:base.objs.size≤s.heap.objs.size
  funs:s.heap.FunFrames base outer
  frf:∀b∈frs outer,H b=none
  hok:HOk P w H s.heap
  bare:AllBare s.gens
def CE(outer:List Env)(P:Program)(w:World)(H:Hp)(s:Shared)(Q:VK)(u:Value)(s':Shared):Prop:=
  ∃v H',s'.os=s.os∧AllBare s'.gens∧Un (frs outer) [] H H' s.heap s'.heap∧HOk P w H' s'.heap∧RelV v u∧Q v H'
def CR(CX:CXT)(outer:List Env)(P:Program)(w:World)(H:Hp)(s:Shared)(Q:VK)(E:XK)(r:Result)(s':Shared):Prop:=
  match r with
  | .ok (.ret u)=>CE outer P w H s Q u s'
  | .ok _=>False
  | .error e=>CX outer H s E e s'
structure FnOk(P:Program)(w:World)(K:PySem.W.Frag)(mg:Str→Option Value)(base:Heap)(CX:CXT)(k:Nat)(f:Addr)(fd:FuncData)(ps:List Str)(sp:Sp):Prop where
  len:∀vs H Q E,sp vs H Q E→vs.length=ps.length
  run:∀(A:Around) (outer:List Env) (s:Shared) (H:Hp) (args:Args) (us:List Value) (vs:List V) (Q:VK) (E:XK),Room k A→Env0 P w K mg base A outer s H→BindsTo s fd args (ps.zip us)→Vals vs us→sp vs H Q E→
    codeAny (model P w) A (.call (.ref f) args) (CR CX outer P w H s Q E) s
theorem FnOk.mono{P:Program}{w:World}{K:PySem.W.Frag}{mg:Str→Option Value}{base:Heap}{CX:CXT}{j k:Nat}{f:Addr}{fd:FuncData}{ps:List Str}{sp:Sp}(F:FnOk P w K mg base CX j f fd ps sp)(h:j≤k) :
    FnOk P w K mg base CX k f fd ps sp:=⟨F.len,fun A outer s H args us vs Q E hr=>F.run A outer s H args us vs Q E (hr.mono h)⟩
theorem FnOk.imp{P:Program}{w:World}{K:PySem.W.Frag}{mg:Str→Option Value}{base:Heap}{CX:CXT}{k:Nat}{f:Addr}{fd:FuncData}{ps:List Str}{sp sp':Sp}(F:FnOk P w K mg base CX k f fd ps sp)
    (h:∀vs H Q E,sp' vs H Q E→sp vs H Q E):FnOk P w K mg base CX k f fd ps sp':=
  ⟨fun vs H Q E q=>F.len vs H Q E (h _ _ _ _ q),fun A outer s H args us vs Q E hr he hb hv hs=>F.run A outer s H args us vs Q E hr he hb hv (h _ _ _ _ hs)⟩
theorem Env0.make{P:Program}{w:World}{K:PySem.W.Frag}{mg:Str→Option Value}{base:Heap}{A:Around}{outer:List Env}{s:Shared}{H:Hp}(e:Env0 P w K mg base A outer s H)(C:Addr)(us:List Value)(kw:List (Str × Value)) :
    Env0 P w K mg base (A.under (.builtin "type.__call__" ⟨.ref C::us,kw⟩)) outer s H:=⟨by first | exact e.frames | (simpa [Around.under,Code.envs,Code.isFrame,pushEnvs] using e.frames),e.mod,e.bs,e.bsz,e.funs,e.frf,e.hok,e.bare⟩
theorem Env0.in1{P:Program}{w:World}{K:PySem.W.Frag}{mg:Str→Option Value}{base:Heap}{A:Around}{outer:List Env}{s:Shared}{H:Hp}(e:Env0 P w K mg base A outer s H) :
    Env0 P w K mg base A.in1 outer s H:=⟨e.frames,e.mod,e.bs,e.bsz,e.funs,e.frf,e.hok,e.bare⟩
section
variable{X:Cx}{pins:List (Addr × Obj)}{σ:St}{H:Hp}{s s':Shared}
theorem Inv.env0(I:Inv X pins σ H s):Env0 X.prog X.w X.K X.mg X.base X.A X.stack s H:=
  ⟨I.ok.frames,I.ok.mod,I.bs,Nat.le_trans I.ok.bsz I.sz,I.stack,I.stkFree,I.hok,I.bare⟩
theorem Inv.after{Q:VK}{u:Value}(I:Inv X pins σ H s)(h:CE X.stack X.prog X.w H s Q u s'):EP X pins σ Q u s':=by
  obtain⟨v,H',os,bare,un,hok,r,q⟩:=h
  obtain⟨hh,g,d,t,os'⟩:=s'
  obtain rfl:os'=s.os:=os
  exact⟨v,H',I.call (h':=hh) (g':=g) (d':=d) (t':=t) (ch:=[]) un hok bare (fun b z=>absurd z (by simp)),r,q⟩
end
def tCall(sp:Sp)(dvs:List V)(E:XK)(t:TA):TE:=fun σ H Q=>t σ H fun vs H1=>sp (vs++dvs) H1 Q E
def tMeth(C:Addr)(m:Str)(sp:Sp)(dvs:List V)(E:XK)(ta:TE)(t:TA):TE:=fun σ H Q=>ta σ H fun x H1=>∃a dx fs,x=.ref a∧H1 a=some (.ins C dx fs)∧fs.lookup m=none∧
  t σ H1 fun vs H2=>sp (x::(vs++dvs)) H2 Q E
def tMake(C:Addr)(sp:Sp)(dvs:List V)(E:XK)(t:TA):TE:=fun σ H Q=>t σ H fun vs H1=>∀x dx,H1 x=none→H1 dx=none→dx≠x→
  sp (.ref x::(vs++dvs)) (upd (upd H1 dx (.own x)) x (.ins C dx [])) (fun v H2=>v=.non∧Q (.ref x) H2) E
def Binds(K:PySem.W.Frag)(fd:FuncData)(ps:List Str)(ds:List Value):Prop:=
  ∀(s:Shared) (us:List Value),K.In s.heap→(us++ds).length=ps.length→BindsTo s fd ⟨us,[]⟩ (ps.zip (us++ds))
theorem Binds.all{K:PySem.W.Frag}{fd:FuncData}{ps:List Str}(h:∀us:List Value,us.length=ps.length→bindArgs fd ⟨us,[]⟩=pure (ps.zip us)):Binds K fd ps []:=fun s us _ hl=>by
  rw[List.append_nil]at hl ⊢
  exact .of_eq (h us hl)
def l0b(CX:CXT)(X:Cx)(E:XK):Prop:=∀(pins:List (Addr × Obj)) (σ:St) (H:Hp) (s:Shared) (e:Value) (s':Shared),Inv X pins σ H s→CX X.stack H s E e s'→X.xe e s'
section
variable{X:Cx}{CX:CXT}{k:Nat}{f C:Addr}{fd:FuncData}{ps:List Str}{sp:Sp}{dvs:List V}{ds:List Value}{E:XK}{x m:Str}{p pos apos:Pos}{e o:Expr}{es:List Expr}{ta:TE}{t:TA}
theorem run_fn{pins:List (Addr × Obj)}{σ:St}{H:Hp}{s:Shared}{Q:VK}{us:List Value}{vs:List V}(F:FnOk X.prog X.w X.K X.mg X.base CX k f fd ps sp)(hr:Room k X.A)(hb:Binds X.K fd ps ds)(hd:Vals dvs ds)(hx:l0b CX X E)
    (I:Inv X pins σ H s) (r:Vals vs us) (h:sp (vs++dvs) H Q E):wpAny (model X.prog X.w) X.A (call (.ref f) us) (EP X pins σ Q) X.xe s:=by
  have r2:Vals (vs++dvs) (us++ds):=r.append hd
  have hl:(us++ds).length=ps.length:=by rw[← r2.length];exact F.len _ _ _ _ h
  refine wpAny_call (codeAny_mono (F.run X.A X.stack s H ⟨us,[]⟩ (us++ds) (vs++dvs) Q E hr I.env0 (hb s us I.kIn hl) r2 h) fun r s' hq=>?_)
  cases r with
  | error e=>exact hx pins σ H s e s' I hq
  | ok fl=>
    cases fl with
    | ret u=>exact I.after hq
    | next=>exact False.elim hq
    | brk=>exact False.elim hq
    | cont=>exact False.elim hq
theorem a0f(F:FnOk X.prog X.w X.K X.mg X.base CX k f fd ps sp)(hr:Room k X.A)(hg:Gl X x)(hm:X.mg x=some (.ref f))(hk:PySem.W.keepIn X.K (.ref f)=true)(hb:Binds X.K fd ps ds)(hd:Vals dvs ds)(hx:l0b CX X E)
    (ha:PA X (e::es) t) (hdb:(x == ("__debug__":Str))=false:=by decide) (he:starEach (e::es) X.env=(false,eval e X.env)::starEach es X.env:=by rfl) (hpl:(backTo pos (starEach es X.env)).any (·.1)=false:=by rfl) :
    PE X (.Call (.Name x p) (e::es) [] pos) (tCall sp dvs E t):=by
  intro pins s σ H Q I h
  refine wpAny_Call_Name_kw (i0j I hg hm ?_ hdb)
  refine PySem.W.callWith_K (h₀:=X.base) I.ok.mod.kin hk (thn (ha pos pins s σ H _ I h) fun us s1 ⟨vs,H1,I1,r,q⟩=>⟨I1.kIn,?_⟩) he hpl
  exact run_fn F hr hb hd hx I1 r q
theorem pe_meth{pl:Sem Bool}(he:PE X o ta)(c:Cls X.K C)(hm:Meth X.K C m f)(F:FnOk X.prog X.w X.K X.mg X.base CX k f fd ps sp)(hr:Room k X.A)(hb:Binds X.K fd ps ds)(hd:Vals dvs ds)(hx:l0b CX X E)(ha:PA X (e::es) t)
    (hst:starEach (e::es) X.env=(false,eval e X.env)::starEach es X.env:=by rfl) (hpl:(backTo pos (starEach es X.env)).any (·.1)=false:=by rfl)
    (ht:eval (.Call (.Attribute o m apos) (e::es) [] pos) X.env=(do
      let ov ← eval o X.env
      standAt apos.atName
      let(f,first) ← holding [ov] (getMethod ov m pl)
      callWith pos f first (backTo pos (starEach (e::es) X.env)) (backToKw pos (keywordEach [] X.env))):=by rfl) :
    PE X (.Call (.Attribute o m apos) (e::es) [] pos) (tMeth C m sp dvs E ta t):=by
  intro pins s σ H Q I h
  refine PySem.W.methodCall_KW (pl:=pl) (thn (he pins s σ H _ I h) fun u s1 ⟨x,H1,I1,rx,a,dx,fs,ex,ea,l,q⟩=>?_) ht
  subst ex
  obtain rfl:u=Value.ref a:=rx
  refine l0z I1 ea c hm l ?_
  refine PySem.W.callWith_K (first:=[.ref a]) (h₀:=X.base) I.ok.mod.kin hm.kp (thn (ha pos pins s1 σ H1 _ I1 q) fun us s2 ⟨vs,H2,I2,r,q2⟩=>⟨I2.kIn,?_⟩) hst hpl
  exact run_fn (us:=.ref a::us) (vs:=.ref a::vs) F hr hb hd hx I2 (.cons rfl r) q2
theorem g0v{pl:Sem Bool}(he:PE X o ta)(c:Cls X.K C)(hm:Meth X.K C m f)(F:FnOk X.prog X.w X.K X.mg X.base CX k f fd ps sp)(hr:Room k X.A)(hb:Binds X.K fd ps ds)(hd:Vals dvs ds)(hx:l0b CX X E)
    (ht:eval (.Call (.Attribute o m apos) [] [] pos) X.env=(do
      let ov ← eval o X.env
      standAt apos.atName
      let(f,first) ← holding [ov] (getMethod ov m pl)
      callWith pos f first (backTo pos (starEach [] X.env)) (backToKw pos (keywordEach [] X.env))):=by rfl) :
    PE X (.Call (.Attribute o m apos) [] [] pos) (tMeth C m sp dvs E ta tNil):=by
  intro pins s σ H Q I h
  refine PySem.W.methodCall_KW (pl:=pl) (thn (he pins s σ H _ I h) fun u s1 ⟨x,H1,I1,rx,a,dx,fs,ex,ea,l,q⟩=>?_) ht
  subst ex
  obtain rfl:u=Value.ref a:=rx
  refine l0z I1 ea c hm l ?_
  exact PySem.W.callWith_K0 (first:=[.ref a]) I1.kIn hm.kp (run_fn (us:=[.ref a]) (vs:=[.ref a]) F hr hb hd hx I1 (.cons rfl .nil) q)
structure Mk(K:PySem.W.Frag)(C f:Addr):Prop where
  makes:PySem.W.makesIn K C=true
  init:PySem.W.findIn K (.ref C) "__init__"=some (some (.ref f))
  fn:PySem.W.isFn K (.ref f)=true
  kp:PySem.W.keepIn K (.ref C)=true
theorem run_make{pins:List (Addr × Obj)}{σ:St}{H:Hp}{s:Shared}{Q:VK}{us:List Value}{vs:List V}(M:Mk X.K C f)(F:FnOk X.prog X.w X.K X.mg X.base CX k f fd ps sp)(hr:Room (k+1) X.A)(hb:Binds X.K fd ps ds)(hd:Vals dvs ds)
    (hx:l0b CX X E) (I:Inv X pins σ H s) (r:Vals vs us)
    (h:∀x dx,H x=none→H dx=none→dx≠x→sp (.ref x::(vs++dvs)) (upd (upd H dx (.own x)) x (.ins C dx [])) (fun v H2=>v=.non∧Q (.ref x) H2) E) :
    wpAny (model X.prog X.w) X.A (call (.ref C) us) (EP X pins σ Q) X.xe s:=by
  have hq:=h (s.heap.objs.size+1) s.heap.objs.size (I.hok.fresh (Nat.le_succ _)) (I.hok.fresh (Nat.le_refl _)) (Nat.ne_of_lt (Nat.lt_succ_self _))
  have I2:=Inv.made (C:=C) I
  have r2:Vals (V.ref (s.heap.objs.size+1)::(vs++dvs)) (Value.ref (s.heap.objs.size+1)::(us++ds)):=.cons rfl (r.append hd)
  have hl:(Value.ref (s.heap.objs.size+1)::us++ds).length=ps.length:=by
    have e:=r2.length
    rw[F.len _ _ _ _ hq]at e
    exact e.symm
  refine wpAny_call (make_map (f:=f) I.kIn M.makes M.init (beq_iff_eq.mp M.fn) (codeAny_mono (F.run _ X.stack _ _ ⟨Value.ref (s.heap.objs.size+1)::us,[]⟩ (Value.ref (s.heap.objs.size+1)::(us++ds)) _ _ E (hr.make C us [])
    (I2.env0.make C us []) (hb _ (Value.ref (s.heap.objs.size+1)::us) I2.kIn hl) r2 hq) fun r s' hq'=>?_))
  cases r with
  | error e=>exact hx pins σ _ _ e s' I2 hq'
  | ok fl=>
    cases fl with
    | ret u=>
      obtain⟨v,H',I3,rv,ev,q3⟩:=I2.after hq'
      subst ev
      exact⟨rv,⟨V.ref (s.heap.objs.size+1),H',I3,rfl,q3⟩⟩
    | next=>exact False.elim hq'
    | brk=>exact False.elim hq'
    | cont=>exact False.elim hq'
theorem pe_make(M:Mk X.K C f)(F:FnOk X.prog X.w X.K X.mg X.base CX k f fd ps sp)(hr:Room (k+1) X.A)(hg:Gl X x)(hm:X.mg x=some (.ref C))(hb:Binds X.K fd ps ds)(hd:Vals dvs ds)(hx:l0b CX X E)
    (ha:PA X (e::es) t) (hdb:(x == ("__debug__":Str))=false:=by decide) (he:starEach (e::es) X.env=(false,eval e X.env)::starEach es X.env:=by rfl) (hpl:(backTo pos (starEach es X.env)).any (·.1)=false:=by rfl) :
    PE X (.Call (.Name x p) (e::es) [] pos) (tMake C sp dvs E t):=by
  intro pins s σ H Q I h
  refine wpAny_Call_Name_kw (i0j I hg hm ?_ hdb)
  refine PySem.W.callWith_K (h₀:=X.base) I.ok.mod.kin M.kp (thn (ha pos pins s σ H _ I h) fun us s1 ⟨vs,H1,I1,r,q⟩=>⟨I1.kIn,?_⟩) he hpl
  exact run_make M F hr hb hd hx I1 r q
end
section
variable{X:Cx}{CX:CXT}{k:Nat}{f C:Addr}{fd:FuncData}{ps ks:List Str}{sp:Sp}{E:XK}{x m:Str}{p pos apos kpos:Pos}{e o:Expr}{es:List Expr}{kws:List Keyword}{te ta:TE}{t tk:TA}{nm:Option Str}
structure KBinds(K:PySem.W.Frag)(fd:FuncData)(ps ks:List Str)(g:List Value→List Value→List Value)(gV:List V→List V→List V):Prop where
  to:∀(s:Shared) (us ws:List Value),K.In s.heap→(g us ws).length=ps.length→BindsTo s fd ⟨us,ks.zip ws⟩ (ps.zip (g us ws))
  rel:∀{vs:List V} {us:List Value} {zs:List V} {ws:List Value},Vals vs us→Vals zs ws→Vals (gV vs zs) (g us ws)
variable{g:List Value→List Value→List Value}{gV:List V→List V→List V}
end
structure a0l(N P:List Str)(sc:Scope):Prop where
  kind:sc.kind=.function
  co:sc.isCoroutine=false
  gen:sc.isGenerator=false
  nd:N.Nodup
  pre:N.take P.length=P
  par:∀x∈P,sc.names.lookup x=some .local∨sc.names.lookup x=some .cell
  nofree:∀y∈sc.names,y.2≠.free
theorem bindL_out{kindOf:Str→Option NameKind}{x:Str}:∀{binds:List (Str × Value)} {m:Str→Option Value},(∀v,(x,v) ∉ binds)→bindL kindOf binds m x=m x
  | [],_,_=>rfl
  | (n,v)::r,m,h=>by
    unfold bindL
    rw[bindL_out fun w hw=>h w (List.mem_cons_of_mem _ hw)]
    split
    · have:x≠n:=by rintro rfl;exact h v List.mem_cons_self
      simp[this]
    · rfl
theorem bindC_out{kindOf:Str→Option NameKind}{x:Str}:∀{binds:List (Str × Value)} {m:Str→Option Value},(∀v,(x,v) ∉ binds)→bindC kindOf binds m x=m x
  | [],_,_=>rfl
  | (n,v)::r,m,h=>by
    unfold bindC
    rw[bindC_out fun w hw=>h w (List.mem_cons_of_mem _ hw)]
    split
    · rfl
    · have:x≠n:=by rintro rfl;exact h v List.mem_cons_self
      simp[this]
theorem bindL_get{kindOf:Str→Option NameKind}{x:Str}{v:Value}:∀{P:List Str} {vs:List Value} {i:Nat} {m:Str→Option Value},P.Nodup→P[i]? = some x→vs[i]? = some v→kindOf x=some .local→
    bindL kindOf (P.zip vs) m x=some v
  | [],_,_,_,_,h,_,_=>by simp at h
  | _::_,[],_,_,_,_,h,_=>by simp at h
  | p::P,w::vs,0,m,nd,h1,h2,hk=>by
    simp at h1 h2;subst h1;subst h2
    show bindL kindOf ((p,w)::P.zip vs) m p=_
    unfold bindL
    rw[bindL_out fun v hv=>(List.nodup_cons.mp nd).1 (List.of_mem_zip hv).1,if_pos hk]
    simp
  | p::P,w::vs,i+1,m,nd,h1,h2,hk=>by
    show bindL kindOf ((p,w)::P.zip vs) m x=_
    unfold bindL
    exact bindL_get (i:=i) (List.nodup_cons.mp nd).2 (by simpa using h1) (by simpa using h2) hk
theorem bindC_get{kindOf:Str→Option NameKind}{x:Str}{v:Value}:∀{P:List Str} {vs:List Value} {i:Nat} {m:Str→Option Value},P.Nodup→P[i]? = some x→vs[i]? = some v→kindOf x≠some .local→
    bindC kindOf (P.zip vs) m x=some v
  | [],_,_,_,_,h,_,_=>by simp at h
  | _::_,[],_,_,_,_,h,_=>by simp at h
  | p::P,w::vs,0,m,nd,h1,h2,hk=>by
    simp at h1 h2;subst h1;subst h2
    show bindC kindOf ((p,w)::P.zip vs) m p=_
    unfold bindC
    rw[bindC_out fun v hv=>(List.nodup_cons.mp nd).1 (List.of_mem_zip hv).1,if_neg hk]
    simp
  | p::P,w::vs,i+1,m,nd,h1,h2,hk=>by
    show bindC kindOf ((p,w)::P.zip vs) m x=_
    unfold bindC
    exact bindC_get (i:=i) (List.nodup_cons.mp nd).2 (by simpa using h1) (by simpa using h2) hk
def start(N:List Str)(vs:List V):St:=vs.map some++List.replicate (N.length - vs.length) none
def cxOf(CX:CXT)(P:Program)(w:World)(K:PySem.W.Frag)(mg:Str→Option Value)(base:Heap)(N:List Str)(qual:Str)(scope:Scope)(f:Addr)(cd:Value)(A:Around)(outer:List Env)(s:Shared)(H:Hp)(E:XK):Cx where
  prog:=P
  w:=w
  K:=K
  mg:=mg
  base:=base
  A:=A.deeper (envOfC qual scope s.heap.objs.size f cd)
  N:=N
  s₀:=s
  H₀:=H
  env:=envOfC qual scope s.heap.objs.size f cd
  outer:=outer
  stack:=envOfC qual scope s.heap.objs.size f cd::outer
  ex:=[]
  calm:=true
  fn:=fun _=>true
  pn:=[]
  xe:=fun e s'=>wpAny (model P w) (A.deeper (envOfC qual scope s.heap.objs.size f cd)) (leaving (envOfC qual scope s.heap.objs.size f cd) e) (fun _ s''=>CX outer H s E e s'') (fun e' s''=>CX outer H s E e' s'') s'
theorem cell_has{sc:Scope}{n:Nat}{x:Str}(h:sc.names.lookup x=some .cell):∃c,(cellsFrom n sc.names []).lookup x=some c:=by
  have q:=PySem.W.cellsFrom_some sc.names n [] (.inl h)
  exact Option.isSome_iff_exists.mp q
theorem inv_start{CX:CXT}{P:Program}{w:World}{K:PySem.W.Frag}{mg:Str→Option Value}{base:Heap}{N ps:List Str}{qual:Str}{scope:Scope}{f:Addr}{cd:Value}{A:Around}{outer:List Env}{s s1:Shared}{H:Hp}{E:XK}{us:List Value}{vs:List V}
    (S:a0l N ps scope) (hd:A.handled=none) (e0:Env0 P w K mg base A outer s H) (hl:vs.length=ps.length) (r:Vals vs us)
    (x:InCallC s s.heap.objs.size (bindL (envOfC qual scope s.heap.objs.size f cd).kindOf (ps.zip us) fun _=>none) (cellsFrom (s.heap.objs.size+1) scope.names []) (bindC (envOfC qual scope s.heap.objs.size f cd).kindOf (ps.zip us) fun _=>none) s1) :
    Inv (cxOf CX P w K mg base N qual scope f cd A outer s H E) [] (start N vs) H s1:=by
  have hpl:ps.length≤N.length:=by have:=congrArg List.length S.pre;rw[List.length_take]at this;omega
  obtain⟨h1,tk,rfl,hk⟩:=x.done
  have noA:∀b:Addr,b ∉ (cxOf CX P w K mg base N qual scope f cd A outer s H E).ex:=fun b z=>absurd (show b∈([]:List Addr)from z) (by simp)
  refine⟨⟨e0.mod,S.kind,rfl,rfl,Nat.le_refl _,fun y z c h1 h2=>?_,fun y hy=>?_,fun y c _ h=>?_,fun _=>hd,Around.frames_deeper e0.frames,.inr ⟨rfl,rfl⟩,fun b z=>absurd z (noA b),e0.bs,e0.bsz,fun b _ _=>noA b,fun b z=>absurd z (noA b),e0.funs,e0.frf⟩,
    rfl,e0.bare,Un.kept hk,⟨_,x.toInCall.ns,fun i y v h1 h2 h3=>?_⟩,fun y c h=>⟨_,x.cell y c h⟩,e0.hok.fresh (Nat.le_refl _),fun y c h=>?_,fun p hp=>absurd (show p∈([]:List (Addr × Obj))from hp) (by simp),e0.hok.kept hk,?_⟩
  · exact name_of_addr x.apart (PySem.mem_of_lookup h1) (PySem.mem_of_lookup h2)
  · have hy:scope.names.lookup y=some .cell∨scope.names.lookup y=some .free:=hy
    rcases hy with hy | hy
    · exact cell_has hy
    · exact absurd rfl (S.nofree _ (PySem.mem_of_lookup hy))
  · exact Nat.le_of_lt (x.above y c (PySem.mem_of_lookup h))
  · have hi:i < vs.length:=by
      unfold start at h2
      by_cases hi:i < vs.length
      · exact hi
      · rw[List.getElem?_append_right (by simpa using hi)]at h2
        rw[List.getElem?_replicate]at h2
        split at h2 <;>cases h2
    have ha:vs[i]? = some v:=by
      unfold start at h2
      rw[List.getElem?_append_left (by simpa using hi),List.getElem?_map]at h2
      cases e:vs[i]? with
      | none=>rw[e]at h2;cases h2
      | some a=>rw[e]at h2;cases h2;rfl
    obtain⟨u,hu,rv⟩:=r.get ha
    have hp:ps[i]? = some y:=by
      rw[← S.pre,List.getElem?_take_of_lt (by omega)];exact h1
    have ndP:ps.Nodup:=by rw[← S.pre];exact S.nd.sublist (List.take_sublist _ _)
    refine⟨u,rv,?_⟩
    rcases S.par y (List.mem_of_getElem? hp)with k | k
    · exact .inl ⟨k,bindL_get ndP hp hu k⟩
    · obtain⟨c,e⟩:=cell_has (n:=s.heap.objs.size+1) k
      refine .inr ⟨.inl k,c,e,?_⟩
      have q:=x.cell y c e
      rw[bindC_get ndP hp hu (by show scope.names.lookup y≠_;rw[k];decide)]at q
      exact q
  · exact e0.hok.fresh (Nat.le_of_lt (x.above y c (PySem.mem_of_lookup h)))
  · unfold start
    show _=N.length
    rw[List.length_append,List.length_map,List.length_replicate]
    omega
theorem fn_of{CX:CXT}{P:Program}{w:World}{K:PySem.W.Frag}{mg:Str→Option Value}{base:Heap}{k:Nat}{f:Addr}{name qual:Str}{params:Arguments}{body:List Stmt}{scope:Scope}{dV kV doc pm cdv ct oc:Value}{an od:Option Addr}
    {osl:Array (Option Value)} {N ps:List Str} {sp:Sp} (lk:K.lookup f=some ⟨oc,od,.func (PySem.W.fnOf name qual params body scope dV kV doc pm an cdv ct),osl⟩) (hcd:PySem.W.codeIn K cdv qual=true) (S:a0l N ps scope)
    (len:∀vs H Q E,sp vs H Q E→vs.length=ps.length)
    (hbody:∀(A:Around) (outer:List Env) (s:Shared) (H:Hp) (vs:List V) (Q:VK) (E:XK),Room k (A.deeper (envOfC qual scope s.heap.objs.size f cdv))→sp vs H Q E→
      ∃t,PSs (cxOf CX P w K mg base N qual scope f cdv A outer s H E) body t∧t { nx:=fun _ H'=>Q .non H',rt:=Q } (start N vs) H) :
    FnOk P w K mg base CX (k+1) f (PySem.W.fnOf name qual params body scope dV kV doc pm an cdv ct) ps sp:=by
  refine⟨len,fun A outer s H args us vs Q E hr e0 hb r hsp=>?_⟩
  have hl:=len _ _ _ _ hsp
  have KX:K.In s.heap:=e0.mod.kin.keeps fun b o e=>(e0.bs b o e).1
  have lim:s.heap.NoLimit:=e0.mod.nolimit.keeps fun b o e=>(e0.bs b o e).1
  have hkind:∀y∈ps.zip us,scope.names.lookup y.1=some .local∨(scope.names.lookup y.1=some .cell∧((cellsFrom (s.heap.objs.size+1) scope.names []).lookup y.1).isSome=true):=fun⟨n,v⟩ hy=>by
    rcases S.par n (List.of_mem_zip hy).1 with q | q
    · exact .inl q
    · exact .inr ⟨q,PySem.W.cellsFrom_some _ _ _ (.inl q)⟩
  refine codeAny_call_function hr.depth (KX _ _ lk) rfl S.co S.gen rfl (PySem.W.codeRec_of KX hcd) (hb _ _ _ _ ?_)
  refine wpAny_newFunctionEnv_cells S.kind hkind fun env he s1 x=>?_
  subst he
  refine⟨lim.keeps x.toInCall.keep,codeAny_func ?_⟩
  obtain⟨t,ht,hq⟩:=hbody A outer s H vs Q E (hr.deeper _) hsp
  have I:Inv (cxOf CX P w K mg base N qual scope f cdv A outer s H E) [] (start N vs) H s1:=inv_start S hr.hd e0 hl r x
  refine wpAny_mono (ht [] s1 (start N vs) H _ I hq) (fun fl s' hs=>?_) fun e s' hs=>hs
  have fin:∀{σ':St} {H':Hp} {v:V} {u:Value},Inv (cxOf CX P w K mg base N qual scope f cdv A outer s H E) [] σ' H' s'→RelV v u→Q v H'→CE outer P w H s Q u s':=
    fun{σ' H' v u} J rv q=>⟨v,H',J.os,J.bare,J.base,J.hok,rv,q⟩
  cases fl with
  | ret u=>
    obtain⟨v,σ',H',J,rv,q⟩:=hs
    exact fin J rv q
  | next=>
    obtain⟨σ',H',J,q⟩:=hs
    exact fin (v:=V.non) (u:=Value.none) J rfl q
  | brk=>
    obtain⟨_,_,_,q⟩:=hs
    exact False.elim q
  | cont=>
    obtain⟨_,_,_,q⟩:=hs
    exact False.elim q
end L2
namespace L2
open PySem PySem.Spec PyProof.Rows
section
variable{X:Cx}{x:Str}{p pos:Pos}{e:Expr}{es:List Expr}{t:TA}{id T:String}{r:List V→Hp→VK→Prop}
def tCB(r:List V→Hp→VK→Prop)(t:TA):TE:=fun σ H Q=>t σ H fun vs H1=>r vs H1 Q
theorem a0z(hc:CallR X (.builtin id) r)(hg:Gl X x)(hm:X.mg x=none)(hv:bootBuiltins x=some (.builtin id))(ha:PA X (e::es) t)(hn:x≠"__name__":=by decide)(hdb:(x == ("__debug__":Str))=false:=by decide)
    (he:starEach (e::es) X.env=(false,eval e X.env)::starEach es X.env:=by rfl) (hpl:(backTo pos (starEach es X.env)).any (·.1)=false:=by rfl):PE X (.Call (.Name x p) (e::es) [] pos) (tCB r t):=by
  intro pins s σ H Q I h
  refine wpAny_Call_Name_kw (ld_blt I hg hm hv ?_ hn hdb)
  exact PyProof.Rows.callWith_builtin1 (thn (ha pos pins s σ H _ I h) fun us s1 ⟨vs,H1,I1,r1,q1⟩=>hc pins s1 σ H1 vs us Q I1 r1 q1) he hpl
theorem b0a(hc:CallR X (.type T) r)(hg:Gl X x)(hm:X.mg x=none)(hv:bootBuiltins x=some (.type T))(ha:PA X (e::es) t)(hn:x≠"__name__":=by decide)(hdb:(x == ("__debug__":Str))=false:=by decide)
    (he:starEach (e::es) X.env=(false,eval e X.env)::starEach es X.env:=by rfl) (hpl:(backTo pos (starEach es X.env)).any (·.1)=false:=by rfl):PE X (.Call (.Name x p) (e::es) [] pos) (tCB r t):=by
  intro pins s σ H Q I h
  refine wpAny_Call_Name_kw (ld_blt I hg hm hv ?_ hn hdb)
  exact PyProof.Rows.callWith_type1 (thn (ha pos pins s σ H _ I h) fun us s1 ⟨vs,H1,I1,r1,q1⟩=>hc pins s1 σ H1 vs us Q I1 r1 q1) he hpl
end
end L2
namespace HT
open PySem PyProof.Rows
section
open PySem.SeqAt
open PySem.AutoSeq1 (wpAny_loadPart')
open PySem.MeetsSeq PySem.MeetsSeq2 PySem.MeetsSeq3
end
section
variable{prog:Program}{w:World}{A:Around}{E:Value→Shared→Prop}{s:Shared}
theorem cat_tup{t b:Addr}{vs ws:List Value}{Q:Value→Shared→Prop}(ht:IsTup s.heap t vs.toArray)(hb:IsTup s.heap b ws.toArray)(hv:vs≠[])
    (h1:ws=[]→Q (.ref t) s) (h2:ws≠[]→Q (.ref s.heap.objs.size) { s with heap:=s.heap.push { cls:=.type "tuple",data:=.seq (vs++ws).toArray } })
    (hsz:vs.length+ws.length≤sizeLine):wpAny (model prog w) A (binaryOp .Add (.ref t) (.ref b)) Q E s:=by
  obtain⟨⟨cls,dd,data,sl⟩,ho,hc,n,hd⟩:=id ht
  obtain⟨⟨cls2,dd2,data2,sl2⟩,ho2,hc2,n2,hd2⟩:=id hb
  simp only at hc hd hc2 hd2
  subst hc hd hc2 hd2
  have e:vs.toArray++ws.toArray=(vs++ws).toArray:=by simp
  by_cases hw:ws=[]
  · exact concat_meets ⟨_,ho,rfl⟩ ⟨_,ho2,rfl⟩ noFill_tuple_add seq_tuple_add PySem.F.slot_tuple_add PySem.F.entry_tuple_add (PySem.F.args_tuple_add_2 _ _)
      (tuple_addW1 t b vs.toArray ws.toArray n n2 dd dd2 sl sl2 (by simpa using hv) (by simp[hw])) ⟨ho,ho2,h1 hw⟩
  · refine concat_meets ⟨_,ho,rfl⟩ ⟨_,ho2,rfl⟩ noFill_tuple_add seq_tuple_add PySem.F.slot_tuple_add PySem.F.entry_tuple_add (PySem.F.args_tuple_add_2 _ _)
      (tuple_addW2 t b vs.toArray ws.toArray n n2 dd dd2 sl sl2 (by simpa using hv) (by simpa using hw) (by rw[List.size_toArray,List.size_toArray];exact hsz)) ⟨ho,ho2,?_⟩
    rw[e]
    exact h2 hw
def sIx(n d:Nat):Option Int→Nat
  | none=>d
  | some v=>if v < 0 then(v+(n:Int)).toNat else min v.toNat n
theorem sIx_none(n d:Nat):sIx n d none=d:=rfl
theorem sIx_nat(n d k:Nat):sIx n d (some (k:Int))=min k n:=by
  show(if(k:Int) < 0 then((k:Int)+(n:Int)).toNat else min (k:Int).toNat n)=min k n
  rw[if_neg (by omega),Int.toNat_natCast]
theorem sIx_le(n d:Nat)(hd:d≤n)(o:Option Int):sIx n d o≤n:=by
  cases o with
  | none=>exact hd
  | some v=>
    show(if v < 0 then(v+(n:Int)).toNat else min v.toNat n)≤n
    by_cases hv:v < 0
    · rw[if_pos hv];omega
    · rw[if_neg hv];exact Nat.min_le_right _ _
theorem clip_eq(v:Int)(n d:Nat):(if v < 0 then max (v+(n:Int)) 0 else min v (n:Int))=((sIx n d (some v):Nat):Int):=by
  show(if v < 0 then max (v+(n:Int)) 0 else min v (n:Int))=(((if v < 0 then(v+(n:Int)).toNat else min v.toNat n):Nat):Int)
  by_cases hv:v < 0
  · simp only[if_pos hv];omega
  · simp only[if_neg hv];omega
theorem adjust_gen(lo hi:Option Int)(n:Nat):Builtin.Slice.sliceAdjust lo hi 1 (n:Int)=(((sIx n 0 lo:Nat):Int),((sIx n n hi:Nat):Int)):=by
  have h1:¬((1:Int) < 0):=by omega
  unfold Builtin.Slice.sliceAdjust
  simp only[h1,if_false]
  refine Prod.ext ?_ ?_
  · cases lo with
    | none=>rfl
    | some v=>exact clip_eq v n 0
  · cases hi with
    | none=>rfl
    | some v=>exact clip_eq v n n
theorem places_gen(i j:Nat):Builtin.Slice.slicePlaces (i:Int) (j:Int) 1=j - i:=by
  unfold Builtin.Slice.slicePlaces
  have h1:(1:Int) > 0:=by omega
  simp only[h1,if_true,Int.ediv_one]
  split <;>omega
theorem l0x{v:Value}{o:Option Int}{Q:Option Int→Shared→Prop}(p:IsPart v o)(h:Q o s):wpAny (model prog w) A (Builtin.Slice.slicePartIndex v) Q E s:=by
  cases p with
  | none=>exact slicePart_none h
  | int i t=>exact slicePart_int h
theorem i0v{sl:Addr}{vl vu:Value}{lo hi:Option Int}{n:Nat}{Q:Int × Int × Nat→Shared→Prop}(hs:s.heap.IsSliceOf sl vl vu .none)(pl:IsPart vl lo)(pu:IsPart vu hi)
    (h:Q (((sIx n 0 lo:Nat):Int),1,sIx n n hi - sIx n 0 lo) s):wpAny (model prog w) A (Builtin.Slice.sliceApplied (.ref sl) (pure (n:Int))) Q E s:=by
  obtain⟨os,hos,hcs,hds⟩:=id hs
  unfold Builtin.Slice.sliceApplied Builtin.Slice.sliceFields
  refine wpAny_bind (wpAny_bind (wpAny_field hos hds (x:=vl) rfl (wpAny_bind (wpAny_field hos hds (x:=vu) rfl (wpAny_bind (wpAny_field hos hds (x:=.none) rfl (wpAny_pure ?_)))))))
  refine wpAny_bind (slicePart_none ?_)
  show wpAny _ _ (if((1:Int) == 0)=true then _ else _) _ _ s
  rw[if_neg (by decide)]
  refine wpAny_bind (l0x pl (wpAny_bind (l0x pu (wpAny_bind (wpAny_pure ?_)))))
  show wpAny _ _ (match Builtin.Slice.sliceAdjust lo hi 1 (n:Int)with | (lo,hi)=>pure (lo,(1:Int),Builtin.Slice.slicePlaces lo hi 1)) _ _ s
  rw[adjust_gen lo hi n]
  show wpAny _ _ (pure (((sIx n 0 lo:Nat):Int),(1:Int),Builtin.Slice.slicePlaces ((sIx n 0 lo:Nat):Int) ((sIx n n hi:Nat):Int) 1)) _ _ s
  rw[places_gen]
  exact wpAny_pure h
theorem pick_gen(xs:Array Value)(i k:Nat):((List.range k).filterMap fun(m:Nat)=>xs[((i:Int)+(m:Int) * 1).toNat]?).toArray=((xs.toList.drop i).take k).toArray:=by
  have e:(fun(m:Nat)=>xs[((i:Int)+(m:Int) * 1).toNat]?)=fun m=>xs[i+m]? := by
    funext m
    have:((i:Int)+(m:Int) * 1).toNat=i+m:=by omega
    rw[this]
  rw[e]
  have:=pick_run xs i k
  rw[List.filterMap_map]at this
  have e2:((fun x=>xs[x]?) ∘ fun x=>i+x)=fun m=>xs[i+m]? := rfl
  rw[e2]at this
  rw[this]
theorem i0k{t sl:Addr}{items:Array Value}{vl vu:Value}{lo hi:Option Int}{Q:Value→Shared→Prop}(ht:IsTup s.heap t items)(hs:s.heap.IsSliceOf sl vl vu .none)(pl:IsPart vl lo)(pu:IsPart vu hi)
    (hw:¬(sIx items.size 0 lo=0∧sIx items.size items.size hi=items.size))
    (h:Q (.ref s.heap.objs.size) { s with heap:=s.heap.push { cls:=.type "tuple",data:=.seq ((items.toList.drop (sIx items.size 0 lo)).take (sIx items.size items.size hi - sIx items.size 0 lo)).toArray } })
    (hsz:items.size≤sizeLine):wpAny (model prog w) A (getItem (.ref t) (.ref sl)) Q E s:=by
  have htake:sizeOk (.seq ((items.toList.drop (sIx items.size 0 lo)).take (sIx items.size items.size hi - sIx items.size 0 lo)).toArray):=by
    show((items.toList.drop (sIx items.size 0 lo)).take (sIx items.size items.size hi - sIx items.size 0 lo)).toArray.size≤sizeLine
    rw[List.size_toArray,List.length_take,List.length_drop,Array.length_toList]
    omega
  have hj:sIx items.size items.size hi≤items.size:=sIx_le _ _ (Nat.le_refl _) hi
  obtain⟨os,hos,hcs,hds⟩:=id hs
  have hTs:s.TypeIs (.ref sl) "slice":=⟨os,hos,hcs⟩
  unfold getItem
  try with_reducible refine wpAny_holding ?_
  first | refine wpAny_bind (wpAny_pure ?_) | skip
  refine wpAny_bind (wpAny_sequenceKey ht.typeIs (by decide) ?_)
  refine wpAny_bind (wpAny_callSpecial?_slot (name:=Str.ofString "__getitem__") ht.typeIs PyProof.Rows.slot_tuple_getitem
    (wpAny_call_entry PyProof.Rows.slot_tuple_getitem ht.typeIs entry_tuple_getitem ?_ (args_tuple_getitem _ _)))
  show wpAny _ _ (Builtin.Tuple.tupleItemsOf (.ref t) >>= _) _ _ s
  refine wpAny_bind (tupleItemsOf_ ht ?_)
  refine wpAny_bind (wpAny_typeOf hTs ?_)
  rw[if_pos (by decide)]
  refine wpAny_bind (i0v hs pl pu ?_)
  have hno:¬((((sIx items.size 0 lo:Nat):Int) == 0 && (1:Int) == 1 && (sIx items.size items.size hi - sIx items.size 0 lo) == items.size)=true):=by
    intro q
    rw[Bool.and_eq_true,Bool.and_eq_true]at q
    have q1:((sIx items.size 0 lo:Nat):Int)=0:=eq_of_beq q.1.1
    have q2:sIx items.size items.size hi - sIx items.size 0 lo=items.size:=eq_of_beq q.2
    exact hw ⟨by omega,by omega⟩
  show wpAny _ _ (if(((sIx items.size 0 lo:Nat):Int) == 0 && (1:Int) == 1 && (sIx items.size items.size hi - sIx items.size 0 lo) == items.size)=true then _ else _) _ _ s
  rw[if_neg hno,pick_gen]
  first
    | exact wpAny_bind (m:=Builtin.Tuple.tupleExact _) (wpAny_newObj_type (wpAny_pure ⟨_,rfl,wpAny_pure h⟩) htake)
    | exact wpAny_bind (m:=Builtin.Tuple.tupleExact _) (wpAny_newObj_type (wpAny_bind (wpAny_pure (wpAny_pure ⟨_,rfl,wpAny_pure h⟩))) htake)
    | exact wpAny_bind (wpAny_bind (m:=Builtin.Tuple.tupleExact _) (wpAny_newObj_type (wpAny_pure (wpAny_pure ⟨_,rfl,wpAny_pure h⟩)) htake))
    | exact wpAny_bind (wpAny_bind (m:=Builtin.Tuple.tupleExact _) (wpAny_newObj_type (wpAny_pure ⟨_,rfl,wpAny_pure h⟩) htake))
end
end HT
namespace L2
open PySem PySem.Spec PyProof.Rows
abbrev TO:=St→Hp→(Option Int→Hp→Prop)→Prop
def PO(X:Cx)(e:Option Expr)(t:TO):Prop:=
  ∀(pins:List (Addr × Obj)) (s:Shared) (σ:St) (H:Hp) (Q:Option Int→Hp→Prop),Inv X pins σ H s→t σ H Q→
    wpAny (model X.prog X.w) X.A (evalPart e X.env) (fun u s'=>∃o H',Inv X pins σ H' s'∧IsPart u o∧Q o H') X.xe s
def tNoPart:TO:=fun _ H Q=>Q none H
def tPart(t:TE):TO:=fun σ H Q=>t σ H fun x H1=>∃i,x=.int i∧Q (some i) H1
section
variable{X:Cx}{e:Expr}{te:TE}{lo hi:Option Expr}{tl th:TO}{pos p2:Pos}
theorem e0v:PO X none tNoPart:=by
  intro pins s σ H Q I h
  rw[evalPart_none]
  exact wpAny_pure ⟨none,H,I,.none,h⟩
theorem e0u(h:PE X e te):PO X (some e) (tPart te):=by
  intro pins s σ H Q I hw
  rw[evalPart_some]
  refine thn (h pins s σ H _ I hw) fun u s1 ⟨x,H1,I1,r1,q1⟩=>?_
  obtain⟨i,rfl,q⟩:=q1
  obtain⟨t,rfl⟩:=r1
  exact⟨some i,H1,I1,.int i t,q⟩
def SlR(X:Cx)(r:V→Option Int→Option Int→Hp→VK→Prop):Prop:=
  ∀(pins:List (Addr × Obj)) (s:Shared) (σ:St) (H:Hp) (x:V) (v vl vu:Value) (lo hi:Option Int) (sl:Addr) (Q:VK),Inv X pins σ H s→RelV x v→s.heap.IsSliceOf sl vl vu .none→IsPart vl lo→IsPart vu hi→r x lo hi H Q→
    ∃T id,typeLookup (.type T) "__getitem__"=pure (some (.builtin id))∧s.TypeIs v T∧wpAny (model X.prog X.w) X.A (getItem v (.ref sl)) (EP X pins σ Q) X.xe s
theorem SlR.or{r r':V→Option Int→Option Int→Hp→VK→Prop}(h:SlR X r)(h':SlR X r'):SlR X (fun x lo hi H Q=>r x lo hi H Q∨r' x lo hi H Q):=by
  intro pins s σ H x v vl vu lo hi sl Q I rx hs pl pu q
  rcases q with q | q
  · exact h pins s σ H x v vl vu lo hi sl Q I rx hs pl pu q
  · exact h' pins s σ H x v vl vu lo hi sl Q I rx hs pl pu q
def tSl(r:V→Option Int→Option Int→Hp→VK→Prop)(te:TE)(tl th:TO):TE:=fun σ H Q=>te σ H fun x H1=>tl σ H1 fun l H2=>th σ H2 fun u H3=>r x l u H3 Q
theorem d0k{r:V→Option Int→Option Int→Hp→VK→Prop}(hr:SlR X r)(he:PE X e te)(hl:PO X lo tl)(hu:PO X hi th):PE X (.Subscript e (.Slice lo hi none p2) pos) (tSl r te tl th):=by
  intro pins s σ H Q I h
  refine Subscript_ (thn (he pins s σ H _ I h) fun v s1 ⟨x,H1,I1,r1,q1⟩=>?_)
  refine wpAny_Slice (thn (hl pins s1 σ H1 _ I1 q1) fun vl s2 ⟨l,H2,I2,pl,q2⟩=>thn (hu pins s2 σ H2 _ I2 q2) fun vu s3 ⟨u,H3,I3,pu,q3⟩=>?_)
  rw[evalPart_none]
  refine wpAny_pure ?_
  have I4:Inv X pins σ H3 { s3 with heap:=s3.heap.push { cls:=.type "slice",data:=.fields #[vl,vu,.none] } }:=I3.kept (t':=s3.toks) fun b ob q=>Heap.get?_push_of_some _ q
  obtain⟨T,id,hT,ht,hg⟩:=hr pins { s3 with heap:=s3.heap.push { cls:=.type "slice",data:=.fields #[vl,vu,.none] } } σ H3 x v vl vu l u s3.heap.objs.size Q I4 r1 (Heap.IsSliceOf.new ..) pl pu q3
  show wpAny (model X.prog X.w) X.A (subscriptTail e (.Slice lo hi none p2) v (.ref s3.heap.objs.size)) (EP X pins σ Q) X.xe { s3 with heap:=s3.heap.push { cls:=.type "slice",data:=.fields #[vl,vu,.none] } }
  exact tail_any (ops:=[.ref s3.heap.objs.size,v]) ht hT hg (by with_unfolding_all rfl)
def cutV(xs:List V)(lo hi:Option Int):List V:=(xs.drop (HT.sIx xs.length 0 lo)).take (HT.sIx xs.length xs.length hi - HT.sIx xs.length 0 lo)
theorem k0v(xs:List V)(lo hi:Option Int):(cutV xs lo hi).length≤xs.length:=by
  unfold cutV
  rw[List.length_take,List.length_drop]
  omega
def rSlT(K:PySem.W.Frag):V→Option Int→Option Int→Hp→VK→Prop:=fun x lo hi H Q=>∃a xs,x=.ref a∧SqT K H a xs∧
  ¬(HT.sIx xs.length 0 lo=0∧HT.sIx xs.length xs.length hi=xs.length)∧∀p,H p=none→Q (.ref p) (upd H p (.tup (cutV xs lo hi)))
theorem sl_tup:SlR X (rSlT X.K):=by
  intro pins s σ H x v vl vu lo hi sl Q I rx hs pl pu h
  obtain⟨a,xs,rfl,hx,hw,q⟩:=h
  cases rx
  obtain⟨its,r,ht,hz⟩:=I.tuple hx
  have hlen:its.toArray.size=xs.length:=by rw[List.size_toArray];exact r.length.symm
  refine⟨"tuple",_,PyProof.Rows.slot_tuple_getitem.lookup,ht.typeIs,?_⟩
  refine HT.i0k ht hs pl pu (by rw[hlen];exact hw) ?_ (by rw[hlen];exact hz)
  rw[hlen]
  refine⟨.ref s.heap.objs.size,_,I.laid (t':=s.toks) (o:=.tup (cutV xs lo hi)) (fun b ob q=>Heap.get?_push_of_some _ q) (Nat.le_refl _) ?_,rfl,q _ (I.hok.fresh (Nat.le_refl _))⟩
  exact⟨Nat.le_trans (k0v xs lo hi) hz,_,(r.drop (HT.sIx xs.length 0 lo)).take (HT.sIx xs.length xs.length hi - HT.sIx xs.length 0 lo),IsTup.new _ _,fun _=>⟨_,Heap.get?_push_size _ rfl,rfl⟩⟩
def rCatT(K:PySem.W.Frag):R2:=fun x y H Q=>∃a b xs ys,x=.ref a∧y=.ref b∧SqT K H a xs∧SqT K H b ys∧xs≠[]∧xs.length+ys.length≤sizeLine∧
  (ys=[]→Q (.ref a) H)∧(ys≠[]→∀p,H p=none→Q (.ref p) (upd H p (.tup (xs++ys))))
theorem Vals.nil_iff{xs:List V}{us:List Value}(r:Vals xs us):us=[]↔xs=[]:=by
  cases r with
  | nil=>simp
  | cons _ _=>simp
theorem op_catT:OpR X (binaryOp .Add) (rCatT X.K):=by
  intro pins s σ H x y v u Q I rx ry h
  obtain⟨a,b,xs,ys,rfl,rfl,ha,hb,hx,hz,q1,q2⟩:=h
  cases rx
  cases ry
  obtain⟨its,r1,p1,_⟩:=I.tuple ha
  obtain⟨its2,r2,p2,_⟩:=I.tuple hb
  refine HT.cat_tup p1 p2 (fun z=>hx (r1.nil_iff.mp z)) (fun z=>⟨.ref a,H,I,rfl,q1 (r2.nil_iff.mp z)⟩) (fun z=>?_) (by rw[← r1.length,← r2.length];exact hz)
  refine⟨.ref s.heap.objs.size,_,I.laid (t':=s.toks) (o:=.tup (xs++ys)) (fun b ob q=>Heap.get?_push_of_some _ q) (Nat.le_refl _) ?_,rfl,q2 (fun w=>z (r2.nil_iff.mpr w)) _ (I.hok.fresh (Nat.le_refl _))⟩
  exact⟨by rw[List.length_append];exact hz,_,r1.append r2,IsTup.new _ _,fun _=>⟨_,Heap.get?_push_size _ rfl,rfl⟩⟩
end
end L2
namespace L2
open PySem PySem.Spec PyProof.Rows
def ixN(n:Nat)(i:Int):Option Nat:=if 0≤i then(if i < n then some i.toNat else none)else if -(n:Int)≤i then some (i+n).toNat else none
def atI{α:Type}(xs:List α)(i:Int):Option α:=(ixN xs.length i).bind fun j=>xs[j]?
theorem ixN_seq{n:Nat}{i:Int}{j:Nat}(h:ixN n i=some j):seqIndex? i n=some j∧j < n∧-(n:Int)≤i∧i < n:=by
  unfold ixN at h
  by_cases h0:0≤i
  · rw[if_pos h0]at h
    by_cases h1:i < n
    · rw[if_pos h1]at h
      have e:i.toNat=j:=Option.some.inj h
      exact⟨by rw[seqIndex_of h0 h1,e],by omega,by omega,h1⟩
    · rw[if_neg h1]at h;cases h
  · rw[if_neg h0]at h
    by_cases h1:-(n:Int)≤i
    · rw[if_pos h1]at h
      have e:(i+n).toNat=j:=Option.some.inj h
      exact⟨by rw[seqIndex_neg (by omega) h1,e],by omega,h1,by omega⟩
    · rw[if_neg h1]at h;cases h
theorem atI_get{α:Type}{xs:List α}{i:Int}{v:α}(h:atI xs i=some v):∃j,seqIndex? i xs.length=some j∧xs[j]? = some v∧j < xs.length∧-(xs.length:Int)≤i∧i < xs.length:=by
  unfold atI at h
  cases e:ixN xs.length i with
  | none=>rw[e]at h;cases h
  | some j=>
    rw[e]at h
    obtain⟨h1,h2,h3,h4⟩:=ixN_seq e
    exact⟨j,h1,h,h2,h3,h4⟩
theorem e0k{α:Type}{xs:List α}{j:Nat}{v:α}(h:xs[j]? = some v):atI xs (j:Int)=some v:=by
  have hj:j < xs.length:=(List.getElem?_eq_some_iff.mp h).1
  have e:ixN xs.length (j:Int)=some j:=by
    unfold ixN
    rw[if_pos (by omega),if_pos (by omega)];simp
  unfold atI;rw[e];exact h
def PlainIx(b:Expr):Prop:=∀o i,subscripted b false o i=operate [o,i] (getItem o i)
def IxR(X:Cx)(r:R2):Prop:=
  ∀(value slice:Expr) (pins:List (Addr × Obj)) (s:Shared) (σ:St) (H:Hp) (x y:V) (v u:Value) (Q:VK),Inv X pins σ H s→RelV x v→RelV y u→r x y H Q→
    subscripted slice false v u=operate [v,u] (getItem v u)→wpAny (model X.prog X.w) X.A (subscriptTail value slice v u) (EP X pins σ Q) X.xe s
def MtR(X:Cx)(id:String)(r:V→List V→Hp→VK→Prop):Prop:=
  ∀(pins:List (Addr × Obj)) (s:Shared) (σ:St) (H:Hp) (x:V) (xs:List V) (v:Value) (us:List Value) (Q:VK),Inv X pins σ H s→RelV x v→Vals xs us→r x xs H Q→
    wpAny (model X.prog X.w) X.A (call (.builtin id) (v::us)) (EP X pins σ Q) X.xe s
section
variable{X:Cx}{a b:Expr}{ta tb:TE}{pos:Pos}
theorem IxR.or{r r':R2}(h:IxR X r)(h':IxR X r'):IxR X (fun x y H Q=>r x y H Q∨r' x y H Q):=by
  intro value slice pins s σ H x y v u Q I rx ry q hs
  rcases q with q | q
  · exact h value slice pins s σ H x y v u Q I rx ry q hs
  · exact h' value slice pins s σ H x y v u Q I rx ry q hs
theorem MtR.or{id:String}{r r':V→List V→Hp→VK→Prop}(h:MtR X id r)(h':MtR X id r'):MtR X id (fun x xs H Q=>r x xs H Q∨r' x xs H Q):=by
  intro pins s σ H x xs v us Q I rx rs q
  rcases q with q | q
  · exact h pins s σ H x xs v us Q I rx rs q
  · exact h' pins s σ H x xs v us Q I rx rs q
theorem a0p{r:R2}(hr:IxR X r)(ha:PE X a ta)(hb:PE X b tb)(hs:PlainIx b):PE X (.Subscript a b pos) (tOp r ta tb):=by
  intro pins s σ H Q I h
  exact Subscript_ (binT ha hb I h fun v u s2 x y H2 I2 rx ry q=>hr a b pins s2 σ H2 x y v u Q I2 rx ry q (hs _ _))
def rIxL(K:PySem.W.Frag):R2:=fun x y H Q=>∃p xs i v,x=.ref p∧y=.int i∧SqL K H p xs∧atI xs i=some v∧Q v H
def rIxT(K:PySem.W.Frag):R2:=fun x y H Q=>∃p xs i v,x=.ref p∧y=.int i∧SqT K H p xs∧atI xs i=some v∧Q v H
def rIxS:R2:=fun x y H Q=>∃z i c,x=.str z∧y=.int i∧z.length≤sizeLine∧atI z.cps.toList i=some c∧Q (.str ⟨#[c]⟩) H
theorem b0t:IxR X (rIxL X.K):=by
  intro value slice pins s σ H x y v u Q I rx ry h hs
  obtain⟨p,xs,i,z,rfl,rfl,hq,he,q⟩:=h
  cases rx
  obtain⟨t,rfl⟩:=ry
  obtain⟨its,r,pl,hz⟩:=I.list hq
  obtain⟨j,h1,h2,h3,h4,h5⟩:=atI_get he
  obtain⟨w,ew,rw'⟩:=r.get h2
  have hl:=r.length
  have hn:=line63
  have fin:EP X pins σ Q w s:=⟨z,H,I,rw',q⟩
  by_cases h0:0≤i
  · have hj:i.toNat=j:=by
      rw[seqIndex_of h0 h5]at h1
      exact Option.some.inj h1
    exact item_listR pl.isList h0 (by omega) (by rw[hj];simpa using ew) fin hs
  · have hj:(i+(its.toArray.size:Int)).toNat=j:=by
      rw[seqIndex_neg (by omega) h4]at h1
      rw[List.size_toArray,← hl]
      exact Option.some.inj h1
    exact subscriptTail_builtinR (x:=w) pl.isList.typeIs slot_list_getitem.lookup
      (wpAny_getItem_list_neg (Q:=fun r s'=>r=w∧EP X pins σ Q r s') pl.isList (by omega) (by rw[List.size_toArray] <;>omega) (by omega) (by rw[hj];simpa using ew) ⟨rfl,fin⟩) hs
theorem a0n:IxR X (rIxT X.K):=by
  intro value slice pins s σ H x y v u Q I rx ry h hs
  obtain⟨p,xs,i,z,rfl,rfl,hq,he,q⟩:=h
  cases rx
  obtain⟨t,rfl⟩:=ry
  obtain⟨its,r,pl,hz⟩:=I.tuple hq
  obtain⟨j,h1,h2,h3,h4,h5⟩:=atI_get he
  obtain⟨w,ew,rw'⟩:=r.get h2
  have hl:=r.length
  have hn:=line63
  have fin:EP X pins σ Q w s:=⟨z,H,I,rw',q⟩
  exact subscriptTail_builtinR (x:=w) pl.typeIs slot_tuple_getitem.lookup
    (getItem_tuple (j:=j) (Q:=fun r s'=>r=w∧EP X pins σ Q r s') pl (by omega) (by omega) (by rw[List.size_toArray,← hl];exact h1) (by simpa using ew) ⟨rfl,fin⟩) hs
theorem ix_str:IxR X rIxS:=by
  intro value slice pins s σ H x y v u Q I rx ry h hs
  obtain⟨z,i,c,rfl,rfl,hz,he,q⟩:=h
  obtain⟨t,rfl⟩:=rx
  obtain⟨t',rfl⟩:=ry
  obtain⟨j,h1,h2,h3,h4,h5⟩:=atI_get he
  have hl:z.cps.toList.length=z.length:=by simp[Str.length]
  rw[hl]at h1 h4 h5
  have hn:=line63
  exact tail_any (typeIs_str s z t) slot_str_getitem.lookup (getItem_str (c:=c) (by
    have e1:decide (i < -(2 ^ 63:Int))=false:=decide_eq_false (by omega)
    have e2:decide (i ≥ 2 ^ 63)=false:=decide_eq_false (by omega)
    rw[e1,e2,Bool.or_false]) (by rw[h1];simpa using h2) ⟨.str ⟨#[c]⟩,H,I.tok _,⟨_,rfl⟩,q⟩) hs
theorem mapSeq_set(its:List Value)(n j:Nat)(u:Value):Obj.mapSeq (·.setIfInBounds j u) { cls:=.type "list",data:=.seq its.toArray n }={ cls:=.type "list",data:=.seq (its.set j u).toArray n }:=by
  simp[Obj.mapSeq]
theorem Inv.lst{pins:List (Addr × Obj)}{σ:St}{H:Hp}{s:Shared}{p:Addr}{xs:List V}(I:Inv X pins σ H s)(h:H p=some (.lst xs)) :
    ∃(its:List Value) (n:Nat),Vals xs its∧s.heap.get? p=some { cls:=.type "list",data:=.seq its.toArray n }∧xs.length≤sizeLine:=by
  obtain⟨z,its,n,r,e⟩:=I.hok p _ h
  exact⟨its,n,r,e,z⟩
theorem Inv.lstUpd{pins:List (Addr × Obj)}{σ:St}{H:Hp}{s:Shared}{p:Addr}{xs ys:List V}{its its':List Value}{n n':Nat}{f:Obj→Obj}(I:Inv X pins σ H s)(h:H p=some (.lst xs))
    (ho:s.heap.get? p=some { cls:=.type "list",data:=.seq its.toArray n }) (hf:f { cls:=.type "list",data:=.seq its.toArray n }={ cls:=.type "list",data:=.seq its'.toArray n' }) (r:Vals ys its') (hz:ys.length≤sizeLine) (t:Nat) :
    Inv X pins σ (upd H p (.lst ys)) { s with heap:=s.heap.update p f,toks:=t }:=by
  have e:(s.heap.update p f).get? p=some { cls:=.type "list",data:=.seq its'.toArray n' }:=by
    rw[Heap.get?_update_self f ho (by rw[hf] <;>rfl),hf]
  refine I.write (x:=p) (e:=p) (by rw[h];trivial) (.inl rfl) (fun b u hb q=>(Heap.get?_update_other _ _ (Ne.symm hb)).trans q) ⟨_,e⟩ ?_
  exact⟨hz,its',n',r,e⟩
def rSetL:V→V→V→Hp→(Hp→Prop)→Prop:=fun o i v H Q=>∃p xs k j,o=.ref p∧i=.int k∧H p=some (.lst xs)∧ixN xs.length k=some j∧Q (upd H p (.lst (xs.set j v)))
theorem j0j:PSet X rSetL:=by
  intro pins s σ H o i v ov iv u Q I ro ri rv h
  obtain⟨p,xs,k,j,rfl,rfl,hp,hj,q⟩:=h
  cases ro
  obtain⟨t,rfl⟩:=ri
  obtain⟨its,n,r,ho,hz⟩:=I.lst hp
  obtain⟨h1,h2,h3,h4⟩:=ixN_seq hj
  have hl:=r.length
  have hn:=line63
  have I':Inv X pins σ (upd H p (.lst (xs.set j v))) { s with heap:=s.heap.update p (Obj.mapSeq (·.setIfInBounds j u)) }:=
    I.lstUpd hp ho (mapSeq_set its n j u) (r.set rv j) (by rw[List.length_set];exact hz) s.toks
  by_cases h0:0≤k
  · have hk:k.toNat=j:=by
      rw[seqIndex_of h0 h4]at h1
      exact Option.some.inj h1
    exact PySem.W.ki_setAt ho h0 (by omega) (by rw[List.size_toArray,← hl];exact h4) (by rw[hk];exact⟨_,I',q⟩)
  · have hk:(k+(its.toArray.size:Int)).toNat=j:=by
      rw[seqIndex_neg (by omega) h3]at h1
      rw[List.size_toArray,← hl]
      exact Option.some.inj h1
    exact PySem.W.ki_setBack ho (by omega) (by rw[List.size_toArray,← hl];exact h3) (by omega) (by rw[hk];exact⟨_,I',q⟩)
theorem slice_bounds(lo hi:Option Int)(n:Nat):(sliceBounds lo hi none n).1=((HT.sIx n 0 lo:Nat):Int)∧(sliceBounds lo hi none n).2.1=((HT.sIx n n hi:Nat):Int)∧(sliceBounds lo hi none n).2.2=1:=by
  refine⟨?_,?_,rfl⟩
  · cases lo with
    | none=>simp[sliceBounds,HT.sIx]
    | some i=>
      simp only[sliceBounds,HT.sIx,Option.getD_none,show(1:Int) > 0 by decide,if_true]
      by_cases h:i < 0
      · simp only[h,if_true] <;>omega
      · simp only[h,if_false] <;>omega
  · cases hi with
    | none=>simp[sliceBounds,HT.sIx]
    | some i=>
      simp only[sliceBounds,HT.sIx,Option.getD_none,show(1:Int) > 0 by decide,if_true]
      by_cases h:i < 0
      · simp only[h,if_true] <;>omega
      · simp only[h,if_false] <;>omega
theorem m0l(its:List Value)(lo hi:Option Int):slicePick its.toArray lo hi none=((its.drop (HT.sIx its.length 0 lo)).take (HT.sIx its.length its.length hi - HT.sIx its.length 0 lo)).toArray:=by
  obtain⟨h1,h2,h3⟩:=slice_bounds lo hi its.toArray.size
  unfold slicePick
  rw[h1,h2,h3]
  simp only[sliceRange_one,pick_run,List.size_toArray] <;>rfl
def rSlL(K:PySem.W.Frag):V→Option Int→Option Int→Hp→VK→Prop:=fun x lo hi H Q=>∃a xs,x=.ref a∧SqL K H a xs∧∀p,H p=none→Q (.ref p) (upd H p (.lst (cutV xs lo hi)))
theorem sl_list:SlR X (rSlL X.K):=by
  intro pins s σ H x v vl vu lo hi sl Q I rx hs pl pu h
  obtain⟨a,xs,rfl,hx,q⟩:=h
  cases rx
  obtain⟨its,r,ht,hz⟩:=I.list hx
  have hlen:=r.length
  refine⟨"list",_,slot_list_getitem.lookup,ht.isList.typeIs,?_⟩
  refine wpAny_getItem_list_slice ht.isList hs pl pu .none (by simp) ?_ (by rw[List.size_toArray] <;>omega)
  rw[m0l,← hlen]
  refine⟨.ref s.heap.objs.size,_,I.laid (t':=s.toks) (o:=.lst (cutV xs lo hi)) (fun b ob q=>Heap.get?_push_of_some _ q) (Nat.le_refl _) ?_,rfl,q _ (I.hok.fresh (Nat.le_refl _))⟩
  exact⟨Nat.le_trans (k0v xs lo hi) hz,_,0,(r.drop (HT.sIx xs.length 0 lo)).take (HT.sIx xs.length xs.length hi - HT.sIx xs.length 0 lo),Heap.get?_push_size _ rfl⟩
theorem CallR.or{f:Value}{r r':List V→Hp→VK→Prop}(h:CallR X f r)(h':CallR X f r'):CallR X f (fun xs H Q=>r xs H Q∨r' xs H Q):=by
  intro pins s σ H xs us Q I rs q
  rcases q with q | q
  · exact h pins s σ H xs us Q I rs q
  · exact h' pins s σ H xs us Q I rs q
theorem i0u:CallR X (.type "list") (fun xs H Q=>∃p ys,xs=[.ref p]∧(SqL X.K H p ys∨SqT X.K H p ys)∧∀l,H l=none→Q (.ref l) (upd H l (.lst ys))):=by
  intro pins s σ H xs us Q I r h
  obtain⟨p,ys,rfl,hq,q⟩:=h
  obtain⟨u,rfl,rx⟩:=vals1 r
  cases rx
  have fin:∀(its:List Value),Vals ys its→ys.length≤sizeLine→∀(h':Heap) (c':Nat),(∀b o',s.heap.get? b=some o'→h'.get? b=some o')→
      h'.get? s.heap.objs.size=some { cls:=.type "list",dict:=none,data:=.seq its.toArray c',slots:=#[] }→EP X pins σ Q (.ref s.heap.objs.size) { s with heap:=h' }:=fun its r' hz h' c' kp e=>
    ⟨.ref s.heap.objs.size,_,I.laid (t':=s.toks) kp (Nat.le_refl _) (show ObjOk X.prog X.w _ h' _ (.lst ys)from⟨hz,its,c',r',e⟩),rfl,q _ (I.hok.fresh (Nat.le_refl _))⟩
  rcases hq with hq | hq
  · obtain⟨its,r',pl,hz⟩:=I.list hq
    have hlen:=r'.length
    obtain⟨o,ho,hc,n,hd⟩:=pl.isList
    exact call_list_seq p (.inl rfl) ho hc hd (fun h' c' kp e=>fin its r' hz h' c' kp e) (by simp only[List.size_toArray] <;>omega)
  · obtain⟨its,r',pl,hz⟩:=I.tuple hq
    have hlen:=r'.length
    obtain⟨o,ho,hc,n,hd⟩:=pl
    exact call_list_seq p (.inr rfl) ho hc hd (fun h' c' kp e=>fin its r' hz h' c' kp e) (by simp only[List.size_toArray] <;>omega)
theorem a0q:CallR X (.type "tuple") (fun xs H Q=>∃p ys,xs=[.ref p]∧((SqL X.K H p ys∧∀l,H l=none→Q (.ref l) (upd H l (.tup ys)))∨(SqT X.K H p ys∧Q (.ref p) H))):=by
  intro pins s σ H xs us Q I r h
  obtain⟨p,ys,rfl,h⟩:=h
  obtain⟨u,rfl,rx⟩:=vals1 r
  cases rx
  rcases h with ⟨hq,q⟩ | ⟨hq,q⟩
  · obtain⟨its,r',pl,hz⟩:=I.list hq
    have hlen:=r'.length
    refine call_tuple_list pl.isList (fun h' kp=>?_) (by simp only[List.size_toArray] <;>omega)
    have I1:Inv X pins σ H { s with heap:=h' }:=I.kept (t':=s.toks) kp
    have I2:Inv X pins σ (upd H h'.objs.size (.tup ys)) { s with heap:=h'.push { cls:=.type "tuple",data:=.seq its.toArray } }:=
      I1.laid (t':=s.toks) (fun b o e=>Heap.get?_push_of_some _ e) (Nat.le_refl _) (show ObjOk X.prog X.w _ _ _ (.tup ys)from⟨hz,its,r',IsTup.new _ _,fun _=>⟨_,Heap.get?_push_size _ rfl,rfl⟩⟩)
    exact⟨.ref h'.objs.size,_,I2,rfl,q _ (I1.hok.fresh (Nat.le_refl _))⟩
  · obtain⟨its,r',pl,hz⟩:=I.tuple hq
    exact call_tuple_same pl ⟨.ref p,H,I,rfl,q⟩
def tyV(K:PySem.W.Frag)(T:String)(x:V)(H:Hp):Prop:=match x with
  | .str _=>T="str"
  | .int _=>T="int"
  | .ref p=>(T="list"∧∃xs,SqL K H p xs)∨(T="tuple"∧∃o,K.lookup p=some o∧o.cls=.type "tuple"∧o.dict=none)∨
      (T="dict"∧((∃kvs,H p=some (.dK kvs))∨∃kvs,H p=some (.dT kvs)))∨(T="set"∧∃S n,H p=some (.set S n))
  | _=>False
theorem tyV_is{pins:List (Addr × Obj)}{σ:St}{H:Hp}{s:Shared}{T:String}{x:V}{v:Value}(I:Inv X pins σ H s)(r:RelV x v)(ty:tyV X.K T x H) :
    s.TypeIs v T∧∀a,v=.ref a→∃ob,s.heap.get? a=some ob∧ob.dict=none:=by
  cases x with
  | str z=>
    obtain⟨t,rfl⟩:=r
    cases (show T="str" from ty)
    exact⟨typeIs_str s z t,fun _ e=>nomatch e⟩
  | int i=>
    obtain⟨t,rfl⟩:=r
    cases (show T="int" from ty)
    exact⟨typeIs_int s i t,fun _ e=>nomatch e⟩
  | ref p=>
    cases r
    rcases ty with ⟨rfl,xs,hq⟩ | ⟨rfl,o,hk,hc,hd⟩ | ⟨rfl,hk⟩ | ⟨rfl,S,n,hk⟩
    · obtain⟨its,_,pl,_⟩:=I.list hq
      refine⟨pl.isList.typeIs,fun a e=>?_⟩
      cases e
      obtain⟨o,n,e,c,hd,_⟩:=pl
      exact⟨o,e,hd⟩
    · refine⟨⟨o,I.kIn p o hk,hc⟩,fun a e=>?_⟩
      cases e
      exact⟨o,I.kIn _ o hk,hd⟩
    · have z:∃o,s.heap.get? p=some o∧o.ExactDict:=by
        rcases hk with ⟨kvs,hk⟩ | ⟨kvs,hk⟩
        · obtain⟨_,_,_,_,o,_,_,e,ex,_⟩:=I.hok p _ hk
          exact⟨o,e,ex⟩
        · obtain⟨_,_,_,_,o,_,_,e,ex,_⟩:=I.hok p _ hk
          exact⟨o,e,ex⟩
      obtain⟨o,e,ex⟩:=z
      refine⟨⟨o,e,ex.1⟩,fun a e2=>?_⟩
      cases e2
      exact⟨o,e,ex.2.1⟩
    · obtain⟨o,_,_,_,e,ex,_⟩:=I.hok p _ hk
      refine⟨⟨o,e,ex.1⟩,fun a e2=>?_⟩
      cases e2
      exact⟨o,e,ex.2.1⟩
  | _=>exact False.elim ty
def tBM(K:PySem.W.Frag)(T:String)(r:V→List V→Hp→VK→Prop)(to:TE)(t:TA):TE:=fun σ H Q=>to σ H fun x H1=>tyV K T x H1∧t σ H1 fun xs H2=>r x xs H2 Q
variable{o e:Expr}{es:List Expr}{to:TE}{t:TA}{name:Str}{apos cpos:Pos}{T id:String}{r:V→List V→Hp→VK→Prop}
theorem g0e(pa:PlainAttrs T)(slot:Slot T name id)(hty:typeOf (.builtin id)=pure (.type "method_descriptor"))(hm:MtR X id r)(ho:PE X o to)(ha:PA X (e::es) t)
    (hbase:attributeBase o name X.env (eval o X.env)=eval o X.env:=by rfl)
    (hfew:((backTo cpos (starEach (e::es) X.env)).all (fun x=>!x.1) && (backToKw cpos (keywordEach [] X.env)).all (fun x=>x.1.isSome)
      && decide ((e::es).length+([]:List Keyword).length+(if([]:List Keyword).isEmpty then 0 else 1) < 30))=true:=by rfl)
    (hline:(apos.endLine == cpos.line)=true:=by rfl) (hs:starEach (e::es) X.env=(false,eval e X.env)::starEach es X.env:=by rfl) (hplain:(backTo cpos (starEach es X.env)).any (·.1)=false:=by rfl) :
    PE X (.Call (.Attribute o name apos) (e::es) [] cpos) (tBM X.K T r to t):=by
  intro pins s σ H Q I h
  refine wpAny_Call_method_late hbase hfew hline rfl (thn (ho pins s σ H _ I h) fun v s1 ⟨x,H1,I1,r1,ty,q1⟩=>?_)
  obtain⟨h1,h2⟩:=tyV_is I1 r1 ty
  refine⟨T,id,pa,slot,hty,h1,h2,?_⟩
  have hA:=ha cpos pins s1 σ H1 _ I1 q1
  rw[hs]at hA ⊢
  refine Calls.callWith_builtin (by show(false || (backTo cpos (starEach es X.env)).any (·.1))=false;rw[hplain] <;>rfl) (Calls.evalArgs_plain ?_)
  exact thn hA fun us s2 ⟨vs,H2,I2,r2,q2⟩=>hm pins s2 σ H2 x vs v us Q I2 r1 r2 q2
end
end L2
namespace L2
open PySem PySem.Spec PyProof.Rows
def MtM(X:Cx)(id:String)(r:V→List V→Hp→VK→Prop):Prop:=
  ∀(pins:List (Addr × Obj)) (s:Shared) (σ:St) (H:Hp) (x:V) (xs:List V) (v:Value) (us:List Value) (Q:VK),Inv X pins σ H s→RelV x v→Vals xs us→r x xs H Q→
    wpAny (model X.prog X.w) X.A (call (.builtin id) (v::us)) (EP X pins σ Q) X.xe s
theorem Vals.one:∀{x:V} {us:List Value},Vals [x] us→∃u,us=[u]∧RelV x u
  | _,_,.cons r .nil=>⟨_,rfl,r⟩
theorem Vals.two:∀{x y:V} {us:List Value},Vals [x,y] us→∃u v,us=[u,v]∧RelV x u∧RelV y v
  | _,_,_,.cons r (.cons q .nil)=>⟨_,_,rfl,r,q⟩
theorem Vals.zero:∀{us:List Value},Vals [] us→us=[]
  | _,.nil=>rfl
theorem Vals.eraseIdx:∀{xs:List V} {us:List Value} (i:Nat),Vals xs us→Vals (xs.eraseIdx i) (us.eraseIdx i)
  | _,_,_,.nil=>.nil
  | _,_,0,.cons _ t=>t
  | _,_,i+1,.cons r t=>.cons r (Vals.eraseIdx i t)
theorem Vals.reverse{xs:List V}{us:List Value}(h:Vals xs us):Vals xs.reverse us.reverse:=by
  induction h with
  | nil=>exact .nil
  | cons r t ih=>rw[List.reverse_cons,List.reverse_cons];exact Vals.append ih (.cons r .nil)
theorem len_erase{α:Type}:∀(l:List α) (i:Nat),(l.eraseIdx i).length≤l.length
  | [],_=>Nat.le_refl _
  | _::_,0=>Nat.le_succ _
  | _::r,i+1=>Nat.succ_le_succ (len_erase r i)
section
variable{X:Cx}{pins:List (Addr × Obj)}{σ:St}{H:Hp}{s:Shared}{l b:Addr}{xs ys zs:List V}
theorem Inv.lset{its its':List Value}{n:Nat}{f:Array Value→Array Value}{t':Nat}(I:Inv X pins σ H s)(hH:H l=some (.lst xs))
    (e:s.heap.get? l=some { cls:=.type "list",data:=.seq its.toArray n }) (hf:f its.toArray=its'.toArray) (hv:Vals ys its') (hz:ys.length≤sizeLine) :
    Inv X pins σ (upd H l (.lst ys)) { s with heap:=s.heap.update l (Obj.mapSeq f),toks:=t' }:=by
  have q:=PySem.IsL.update e f
  rw[hf]at q
  refine I.write (x:=l) (e:=l) (by rw[hH];exact trivial) (.inl rfl) (fun b' u hb hu=>(Heap.get?_update_other s.heap (Obj.mapSeq f) (Ne.symm hb)).trans hu) ⟨_,q⟩ ?_
  exact⟨hz,its',_,hv,q⟩
theorem Inv.lnew{its:List Value}{t':Nat}(I:Inv X pins σ H s)(hv:Vals ys its)(hz:ys.length≤sizeLine) :
    Inv X pins σ (upd H s.heap.objs.size (.lst ys)) { s with heap:=s.heap.push { cls:=.type "list",data:=.seq its.toArray },toks:=t' }:=
  I.laid (fun _ _ q=>Heap.get?_push_of_some _ q) (Nat.le_refl _) ⟨hz,its,0,hv,Heap.get?_push_size _ rfl⟩
theorem Inv.fresh(I:Inv X pins σ H s):H s.heap.objs.size=none:=I.hok.fresh (Nat.le_refl _)
theorem Inv.lstM(I:Inv X pins σ H s)(hH:H l=some (.lst xs)):xs.length≤sizeLine∧∃(its:List Value) (n:Nat),Vals xs its∧xs.length=its.length∧s.heap.get? l=some { cls:=.type "list",data:=.seq its.toArray n }:=by
  obtain⟨z,its,n,r,e⟩:=I.hok l _ hH
  exact⟨z,its,n,r,r.length,e⟩
theorem notLongL{n:Nat}(h:n≤sizeLine):Builtin.List.listTooLong n=false:=by
  unfold Builtin.List.listTooLong
  exact decide_eq_false (by omega)
end
section
variable{X:Cx}
def rAppend:V→List V→Hp→VK→Prop:=fun x vs H Q=>∃l xs y,x=.ref l∧vs=[y]∧H l=some (.lst xs)∧xs.length < sizeLine∧Q .non (upd H l (.lst (xs++[y])))
theorem b0y:MtM X "list.append" rAppend:=by
  intro pins s σ H x vs v us Q I rx rv h
  obtain⟨l,xs,y,rfl,rfl,hH,hz,q⟩:=h
  cases rx
  obtain⟨u,rfl,ru⟩:=rv.one
  obtain⟨z,its,n,r,hl,e⟩:=I.lstM hH
  refine call_meets F.slot_list_append ⟨_,e,rfl⟩ F.entry_list_append (F.args_list_append_2 _ _) (PySem.list_append l its.toArray n u (by rw[List.size_toArray];omega)) ⟨e,?_⟩
  refine⟨.non,_,I.lset (its':=its++[u]) hH e (by simp) (r.append (.cons ru .nil)) ?_,rfl,q⟩
  rw[List.length_append,List.length_singleton]
  omega
def rExtend:V→List V→Hp→VK→Prop:=fun x vs H Q=>∃l b xs zs,x=.ref l∧vs=[.ref b]∧H l=some (.lst xs)∧H b=some (.lst zs)∧xs.length+zs.length≤sizeLine∧Q .non (upd H l (.lst (xs++zs)))
theorem mt_extend:MtM X "list.extend" rExtend:=by
  intro pins s σ H x vs v us Q I rx rv h
  obtain⟨l,b,xs,zs,rfl,rfl,hH,hB,hz,q⟩:=h
  cases rx
  obtain⟨u,rfl,ru⟩:=rv.one
  cases ru
  obtain⟨z,its,n,r,hl,e⟩:=I.lstM hH
  obtain⟨z2,its2,n2,r2,hl2,e2⟩:=I.lstM hB
  have hsz:its.toArray.size+its2.toArray.size≤sizeLine:=by rw[List.size_toArray,List.size_toArray];omega
  have hlong:¬(!its.toArray.isEmpty && Builtin.List.listTooLong (its.toArray.size+its2.toArray.size))=true:=by
    rw[notLongL hsz,Bool.and_false]
    exact Bool.false_ne_true
  refine call_meets F.slot_list_extend ⟨_,e,rfl⟩ F.entry_list_extend (F.args_list_extend_2 _ _)
    (AutoSeq1.list_extend_list_list_0 l its.toArray n b its2.toArray n2 hlong (by rw[List.size_toArray];omega) (by omega)) ⟨e,e2,?_⟩
  refine⟨.non,_,I.lset (its':=its++its2) hH e (by simp) (r.append r2) ?_,rfl,q⟩
  rw[List.length_append]
  omega
def rPopAt:V→List V→Hp→VK→Prop:=fun x vs H Q=>∃l xs i k y,x=.ref l∧vs=[.int i]∧H l=some (.lst xs)∧-(2 ^ 63)≤i∧i < 2 ^ 63∧seqIndex? i xs.length=some k∧xs[k]? = some y∧Q y (upd H l (.lst (xs.eraseIdx k)))
theorem mt_popAt:MtM X "list.pop" rPopAt:=by
  intro pins s σ H x vs v us Q I rx rv h
  obtain⟨l,xs,i,k,y,rfl,rfl,hH,h1,h2,hk,hy,q⟩:=h
  cases rx
  obtain⟨u,rfl,ru⟩:=rv.one
  obtain⟨t,rfl⟩:=ru
  obtain⟨z,its,n,r,hl,e⟩:=I.lstM hH
  obtain⟨w,hw,rw'⟩:=r.get hy
  refine call_meets F.slot_list_pop ⟨_,e,rfl⟩ F.entry_list_pop (F.args_list_pop_2 _ _)
    (MeetsSeq.list_pop_at l its.toArray n i t k w (fitsIndex_both h1 h2) (by rw[List.size_toArray,← hl];exact hk) (by rw[← Array.getElem?_toList];exact hw) (by rw[List.size_toArray];omega)) ⟨e,?_⟩
  refine⟨y,_,I.lset (its':=its.eraseIdx k) hH e ?_ (r.eraseIdx k) ?_,rw',q⟩
  · show its.toArray.eraseIdxIfInBounds k=(its.eraseIdx k).toArray
    rw[List.eraseIdxIfInBounds_toArray]
  · have:=len_erase xs k
    omega
def rCat:R2:=fun x y H Q=>∃l b xs zs,x=.ref l∧y=.ref b∧H l=some (.lst xs)∧H b=some (.lst zs)∧xs.length+zs.length≤sizeLine∧∀p,H p=none→Q (.ref p) (upd H p (.lst (xs++zs)))
theorem op_cat:OpR X (binaryOp .Add) rCat:=by
  intro pins s σ H x y v u Q I rx ry h
  obtain⟨l,b,xs,zs,rfl,rfl,hH,hB,hz,q⟩:=h
  cases rx
  cases ry
  obtain⟨z,its,n,r,hl,e⟩:=I.lstM hH
  obtain⟨z2,its2,n2,r2,hl2,e2⟩:=I.lstM hB
  refine PySem.P.add_list e e2 ?_ (by rw[List.size_toArray,List.size_toArray];omega)
  have ea:its.toArray++its2.toArray=(its++its2).toArray:=by simp
  rw[ea]
  exact⟨.ref _,_,I.lnew (t':=s.toks) (r.append r2) (by rw[List.length_append];omega),rfl,q _ I.fresh⟩
end
section
variable{prog:Program}{w:World}{A:Around}{E:Value→Shared→Prop}{s:Shared}
set_option maxRecDepth 100000 in
end
section
variable{X:Cx}
end
end L2
namespace Att
open PySem PySem.W PySem.Calls PyProof.Rows
theorem k0t{P:Params}{h:Heap}:∀(ns:List Int) (vs:List Value),WellAll P h vs (ns.map WData.int)→IntsAre vs ns:=by
  intro ns
  induction ns with
  | nil=>
    intro vs w
    rw[List.map_nil]at w
    cases w
    exact .nil
  | cons n ns ih=>
    intro vs w
    rw[List.map_cons]at w
    cases w with
    | cons a b=>
      cases a
      exact .cons _ _ (ih _ b)
theorem script_of{l:OpenLaw}{n:Nat}(hn:l.most=some n){P:Params}{h:Heap}{args:List WData}{vals:List Value}
    (hpre:l.row.toRowW.claim.pre args=true) (hwl:WellAll P h vals args) :
    ∃a vs ns,vals=[Value.ref a]∧args=[WData.list (ns.map WData.int)]∧h.get? a=some { cls:=.type "list",data:=.seq vs.toArray }∧IntsAre vs ns∧ns.length≤n:=by
  have hsh:WShape.hasAll [] args [.list .int]=true:=(pre_splitW hpre).1
  have hc:l.pre.holds [] { args:=args }=true:=(pre_splitW hpre).2
  obtain⟨d,r,rfl,h1,h2⟩:=hasAllW_cons hsh
  obtain rfl:=hasAllW_nil h2
  obtain⟨xs,rfl,h3⟩:=hasW_list h1
  obtain⟨ns,rfl⟩:=items_int h3
  have hlen:ns.length≤n:=by
    unfold OpenLaw.pre at hc
    have h4:(WTm.not (.lt (.lit (.int (n:Int))) (.len (.arg 0)))).holds [] { args:=[.list (ns.map .int)] }=true:=by
      have h4:=(holds_andW hc).1
      rw[hn]at h4
      exact h4
    have h5:=condW_of h4 (w_not (w_lt w_lit (w_len_list (w_arg rfl))))
    rw[List.length_map]at h5
    refine Nat.le_of_not_lt fun q=>?_
    have q':(n:Int) < ((ns.length:Nat):Int):=by omega
    first
      | (rw[decide_eq_true q']at h5;exact absurd h5 (by decide))
      | (simp at h5;omega)
  cases hwl with
  | cons w1 w2=>
    cases w2
    cases w1 with
    | list ho hall=>exact⟨_,_,ns,rfl,rfl,ho,k0t ns _ hall,hlen⟩
theorem post_true(l:OpenLaw)(args:List WData):l.row.toRowW.claim.post args (.bool true) args=true:=
  postW_of (r:=l.row.toRowW) (X:=(true == true))
    (show WShape.has [] (.bool true) .bool=true by first | rfl | decide | simp[WShape.has,WShape.arms,WShape.armsAll])
    (show(WTm.eq .res (.lit (.bool true))).value [] { args:=args,res:=some (.bool true),after:=args }=some (.bool (true == true))from w_eq_bool (w_res rfl) w_lit) rfl
theorem attach_call{l:OpenLaw}{n:Nat}{q:Program}{loose:List Str}{XP:(Str→Option Value)→Heap→Prop}{YP:World→Heap→Prop}{d:DefRec}
    (hn:l.most=some n) (hdf:d.params.defaults=[])
    (call:∀(w:World) (s₀ s₁:Shared) (mg mb:Str→Option Value) (fa:Addr) (o:Obj) (pm cd doc:Value) (a:Addr) (vs:List Value) (ns:List Int),
      Ground q loose [] XP w s₀ mg mb s₁.heap→YP w s₁.heap→
      s₁.heap.get? fa=some o→o.data=.func (docDef d.name d.params d.body d.scope pm cd doc)→s₁.heap.CodeRec cd d.name→mg d.name=some (.ref fa)→
      s₁.heap.get? a=some { cls:=.type "list",data:=.seq vs.toArray }→IntsAre vs ns→ns.length≤n→s₁.gens=#[]→
      codeAny (model l.prog w) callerA (.call (.ref fa) ⟨[.ref a],[]⟩) (fun r s'=>r=.ok (.ret (.bool true))∧OldK s₁.heap s'.heap∧s'.os=s₁.os∧AllBare s'.gens) s₁) :
    WalkO q loose XP YP l.row.toRowW d [] (fun f vs=>PySem.call f vs):=by
  intro w s₀ s₁ mg mb G Y fa o pm cd doc dV kV ho hd hcd hD hmg hg args vals as hpre hlay hrd hwl hlo
  obtain rfl:dV=.none:=Dflts.none hD hdf
  obtain rfl:kV=.none:=Dflts.noKw hD
  obtain⟨a,vs,ns,rfl,rfl,hobj,hints,hlen⟩:=script_of hn hpre hwl
  refine enter_call (codeAny_mono (call w s₀ s₁ mg mb fa o pm cd doc a vs ns G Y ho (fd_plain hd) hcd hmg hobj hints hlen hg) fun r s' hq=>?_)
  obtain⟨rfl,h2,h3,h4⟩:=hq
  exact⟨.inl ⟨.bool true,.bool true,[],rfl,fun _=>rfl,.bool true,post_true l _,fun _=>⟨List.Pairwise.nil,fun _ hm=>(nomatch hm)⟩⟩,h2,h3,h4⟩
section
variable{prog:Program}{w:World}{A:Around}{E:Value→Shared→Prop}{s:Shared}{K:Frag}
def ledger(h:Heap)(L d:Addr):List (Addr × Obj):=(List.range h.objs.size).filterMap fun a=>if a=L∨a=d then none else(h.get? a).map fun o=>(a,o)
end
end Att
namespace L2
open PySem PySem.Spec PyProof.Rows
theorem vals_ints:∀{vs:List Value} {ns:List Int},IntsAre vs ns→Vals (ns.map V.int) vs
  | _,_,.nil=>.nil
  | _,_,.cons n t h=>.cons ⟨t,rfl⟩ (vals_ints h)
def Only(H:Hp):Prop:=∀b,H b=none∨∃o xs,H b=some (.frz o (.lst xs))
theorem law_call{P:Program}{w:World}{K:PySem.W.Frag}{mg mb:Str→Option Value}{CX:CXT}{k:Nat}{fa a:Addr}{fd:FuncData}{x:Str}{sp:Sp}{s₁:Shared}{vs:List Value}{ns:List Int}
    (KX:K.In s₁.heap) (hns:s₁.heap.Ns mainGlobals mg) (hb:s₁.heap.Ns builtinsNs mb) (hbb:∀x:Str,x≠"__name__"→mb x=bootBuiltins x) (hlim:s₁.heap.NoLimit) (hsee:s₁.heap.NoSeer) (hg:s₁.gens=#[])
    (ha:s₁.heap.get? a=some { cls:=.type "list",data:=.seq vs.toArray }) (hi:IntsAre vs ns) (hl:ns.length≤sizeLine) (hr:Room k callerA)
    (F:∀base:Heap,K.In base→base.Ns mainGlobals mg→FnOk P w K mg base CX k fa fd [x] sp) (hbind:∀(s:Shared) (u:Value),BindsTo s fd ⟨[u],[]⟩ [(x,u)])
    (hsp:∀H:Hp,Only H→SqL K H a (ns.map V.int)→sp [.ref a] H (fun v _=>v=.bl true) fun _ _ _=>False)
    (hCX:∀H e s',CX [] H s₁ (fun _ _ _=>False) e s'→False) :
    codeAny (model P w) callerA (.call (.ref fa) ⟨[.ref a],[]⟩) (fun r s'=>r=.ok (.ret (.bool true))∧OldK s₁.heap s'.heap∧s'.os=s₁.os∧AllBare s'.gens) s₁:=by
  have rv:=vals_ints hi
  have lenV:=hi.length
  have core:∀H:Hp,Only H→SqL K H a (ns.map V.int)→HOk P w H s₁.heap→(∀b,H b≠none→b=a)→(H a≠none→K.lookup a=none)→
      codeAny (model P w) callerA (.call (.ref fa) ⟨[.ref a],[]⟩) (fun r s'=>r=.ok (.ret (.bool true))∧OldK s₁.heap s'.heap∧s'.os=s₁.os∧AllBare s'.gens) s₁:=by
    intro H hO hS hok hA hK
    have base_of:∀{b:Addr} {o:Obj},s₁.heap.get? b=some o→H b=none→(hidT s₁.heap H).get? b=some o:=fun e n=>hidT_get e n
    have noA:∀{b:Addr} {o:Obj} {es:Array DictEntry} {ep:Nat},s₁.heap.get? b=some o→o.data=.dict es ep→H b=none:=fun{b o es ep} e d=>by
      cases q:H b with
      | none=>rfl
      | some u=>
        have e':b=a:=hA b (by rw[q];simp)
        subst e'
        rw[ha]at e;cases e
        have d':Data.seq vs.toArray _=Data.dict es ep:=d
        cases d'
    have nsK:∀{b:Addr} {m:Str→Option Value},s₁.heap.Ns b m→(hidT s₁.heap H).Ns b m:=fun{b m} ⟨o,es,ep,e,d,r⟩=>⟨o,es,ep,base_of e (noA e d),d,r⟩
    have hKb:K.In (hidT s₁.heap H):=fun b o e=>base_of (KX b o e) (by
      cases q:H b with
      | none=>rfl
      | some u=>
        have e':b=a:=hA b (by rw[q];simp)
        subst e'
        rw[hK (by rw[q];simp)]at e;cases e)
    have hM:Mod K mg (hidT s₁.heap H):=⟨hKb,nsK hns,⟨mb,nsK hb,hbb⟩,let⟨mc,h1,h2⟩:=hlim;⟨mc,nsK h1,h2⟩,
      ⟨let⟨mc,h1,h2⟩:=hsee.statics;⟨mc,nsK h1,h2⟩,let⟨mc,h1,h2⟩:=hsee.mods;⟨mc,nsK h1,h2⟩,let⟨mc,h1,h2⟩:=hsee.imp;⟨mc,nsK h1,h2⟩,by
        obtain⟨mg',bm,ob,n1,n2,n3,n4,n5⟩:=hsee.main
        refine⟨mg',bm,ob,nsK n1,n2,base_of n3 ?_,n4,n5⟩
        cases q:H bm with
        | none=>rfl
        | some u=>
          have e':bm=a:=hA bm (by rw[q];simp)
          subst e'
          rw[ha]at n3;cases n3
          exact absurd (show Value.type "list"=Value.type "module" from n4) (fun z=>by injection z with z;exact absurd z (by decide))⟩⟩
    have e0:Env0 P w K mg (hidT s₁.heap H) callerA [] s₁ H:=⟨rfl,hM,fun b o e=>of_hidT e,Nat.le_of_eq (hidT_size _ _),trivial,fun b hb=>absurd (show b∈([]:List Addr)from hb) (by simp),hok,.of_eq hg⟩
    refine codeAny_mono ((F _ hKb (nsK hns)).run callerA [] s₁ H ⟨[.ref a],[]⟩ [.ref a] [.ref a] _ _ hr e0 (hbind s₁ (.ref a)) (.cons rfl .nil) (hsp H hO hS)) fun r s' h=>?_
    cases r with
    | error e=>exact(hCX H e s' h).elim
    | ok fl=>
      cases fl with
      | next=>exact False.elim h
      | brk=>exact False.elim h
      | cont=>exact False.elim h
      | ret u=>
        obtain⟨v,H',os,bare,un,hok',r',q⟩:=h
        have q':v=.bl true:=q
        subst q'
        obtain rfl:u=Value.bool true:=r'
        refine⟨rfl,OldK.of_keep fun b o e=>?_,os,bare⟩
        cases q:H b with
        | none=>exact un.keep b o e q (by intro z;exact absurd (show b∈([]:List Addr)from z) (by simp)) (by simp)
        | some u=>
          rcases hO b with z | ⟨ob,xs,z⟩
          · rw[q]at z;cases z
          · have z2:=un.frzs b ob _ z
            obtain⟨e1,_⟩:=hok b _ z
            obtain⟨e2,_⟩:=hok' b _ z2
            rw[e]at e1;cases e1
            exact e2
  cases hk:K.lookup a with
  | some o=>
    have e:=KX a o hk
    rw[ha]at e
    cases e
    refine core (fun _=>none) (fun _=>.inl rfl) (.inr ⟨_,vs.toArray,_,hk,rfl,rfl,rfl,by rw[List.size_toArray,lenV];exact hl,by simpa using rv⟩) (fun b u z=>by have z':(none:Option HO)=some u:=z;cases z') (fun b z=>absurd rfl z) fun z=>absurd rfl z
  | none=>
    refine core (fun b=>if b=a then some (.frz { cls:=.type "list",data:=.seq vs.toArray } (.lst (ns.map V.int)))else none) (fun b=>?_) (.inl (.inr ⟨{ cls:=.type "list",data:=.seq vs.toArray },if_pos rfl⟩)) (fun b u z=>?_) (fun b z=>?_) fun _=>hk
    · by_cases hb:b=a
      · exact .inr ⟨_,_,if_pos hb⟩
      · exact .inl (if_neg hb)
    · by_cases hb:b=a
      · have z':=(if_pos hb).symm.trans z
        cases z'
        subst hb
        exact⟨ha,by rw[List.length_map];exact hl,vs,_,rv,ha⟩
      · have z':=(if_neg hb).symm.trans z
        cases z'
    · by_cases hb:b=a
      · exact hb
      · exact absurd (if_neg hb) z
end L2
namespace L2
open PySem PySem.Spec PyProof.Rows
abbrev KOf{K:PySem.W.Frag}{h:Heap}(_:K.In h):PySem.W.Frag:=K
theorem walk_of{l:PySem.W.OpenLaw}{n k:Nat}{q:Program}{loose:List Str}{XP:(Str→Option Value)→Heap→Prop}{YP:World→Heap→Prop}{d:DefRec}{K:Params→PySem.W.Frag}{CX:World→CXT}{sp:World→Sp}{x:Str}
    (hn:l.most=some n) (hn2:n≤sizeLine) (hdf:d.params.defaults=[]) (hr:Room k callerA) (hq:importsNone q=true)
    (hY:∀(w:World) (h:Heap),YP w h→(K w.params).In h)
    (F:∀(w:World) (mg:Str→Option Value) (fa:Addr) (h:Heap),(K w.params).In h→h.Ns mainGlobals mg→mg d.name=some (.ref fa)→
      ∃fd:FuncData,(∀(s:Shared) (u:Value),BindsTo s fd ⟨[u],[]⟩ [(x,u)])∧
        ∀base:Heap,(K w.params).In base→base.Ns mainGlobals mg→FnOk l.prog w (K w.params) mg base (CX w) k fa fd [x] (sp w))
    (hsp:∀(w:World) (H:Hp) (a:Addr) (ns:List Int),ns.length≤n→Only H→SqL (K w.params) H a (ns.map V.int)→sp w [.ref a] H (fun v _=>v=.bl true) fun _ _ _=>False)
    (hCX:∀(w:World) (H:Hp) (s:Shared) (e:Value) (s':Shared),CX w [] H s (fun _ _ _=>False) e s'→False) :
    PySem.W.WalkO q loose XP YP l.row.toRowW d [] (fun f vs=>PySem.call f vs):=by
  refine Att.attach_call hn hdf fun w s₀ s₁ mg mb fa o pm cd doc a vs ns G Y ho hd hcd hmg hobj hints hlen hg=>?_
  have KX:=hY w _ Y
  obtain⟨fd,hb,hF⟩:=F w mg fa _ KX G.T.g hmg
  exact law_call KX G.T.g G.T.b G.T.builtins G.T.nolimit (G.T.seer hq) hg hobj hints (Nat.le_trans hlen hn2) hr hF hb (fun H hO hS=>hsp w H a ns hlen hO hS) fun H e s'=>hCX w H s₁ e s'
theorem walk_ofK{l:PySem.W.OpenLaw}{n k:Nat}{q:Program}{loose:List Str}{XP:(Str→Option Value)→Heap→Prop}{YP:World→Heap→Prop}{d:DefRec}{K:Params→PySem.W.Frag}{CX:CXT}{sp:PySem.W.Frag→Sp}{x:Str}
    (hn:l.most=some n) (hn2:n≤sizeLine) (hdf:d.params.defaults=[]) (hr:Room k callerA) (hq:importsNone q=true)
    (hY:∀(w:World) (h:Heap),YP w h→(K w.params).In h)
    (F:∀(w:World) (mg:Str→Option Value) (fa:Addr) (h:Heap),(K w.params).In h→h.Ns mainGlobals mg→mg d.name=some (.ref fa)→
      ∃fd:FuncData,(∀(s:Shared) (u:Value),BindsTo s fd ⟨[u],[]⟩ [(x,u)])∧
        ∀base:Heap,(K w.params).In base→base.Ns mainGlobals mg→FnOk l.prog w (K w.params) mg base CX k fa fd [x] (sp (K w.params)))
    (hsp:∀(K:PySem.W.Frag) (H:Hp) (a:Addr) (ns:List Int),ns.length≤n→Only H→SqL K H a (ns.map V.int)→sp K [.ref a] H (fun v _=>v=.bl true) fun _ _ _=>False)
    (hCX:∀(H:Hp) (s:Shared) (e:Value) (s':Shared),CX [] H s (fun _ _ _=>False) e s'→False) :
    PySem.W.WalkO q loose XP YP l.row.toRowW d [] (fun f vs=>PySem.call f vs):=
  walk_of (K:=K) (CX:=fun _=>CX) (sp:=fun w=>sp (K w.params)) hn hn2 hdf hr hq hY F (fun w H a ns h1 h2 h3=>hsp (K w.params) H a ns h1 h2 h3) fun _ H s e s'=>hCX H s e s'
end L2
namespace L2
open PySem PySem.Spec PyProof.Rows
def a0j(s:Stmt)(j:Nat):Stmt:=match s with
  | .ClassDef _ _ _ body _ _ _ _ _ _ _=>body.getD j (.Pass ⟨0,0,0,0⟩)
  | _=>.Pass ⟨0,0,0,0⟩
def c0n(s:Stmt):Arguments:=match s with
  | .FunctionDef _ a _ _ _ _ _ _ _ _=>a
  | _=>{ posonlyargs:=[],args:=[],vararg:=none,kwonlyargs:=[],kw_defaults:=[],kwarg:=none,defaults:=[] }
def c0c(s:Stmt):List Stmt:=match s with
  | .FunctionDef _ _ b _ _ _ _ _ _ _=>b
  | _=>[]
def a0h(s:Stmt):Scope:=match s with
  | .FunctionDef _ _ _ _ _ _ sc _ _ _=>sc
  | _=>{ kind:=.function,names:=[],isGenerator:=false,isCoroutine:=false }
abbrev CX0:CXT:=fun _ _ _ _ _ _=>False
abbrev E0:XK:=fun _ _ _=>False
theorem a0k{X:Cx}:l0b CX0 X E0:=fun _ _ _ _ _ _ _ h=>h.elim
structure Fun(K:PySem.W.Frag)(x qual:Str)(st:Stmt)(f:Addr)(fd:FuncData):Prop where
  ex:∃(oc:Value) (od:Option Addr) (kV doc pm:Value) (an:Option Addr) (cdv ct:Value) (osl:Array (Option Value)),
    fd=PySem.W.fnOf x qual (c0n st) (c0c st) (a0h st) .none kV doc pm an cdv ct∧K.lookup f=some ⟨oc,od,.func fd,osl⟩∧PySem.W.codeIn K cdv qual=true
  kp:PySem.W.keepIn K (.ref f)=true
section
variable{P:Program}{w:World}{K:PySem.W.Frag}{mg:Str→Option Value}{base:Heap}
theorem Fun.ok{x qual:Str}{st:Stmt}{f:Addr}{fd:FuncData}{N ps:List Str}{k:Nat}{sp:Sp}(F:Fun K x qual st f fd)(S:a0l N ps (a0h st))(len:∀vs H Q E,sp vs H Q E→vs.length=ps.length)
    (hbody:∀(cdv:Value) (A:Around) (outer:List Env) (s:Shared) (H:Hp) (vs:List V) (Q:VK) (E:XK),Room k (A.deeper (envOfC qual (a0h st) s.heap.objs.size f cdv))→sp vs H Q E→
      ∃t,PSs (cxOf CX0 P w K mg base N qual (a0h st) f cdv A outer s H E).nox (c0c st) t∧t { nx:=fun _ H'=>Q .non H',rt:=Q } (start N vs) H):FnOk P w K mg base CX0 (k+1) f fd ps sp:=by
  obtain⟨oc,od,kV,doc,pm,an,cdv,ct,osl,rfl,lk,hcd⟩:=F.ex
  refine fn_of lk hcd S len fun A outer s H vs Q E hr hsp=>?_
  obtain⟨t,h,q⟩:=hbody cdv A outer s H vs Q E hr hsp
  exact⟨t,h.nox,q⟩
theorem Fun.binds{x qual:Str}{st:Stmt}{f:Addr}{fd:FuncData}{ps:List Str}(F:Fun K x qual st f fd)
    (h:∀(kV doc pm:Value) (an:Option Addr) (cdv ct:Value) (us:List Value),us.length=ps.length→bindArgs (PySem.W.fnOf x qual (c0n st) (c0c st) (a0h st) .none kV doc pm an cdv ct) ⟨us,[]⟩=pure (ps.zip us)):Binds K fd ps []:=by
  obtain⟨oc,od,kV,doc,pm,an,cdv,ct,osl,rfl,lk,hcd⟩:=F.ex
  exact .all (h kV doc pm an cdv ct)
theorem fun_mk{x qual:Str}{st:Stmt}{f:Addr}{oc:Value}{od an:Option Addr}{osl:Array (Option Value)}{kV doc pm cdv ct:Value}(l:K.lookup f=some ⟨oc,od,.func (PySem.W.fnOf x qual (c0n st) (c0c st) (a0h st) .none kV doc pm an cdv ct),osl⟩)
    (c:PySem.W.codeIn K cdv qual=true) (k:PySem.W.keepIn K (.ref f)=true):Fun K x qual st f (PySem.W.fnOf x qual (c0n st) (c0c st) (a0h st) .none kV doc pm an cdv ct):=⟨⟨oc,od,kV,doc,pm,an,cdv,ct,osl,rfl,l,c⟩,k⟩
end
theorem hu_of{A:Around}{k:Nat}(hr:Room k A):A.units+1 < cLine:=Nat.lt_of_le_of_lt (Nat.add_le_add_left (by decide:1≤64) _) hr.units
theorem small1000{n:Nat}(h:n≤1000):n < sizeLine:=Nat.lt_of_le_of_lt h (by decide)
section
variable{X:Cx}
theorem pv(i:Nat){x:Str}{pos:Pos}(hN:X.N[i]? = some x:=by rfl)(hv:Vis X.env.scope x:=by first | exact Or.inl rfl | exact Or.inr (Or.inl rfl) | exact Or.inr (Or.inr rfl))(hd:(x == ("__debug__":Str))=false:=by decide)
    (hcd:(x == ("__classdict__":Str))=false:=by decide):PE X (.Name x pos) (tVar i):=pe_var hN hv hd hcd
end
theorem iteF{A B:Prop}(h:B):if false=true then A else B:=by
  rw[if_neg Bool.false_ne_true]
  exact h
theorem iteT{A B:Prop}(h:A):if true=true then A else B:=by
  rw[if_pos rfl]
  exact h
def Same(H H':Hp):Prop:=∀b o,H b=some o→H' b=some o
theorem Same.refl(H:Hp):Same H H:=fun _ _ h=>h
theorem Same.trans{H H1 H2:Hp}(a:Same H H1)(b:Same H1 H2):Same H H2:=fun c o h=>b c o (a c o h)
theorem Same.free{H H':Hp}(e:Same H H'){l:Addr}(h:H' l=Option.none):H l=Option.none:=by
  cases q:H l with
  | none=>rfl
  | some o=>
    rw[e l o q]at h
    cases h
theorem Same.seq{K:PySem.W.Frag}{H H':Hp}{a:Addr}{xs:List V}(e:Same H H')(h:SqL K H a xs):SqL K H' a xs:=by
  rcases h with (h | ⟨o,h⟩) | h
  · exact .inl (.inl (e _ _ h))
  · exact .inl (.inr ⟨o,e _ _ h⟩)
  · exact .inr h
end L2
set_option maxHeartbeats 4000000
namespace L2
open PySem PySem.Spec PyProof.Rows PySem.SeqAt
section
variable{X:Cx}
def CDivB(_ j:Int):Prop:=j≠0∧j.natAbs.log2 < 9000
theorem m0y:OpR X (binaryOp .FloorDiv) (rI CDivB fun i j=>.int (i.fdiv j)):=opI fun _ _ _ _ _ _ _ hc q=>floordiv_int hc.1 q (Or.inl (PyProof.noPylong_of_log2 hc.2))
def rIsi(K:PySem.W.Frag):List V→Hp→VK→Prop:=fun xs H Q=>∃x n t b,xs=[x,.ty n]∧TyOf K H x t∧PySem.W.kitOne K t (.type n)=some b∧Q (.bl b) H
theorem c0o:CallR X (.builtin "isinstance") (rIsi X.K):=by
  intro pins s σ H xs us Q I r h
  obtain⟨x,n,t,b,rfl,ty,e,q⟩:=h
  cases r with
  | cons rx r1=>
    cases r1 with
    | cons ry r2=>
      cases r2
      cases ry
      exact isinst_ok I rx ty e fun tk=>⟨.bl b,H,I.tok _,rfl,q⟩
structure MkO(K:PySem.W.Frag)(C:Addr):Prop where
  makes:PySem.W.makesIn K C=true
  init:PySem.W.findIn K (.ref C) "__init__"=some (some (.builtin "object.__init__"))
  kp:PySem.W.keepIn K (.ref C)=true
def tMakeO(C:Addr):TE:=fun _ H Q=>∀x dx,H x=none→H dx=none→dx≠x→Q (.ref x) (upd (upd H dx (.own x)) x (.ins C dx []))
theorem m0x{C:Addr}{x:Str}{p pos:Pos}(M:MkO X.K C)(hg:Gl X x)(hm:X.mg x=some (.ref C))(hdb:(x == ("__debug__":Str))=false:=by decide):PE X (.Call (.Name x p) [] [] pos) (tMakeO C):=by
  intro pins s σ H Q I h
  refine wpAny_Call_Name_kw (i0j I hg hm ?_ hdb)
  refine PySem.W.callWith_K0 I.kIn M.kp ?_
  have hq:=h (s.heap.objs.size+1) s.heap.objs.size (I.hok.fresh (Nat.le_succ _)) (I.hok.fresh (Nat.le_refl _)) (Nat.ne_of_lt (Nat.lt_succ_self _))
  have I2:=Inv.made (C:=C) I
  have Y:=PySem.W.makes_of (M:=model X.prog X.w) I.kIn M.makes
  refine wpAny_call (make_map0 I.kIn M.makes M.init (fun self=>PySem.W.Looks.of_pure (PySem.W.oi_bind self)) ?_)
  have t1:PySem.W.Looks (model X.prog X.w) ((s.heap.push PySem.W.emptyDict).push (PySem.W.instObj C s.heap.objs.size)) (typeOf (.ref (s.heap.objs.size+1))) (.ref C):=
    (PySem.W.Looks.ld (o:=PySem.W.instObj C s.heap.objs.size) (by have e:((s.heap.push PySem.W.emptyDict).push (PySem.W.instObj C s.heap.objs.size)).get? (s.heap.push PySem.W.emptyDict).objs.size=some (PySem.W.instObj C s.heap.objs.size):=Heap.get?_push_size _ rfl;rw[Heap.size_push]at e;exact e)).andThen .now
  have t2:PySem.W.Looks (model X.prog X.w) ((s.heap.push PySem.W.emptyDict).push (PySem.W.instObj C s.heap.objs.size)) (isInstance (.ref (s.heap.objs.size+1)) (.type "object")) true:=
    t1.andThen (Y.top.keeps fun b o e=>Heap.get?_push_of_some _ (Heap.get?_push_of_some _ e))
  refine PySem.codeAny_call_builtin PySem.W.oi_plain PySem.W.entry_oi (@PySem.W.check_slot (model X.prog X.w) _ _ _ "object.__init__" "object" "__init__" (.ref (s.heap.objs.size+1)) [] [] _ PySem.W.oi_kind PySem.W.oi_split t2 (PySem.W.oi_args (.ref (s.heap.objs.size+1))) ?_)
  rw[PySem.W.oi_run]
  exact wpAny_pure (And.intro rfl ⟨V.ref (s.heap.objs.size+1),_,I2,rfl,hq⟩)
end
mutual
inductive Is(K:PySem.W.Frag)(H:Hp):V→PyData→Prop
  | non:Is K H .non .none
  | bl (b:Bool):Is K H (.bl b) (.bool b)
  | int (i:Int):Is K H (.int i) (.int i)
  | str (x:Str):Is K H (.str x) (.str x)
  | tup {a:Addr} {xs:List V} {ds:List PyData}:SqT K H a xs→IsAll K H xs ds→Is K H (.ref a) (.tuple ds)
  | lst {a:Addr} {xs:List V} {ds:List PyData}:SqL K H a xs→IsAll K H xs ds→Is K H (.ref a) (.list ds)
inductive IsAll(K:PySem.W.Frag)(H:Hp):List V→List PyData→Prop
  | nil:IsAll K H [] []
  | cons {v:V} {vs:List V} {d:PyData} {ds:List PyData}:Is K H v d→IsAll K H vs ds→IsAll K H (v::vs) (d::ds)
end
theorem Same.tup{K:PySem.W.Frag}{H H':Hp}{a:Addr}{xs:List V}(e:Same H H')(h:SqT K H a xs):SqT K H' a xs:=by
  rcases h with (h | ⟨o,h⟩) | h
  · exact .inl (.inl (e _ _ h))
  · exact .inl (.inr ⟨o,e _ _ h⟩)
  · exact .inr h
mutual
theorem Is.same{K:PySem.W.Frag}{H H':Hp}(e:Same H H'):∀{v:V} {d:PyData},Is K H v d→Is K H' v d
  | _,_,.non=>.non
  | _,_,.bl b=>.bl b
  | _,_,.int i=>.int i
  | _,_,.str x=>.str x
  | _,_,.tup h r=>.tup (e.tup h) (IsAll.same e r)
  | _,_,.lst h r=>.lst (e.seq h) (IsAll.same e r)
theorem IsAll.same{K:PySem.W.Frag}{H H':Hp}(e:Same H H'):∀{v:List V} {d:List PyData},IsAll K H v d→IsAll K H' v d
  | _,_,.nil=>.nil
  | _,_,.cons a r=>.cons (Is.same e a) (IsAll.same e r)
end
section
variable{X:Cx}{pins:List (Addr × Obj)}{σ:St}{H:Hp}{s:Shared}
mutual
theorem Is.reads(I:Inv X pins σ H s):∀{v:V} {d:PyData} {u:Value},Is X.K H v d→RelV v u→∃as,Reads s.heap u d as
  | _,_,_,.non,r=>by cases r;exact⟨_,.none⟩
  | _,_,_,.bl b,r=>by cases r;exact⟨_,.bool b⟩
  | _,_,_,.int i,r=>by obtain⟨t,rfl⟩:=r;exact⟨_,.int i t⟩
  | _,_,_,.str x,r=>by obtain⟨t,rfl⟩:=r;exact⟨_,.str x t⟩
  | _,_,_,.tup h a,r=>by
    cases r
    obtain⟨its,rv,⟨o,ho,hc,n,hd⟩,_⟩:=I.tuple h
    obtain⟨as,hr⟩:=IsAll.reads I a rv
    exact⟨as,.tuple ho hc hd (by simpa using hr)⟩
  | _,_,_,.lst h a,r=>by
    cases r
    obtain⟨its,rv,⟨o,n,ho,hc,_,hd⟩,_⟩:=I.list h
    obtain⟨as,hr⟩:=IsAll.reads I a rv
    exact⟨_,.list ho hc hd (by simpa using hr)⟩
theorem IsAll.reads(I:Inv X pins σ H s):∀{vs:List V} {ds:List PyData} {us:List Value},IsAll X.K H vs ds→Vals vs us→∃as,ReadsAll s.heap us ds as
  | _,_,_,.nil,.nil=>⟨_,.nil⟩
  | _,_,_,.cons a r,.cons q t=>by
    obtain⟨as,h1⟩:=Is.reads I a q
    obtain⟨bs,h2⟩:=IsAll.reads I r t
    exact⟨_,.cons h1 h2⟩
end
def rEqD(K:PySem.W.Frag):R2:=fun x y H Q=>∃d d',Is K H x d∧Is K H y d'∧shaped d=true∧shaped d'=true∧noMix d d'=true∧Q (.bl (PySem.Spec.same d d')) H
def rNeD(K:PySem.W.Frag):R2:=fun x y H Q=>∃d d',Is K H x d∧Is K H y d'∧shaped d=true∧shaped d'=true∧noMix d d'=true∧Q (.bl (!PySem.Spec.same d d')) H
theorem op_eqD(hu:X.A.units+64 < cLine):OpR X (compareOp .Eq) (rEqD X.K):=by
  intro pins s σ H x y v u Q I rx ry h
  obtain⟨d,d',hx,hy,sx,sy,nm,q⟩:=h
  obtain⟨as,ra⟩:=hx.reads I rx
  obtain⟨bs,rb⟩:=hy.reads I ry
  exact eq_dataH_same ra rb sx sy hu nm ⟨.bl _,H,I,rfl,q⟩
theorem op_neD(hu:X.A.units+64 < cLine):OpR X (compareOp .NotEq) (rNeD X.K):=by
  intro pins s σ H x y v u Q I rx ry h
  obtain⟨d,d',hx,hy,sx,sy,nm,q⟩:=h
  obtain⟨as,ra⟩:=hx.reads I rx
  obtain⟨bs,rb⟩:=hy.reads I ry
  exact ne_dataH_same ra rb sx sy hu nm ⟨.bl _,H,I,rfl,q⟩
end
theorem iteI{i j:Int}{A B:Prop}(h1:i=j→A)(h2:¬i=j→B):if decide (V.int i=V.int j)=true then A else B:=by
  by_cases h:i=j
  · rw[if_pos (decide_eq_true (congrArg V.int h))];exact h1 h
  · rw[if_neg (by simpa using h)];exact h2 h
theorem iteNI{i j:Int}{A B:Prop}(h1:¬i=j→A)(h2:i=j→B):if(!decide (V.int i=V.int j))=true then A else B:=by
  by_cases h:i=j
  · rw[if_neg (by simpa using h)];exact h2 h
  · rw[if_pos (by simpa using h)];exact h1 h
theorem iteP{p A B:Prop} [Decidable p](h1:p→A)(h2:¬p→B):if decide p=true then A else B:=by
  by_cases h:p
  · rw[if_pos (decide_eq_true h)];exact h1 h
  · rw[if_neg (by simpa using h)];exact h2 h
theorem a0g{H:Hp}{p:Addr}{o:HO}(h:H p=none):Same H (upd H p o):=fun b u e=>by
  rw[b0b (a0v e h)];exact e
end L2
namespace L2
open PySem PySem.Spec PyProof.Rows
section
variable{κ:Type} [DecidableEq κ]
def valV(kvs:List (κ × V))(k:κ):Option V:=(kvs.find? fun kv=>decide (kv.1=k)).map (·.2)
def putK(kvs:List (κ × V))(k:κ)(v:V):List (κ × V):=
  if(kvs.any fun kv=>decide (kv.1=k))=true then kvs.map (fun kv=>if kv.1=k then(kv.1,v)else kv)else kvs++[(k,v)]
def dropK(kvs:List (κ × V))(k:κ):List (κ × V):=kvs.filter fun kv=>decide (kv.1≠k)
theorem m0f{p:κ × V}{r:List (κ × V)}{k:κ}(e:p.1=k):valV (p::r) k=some p.2:=by simp[valV,List.find?_cons,e]
theorem m0g{p:κ × V}{r:List (κ × V)}{k:κ}(e:¬p.1=k):valV (p::r) k=valV r k:=by simp[valV,List.find?_cons,e]
theorem valV_any(k:κ):∀kvs:List (κ × V),(kvs.any fun kv=>decide (kv.1=k))=(valV kvs k).isSome
  | []=>rfl
  | p::r=>by
    rw[List.any_cons]
    by_cases e:p.1=k
    · simp only[m0f e,decide_eq_true e,Bool.true_or,Option.isSome_some]
    · rw[m0g e,decide_eq_false e,Bool.false_or];exact valV_any k r
theorem length_putK(kvs:List (κ × V))(k:κ)(v:V):(putK kvs k v).length≤kvs.length+1:=by
  unfold putK
  split
  · rw[List.length_map];omega
  · rw[List.length_append,List.length_cons,List.length_nil];omega
theorem RelO.isSome_eq{o:Option V}{u:Option Value}(r:RelO o u):o.isSome=u.isSome:=by
  cases o with
  | none=>cases u with
    | none=>rfl
    | some _=>exact(show False from r).elim
  | some _=>cases u with
    | none=>exact(show False from r).elim
    | some _=>rfl
theorem RelO.getD{o:Option V}{u:Option Value}{d:V}{d':Value}(r:RelO o u)(rd:RelV d d'):RelV (o.getD d) (u.getD d'):=by
  cases o with
  | none=>cases u with
    | none=>exact rd
    | some _=>exact(show False from r).elim
  | some _=>cases u with
    | none=>exact(show False from r).elim
    | some _=>exact r
theorem KV.val{kvs:List (κ × V)}{vs:List (κ × Value)}(r:KV kvs vs)(k:κ):RelO (valV kvs k) (valueAt vs k):=by
  unfold KV at r
  induction r with
  | nil=>exact True.intro
  | @cons p q ps qs h t ih=>
    obtain⟨h1,h2⟩:=h
    by_cases e:p.1=k
    · have e':q.1=k:=h1.symm.trans e
      have b:valueAt (q::qs) k=some q.2:=by simp[valueAt,List.find?_cons,e']
      rw[m0f e,b];exact h2
    · have e':¬q.1=k:=fun z=>e (h1.trans z)
      have b:valueAt (q::qs) k=valueAt qs k:=by simp[valueAt,List.find?_cons,e']
      rw[m0g e,b];exact ih
theorem KV.any{kvs:List (κ × V)}{vs:List (κ × Value)}(r:KV kvs vs)(k:κ):(kvs.any fun kv=>decide (kv.1=k))=vs.any fun kv=>decide (kv.1=k):=by
  unfold KV at r
  induction r with
  | nil=>rfl
  | cons h t ih=>rw[List.any_cons,List.any_cons,ih,h.1]
theorem KV.repl{kvs:List (κ × V)}{vs:List (κ × Value)}(r:KV kvs vs)(k:κ){y:V}{u:Value}(ry:RelV y u) :
    KV (kvs.map fun kv=>if kv.1=k then(kv.1,y)else kv) (vs.map fun kv=>if kv.1=k then(kv.1,u)else kv):=by
  unfold KV at r ⊢
  induction r with
  | nil=>exact .nil
  | @cons p q ps qs h t ih=>
    rw[List.map_cons,List.map_cons]
    refine .cons ?_ ih
    obtain⟨h1,h2⟩:=h
    by_cases e:p.1=k
    · rw[if_pos e,if_pos (h1.symm.trans e)];exact⟨h1,ry⟩
    · rw[if_neg e,if_neg (fun z=>e (h1.trans z))];exact⟨h1,h2⟩
theorem KV.put{kvs:List (κ × V)}{vs:List (κ × Value)}(r:KV kvs vs)(k:κ){y:V}{u:Value}(ry:RelV y u):KV (putK kvs k y) (stored vs k u):=by
  unfold putK stored
  rw[r.any k]
  by_cases e:(vs.any fun kv=>decide (kv.1=k))=true
  · rw[if_pos e,if_pos e];exact r.repl k ry
  · rw[if_neg e,if_neg e];exact Paired.snoc r ⟨rfl,ry⟩
theorem KV.drop{kvs:List (κ × V)}{vs:List (κ × Value)}(r:KV kvs vs)(k:κ):KV (dropK kvs k) (without vs k):=by
  unfold KV at r ⊢
  unfold dropK without
  induction r with
  | nil=>exact .nil
  | @cons p q ps qs h t ih=>
    obtain⟨h1,h2⟩:=h
    rw[List.filter_cons,List.filter_cons]
    by_cases e:p.1=k
    · have a:¬decide (p.1≠k)=true:=by simp[e]
      have b:¬decide (q.1≠k)=true:=by simp[h1.symm.trans e]
      rw[if_neg a,if_neg b];exact ih
    · have e':¬q.1=k:=fun z=>e (h1.trans z)
      have a:decide (p.1≠k)=true:=by simp[e]
      have b:decide (q.1≠k)=true:=by simp[e']
      rw[if_pos a,if_pos b];exact .cons ⟨h1,h2⟩ ih
theorem KV.keys{kvs:List (κ × V)}{vs:List (κ × Value)}(r:KV kvs vs):kvs.map (·.1)=vs.map (·.1):=by
  unfold KV at r
  induction r with
  | nil=>rfl
  | cons h t ih=>rw[List.map_cons,List.map_cons,ih,h.1]
theorem KV.length{kvs:List (κ × V)}{vs:List (κ × Value)}(r:KV kvs vs):kvs.length=vs.length:=Paired.length r
end
theorem kV_is{P:Program}{w:World}{k:Key}{u:Value}(r:RelV (kV k) u):(c0m P w).is k u=true:=by
  cases k with
  | inl i=>obtain⟨t,e⟩:=(show ∃t,u=Value.int i t from r);subst e;exact mixKind_int P w i t
  | inr x=>obtain⟨t,e⟩:=(show ∃t,u=Value.str x t from r);subst e;exact mixKind_str P w x t
theorem items_are{P:Program}{w:World}:∀{ks:List Key} {us:List Value},Vals (ks.map kV) us→ItemsAre (c0m P w) ks us
  | [],_,r=>by rw[List.map_nil]at r;cases r;exact .nil
  | k::ks,_,r=>by
    rw[List.map_cons]at r
    cases r with
    | cons h t=>exact .cons (kV_is h) (items_are t)
abbrev KT(H:Hp):List (List Key × V)→List (List Key × Addr × Value)→Prop:=Paired fun p q=>p.1=q.1∧H q.2.1=some (.tup (p.1.map kV))∧RelV p.2 q.2.2
theorem KT.val{H:Hp}{kvs:List (List Key × V)}{xs:List (List Key × Addr × Value)}(r:KT H kvs xs)(k:List Key):RelO (valV kvs k) ((atKey xs k).map (·.2)):=by
  induction r with
  | nil=>exact True.intro
  | @cons p q ps qs h t ih=>
    obtain⟨h1,_,h2⟩:=h
    by_cases e:p.1=k
    · have e':q.1=k:=h1.symm.trans e
      have b:atKey (q::qs) k=some q.2:=by simp[atKey,List.find?_cons,e']
      rw[m0f e,b];exact h2
    · have e':¬q.1=k:=fun z=>e (h1.trans z)
      have b:atKey (q::qs) k=atKey qs k:=by simp[atKey,List.find?_cons,e']
      rw[m0g e,b];exact ih
theorem KT.repl{H:Hp}{kvs:List (List Key × V)}{xs:List (List Key × Addr × Value)}(r:KT H kvs xs)(k:List Key){y:V}{u:Value}(ry:RelV y u) :
    KT H (kvs.map fun kv=>if kv.1=k then(kv.1,y)else kv) (xs.map (putAt k u)):=by
  induction r with
  | nil=>exact .nil
  | @cons p q ps qs h t ih=>
    rw[List.map_cons,List.map_cons]
    refine .cons ?_ ih
    obtain⟨h1,h2,h3⟩:=h
    unfold putAt
    by_cases e:p.1=k
    · rw[if_pos e,if_pos (h1.symm.trans e)];exact⟨h1,h2,ry⟩
    · rw[if_neg e,if_neg (fun z=>e (h1.trans z))];exact⟨h1,h2,h3⟩
theorem KT.put{H:Hp}{kvs:List (List Key × V)}{xs:List (List Key × Addr × Value)}(r:KT H kvs xs)(k:List Key){b:Addr}{y:V}{u:Value}(hb:H b=some (.tup (k.map kV)))(ry:RelV y u) :
    KT H (putK kvs k y) (storedH xs k b u):=by
  have e:(kvs.any fun kv=>decide (kv.1=k))=(atKey xs k).isSome:=by
    rw[valV_any,(r.val k).isSome_eq,Option.isSome_map]
  unfold putK storedH
  rw[e]
  by_cases q:(atKey xs k).isSome=true
  · rw[if_pos q,if_pos q];exact r.repl k ry
  · rw[if_neg q,if_neg q];exact Paired.snoc r ⟨rfl,hb,ry⟩
theorem KT.keeps{H H':Hp}{kvs:List (List Key × V)}{xs:List (List Key × Addr × Value)}(r:KT H kvs xs)(ht:∀b ys,H b=some (.tup ys)→H' b=some (.tup ys)):KT H' kvs xs:=
  Paired.mapP r fun _ _ z=>⟨z.1,ht _ _ z.2.1,z.2.2⟩
section
variable{P:Program}{w:World}{H:Hp}{h:Heap}{a:Addr}
theorem rd_of{u:HO}(ok:HOk P w H h)(e:Rd H a u):ObjOk P w H h a u:=e.ok ok
theorem dk_rd{kvs:List (Key × V)}(ok:HOk P w H h)(e:Rd H a (.dK kvs)):kvs.length≤sizeLine∧(a == sysModules)=false∧∃vs,KV kvs vs∧h.DictOf (c0m P w) a vs:=
  show ObjOk P w H h a (.dK kvs)from rd_of ok e
theorem dk_of{kvs:List (Key × V)}(ok:HOk P w H h)(e:H a=some (.dK kvs)):kvs.length≤sizeLine∧(a == sysModules)=false∧∃vs,KV kvs vs∧h.DictOf (c0m P w) a vs:=dk_rd ok (.inl e)
theorem key_of{ks:List Key}(ok:HOk P w H h)(e:H a=some (.tup (ks.map kV))):(tupleKind (c0m P w)).is h ks a:=by
  obtain⟨_,its,r,⟨o,h1,h2,n,h3⟩,_⟩:=(show ObjOk P w H h a (.tup (ks.map kV))from ok a _ e)
  exact⟨o,its.toArray,n,h1,h2,h3,by simpa using items_are r⟩
theorem dt_rd{kvs:List (List Key × V)}(ok:HOk P w H h)(e:Rd H a (.dT kvs)):kvs.length≤sizeLine∧(a == sysModules)=false∧
    ∃xs,KT H kvs xs∧h.DictOfH (tupleKind (c0m P w)) a xs:=by
  obtain⟨z,y,xs,r,o,es,ep,h1,h2,h3,h4,h5⟩:=(show ObjOk P w H h a (.dT kvs)from rd_of ok e)
  refine⟨z,y,xs,r,o,es,ep,h1,h2,h3,h4,fun x hx=>?_,h5⟩
  have all:∀{l:List (List Key × V)} {m:List (List Key × Addr × Value)},KT H l m→∀x∈m,(tupleKind (c0m P w)).is h x.1 x.2.1:=by
    intro l m q
    induction q with
    | nil=>intro x hx;exact nomatch hx
    | @cons p q ps qs hq t ih=>
      intro x hx
      rcases List.mem_cons.mp hx with e | hx
      · subst e
        exact key_of ok (by rw[← hq.1];exact hq.2.1)
      · exact ih x hx
  exact all r x hx
end
def DGet(H:Hp)(a:Addr)(y:V)(r:Option V):Prop:=
  (∃kvs k,Rd H a (.dK kvs)∧y=kV k∧r=valV kvs k)∨∃kvs k b,Rd H a (.dT kvs)∧y=.ref b∧H b=some (.tup (k.map kV))∧r=valV kvs k
def DPut(H:Hp)(a:Addr)(y v:V)(H':Hp):Prop:=
  (∃kvs k,H a=some (.dK kvs)∧y=kV k∧kvs.length < sizeLine∧H'=upd H a (.dK (putK kvs k v)))∨
  ∃kvs k b,H a=some (.dT kvs)∧y=.ref b∧H b=some (.tup (k.map kV))∧kvs.length < sizeLine∧H'=upd H a (.dT (putK kvs k v))
theorem DGet.k{H:Hp}{a:Addr}{kvs:List (Key × V)}{k:Key}(e:H a=some (.dK kvs)):DGet H a (kV k) (valV kvs k):=.inl ⟨kvs,k,.inl e,rfl,rfl⟩
theorem DGet.t{H:Hp}{a b:Addr}{kvs:List (List Key × V)}{k:List Key}(e:H a=some (.dT kvs))(eb:H b=some (.tup (k.map kV))):DGet H a (.ref b) (valV kvs k):=.inr ⟨kvs,k,b,.inl e,rfl,eb,rfl⟩
theorem DPut.k{H:Hp}{a:Addr}{kvs:List (Key × V)}{k:Key}{v:V}(e:H a=some (.dK kvs))(hl:kvs.length < sizeLine):DPut H a (kV k) v (upd H a (.dK (putK kvs k v))):=.inl ⟨kvs,k,e,rfl,hl,rfl⟩
theorem DPut.t{H:Hp}{a b:Addr}{kvs:List (List Key × V)}{k:List Key}{v:V}(e:H a=some (.dT kvs))(eb:H b=some (.tup (k.map kV)))(hl:kvs.length < sizeLine) :
    DPut H a (.ref b) v (upd H a (.dT (putK kvs k v))):=.inr ⟨kvs,k,b,e,rfl,eb,hl,rfl⟩
section
variable{X:Cx}{pins:List (Addr × Obj)}{σ:St}{H:Hp}{s:Shared}{a:Addr}{y v:V}{u r:Value}{o:Option V}{A:Around}{E:Value→Shared→Prop}
theorem Inv.big(I:Inv X pins σ H s):sysModules < s.heap.objs.size:=by
  have h:mainGlobals < s.heap.objs.size:=(I.mod.glob.keeps I.bk).lt
  exact Nat.lt_trans (by decide) h
theorem d_getItem{Q:Value→Shared→Prop}(hu:A.units+1 < cLine)(I:Inv X pins σ H s)(g:DGet H a y (some v))(ry:RelV y u)(h:∀w' s',Inv X pins σ H s'→RelV v w'→Q w' s') :
    wpAny (model X.prog X.w) A (getItem (.ref a) u) Q E s:=by
  rcases g with ⟨kvs,k,e,ey,l⟩ | ⟨kvs,k,b,e,ey,eb,l⟩
  · subst ey
    obtain⟨z,hd,vs,rel,dd⟩:=dk_rd I.hok e
    obtain⟨w',hw,rw'⟩:=RelO.some_of (v:=v) (o:=valueAt vs k) (by rw[l];exact rel.val k)
    exact wpAny_getItem_of (kV_is ry) dd.mapOf hw (h w' _ (I.tok _) rw')
  · subst ey
    cases (show u=Value.ref b from ry)
    obtain⟨z,hd,xs,rel,dd⟩:=dt_rd I.hok e
    obtain⟨w',hw,rw'⟩:=RelO.some_of (v:=v) (o:=(atKey xs k).map (·.2)) (by rw[l];exact rel.val k)
    obtain⟨p,hp,hp2⟩:=Option.map_eq_some_iff.mp hw
    refine wpAny_getItem_heap (tupleKind_room_in1 hu) (key_of I.hok eb) dd hp ?_
    rw[hp2]
    exact h w' _ (I.tok _) rw'
theorem d_write{h':Heap}{t':Nat}{ob:HO}(I:Inv X pins σ H s)(mu:Mut (H a))(hs:Heap.SameBut a s.heap h')(he:∃q,h'.get? a=some q)(new:ObjOk X.prog X.w (upd H a ob) h' a ob) :
    Inv X pins σ (upd H a ob) { s with heap:=h',toks:=t' }:=
  I.write (x:=a) (e:=a) mu (.inl rfl) (fun b q hb z=>(hs.2 b hb).trans z) he new
theorem dk_new{P:Program}{w:World}{H':Hp}{h':Heap}{kvs:List (Key × V)}{vs:List (Key × Value)}(z:kvs.length≤sizeLine)(hd:(a == sysModules)=false)(rel:KV kvs vs)(dd:h'.DictOf (c0m P w) a vs) :
    ObjOk P w H' h' a (.dK kvs):=⟨z,hd,vs,rel,dd⟩
end
section
variable{X:Cx}{pins:List (Addr × Obj)}{σ:St}{H:Hp}{s:Shared}{a:Addr}{kvs:List (Key × V)}{k:Key}{u:Value}{A:Around}{E:Value→Shared→Prop}
end
def NoSl(i:Expr):Prop:=∀ov iv,subscripted i false ov iv=operate [ov,iv] (getItem ov iv)
theorem subD_of{prog:Program}{w:World}{A:Around}{E:Value→Shared→Prop}{s:Shared}{env:Env}{value slice:Expr}{pos:Pos}{T id:String}{Q:Value→Shared→Prop}
    (hl:typeLookup (.type T) "__getitem__"=pure (some (.builtin id))) (hs:NoSl slice)
    (h:wpAny (model prog w) A (eval value env) (fun o s₁=>wpAny (model prog w) A (eval slice env) (fun i s₂=>s₂.TypeIs o T∧wpAny (model prog w) A (getItem o i) Q E s₂) E s₁) E s) :
    wpAny (model prog w) A (eval (.Subscript value slice pos) env) Q E s:=by
  refine Subscript_ (wpAny_mono h (fun o s₁ h₁=>wpAny_mono h₁ (fun i s₂ h₂=>?_) fun _ _ x=>x) fun _ _ x=>x)
  obtain⟨hT,h₂⟩:=h₂
  unfold subscriptTail
  refine wpAny_bind ?_
  rw[getitemInPython_of_ne hT.not_modules]
  refine wpAny_bind (wpAny_specialOf hT hl ?_)
  have fin:wpAny (model prog w) A (subscripted slice false o i) (fun r s₃=>wpAny (model prog w) A (letTemporaryGo value o r >>= fun _=>pure r) Q E s₃) E s₂:=by
    rw[hs o i]
    exact wpAny_operating (wpAny_mono h₂ (fun r s₃ h₃=>wpAny_bind (wpAny_letTemporaryGo (wpAny_pure h₃))) fun _ _ x=>x)
  first
    | exact wpAny_pure (wpAny_bind fin)
    | exact wpAny_bind (wpAny_pure (wpAny_bind fin))
    | exact wpAny_bind fin
theorem dict_typeIs{X:Cx}{pins:List (Addr × Obj)}{σ:St}{H:Hp}{s:Shared}{a:Addr}{y:V}{o:Option V}(I:Inv X pins σ H s)(g:DGet H a y o):s.TypeIs (.ref a) "dict":=by
  rcases g with ⟨kvs,k,e,_,_⟩ | ⟨kvs,k,b,e,_,_,_⟩
  · obtain⟨_,_,vs,_,dd⟩:=dk_rd I.hok e
    exact dd.typeIs
  · obtain⟨_,_,xs,_,dd⟩:=dt_rd I.hok e
    exact dd.typeIs
def tDGet(td ty:TE):TE:=fun σ H Q=>td σ H fun x H1=>ty σ H1 fun y H2=>∃a v,x=.ref a∧DGet H2 a y (some v)∧Q v H2
section
variable{X:Cx}{o i e value:Expr}{pos pos' tpos:Pos}{td ty tv:TE}
theorem pe_dget(hu:X.A.units+1 < cLine)(ho:PE X o td)(hi:PE X i ty)(hs:NoSl i):PE X (.Subscript o i pos) (tDGet td ty):=by
  intro pins s σ H Q I h
  refine subD_of PySem.F.slot_dict_getitem.lookup hs (thn (ho pins s σ H _ I h) fun u s1 ⟨x,H1,I1,rx,q1⟩=>thn (hi pins s1 σ H1 _ I1 q1) fun iv s2 ⟨y,H2,I2,ry,a,v,ex,g,q2⟩=>?_)
  subst ex
  obtain rfl:u=Value.ref a:=rx
  exact⟨dict_typeIs I2 g,d_getItem hu I2 g ry fun w' s3 I3 rw'=>⟨v,H2,I3,rw',q2⟩⟩
end
theorem dk_empty{P:Program}{w:World}{H:Hp}(h:Heap)(hb:sysModules < h.objs.size):ObjOk P w H (h.push { cls:=.type "dict",data:=.dict #[] }) h.objs.size (.dK []):=
  ⟨Nat.zero_le _,beq_eq_false_iff_ne.mpr (Ne.symm (Nat.ne_of_lt hb)),[],.nil,Heap.DictOf.new h⟩
section
variable{X:Cx}{pos:Pos}
end
def tPairs:List (TE × TE)→St→Hp→(List (V × V)→Hp→Prop)→Prop
  | [],_,H,Q=>Q [] H
  | (tk,tv)::r,σ,H,Q=>tk σ H fun x H1=>tv σ H1 fun y H2=>tPairs r σ H2 fun ps H3=>Q ((x,y)::ps) H3
abbrev VV:List (V × V)→List (Value × Value)→Prop:=Paired fun p q=>RelV p.1 q.1∧RelV p.2 q.2
def PPs(X:Cx)(pos:Pos)(keys:List (Option Expr))(values:List Expr)(trs:List (TE × TE)):Prop:=
  ∀(pins:List (Addr × Obj)) (s:Shared) (σ:St) (H:Hp) (Q:List (V × V)→Hp→Prop),Inv X pins σ H s→tPairs trs σ H Q→
    wpAny (model X.prog X.w) X.A (evalPairs (pairTrees keys values X.env pos)) (fun vs s'=>∃ps H',Inv X pins σ H' s'∧VV ps vs∧Q ps H') X.xe s
theorem pps_nil{X:Cx}{pos:Pos}:PPs X pos [] [] []:=fun pins s σ H Q I h=>pairTrees_nil_walk ⟨[],H,I,.nil,h⟩
theorem d0j{X:Cx}{pos:Pos}{k v:Expr}{ks:List (Option Expr)}{vs:List Expr}{tk tv:TE}{trs:List (TE × TE)}(hk:PE X k tk)(hv:PE X v tv)(hr:PPs X pos ks vs trs) :
    PPs X pos (some k::ks) (v::vs) ((tk,tv)::trs):=fun pins s σ H Q I h=>
  pairTrees_cons_walk (thn (hk pins s σ H _ I h) fun u s1 ⟨x,H1,I1,rx,q1⟩=>thn (hv pins s1 σ H1 _ I1 q1) fun w2 s2 ⟨y,H2,I2,ry,q2⟩=>
    thn (hr pins s2 σ H2 _ I2 q2) fun ws s3 ⟨ps,H3,I3,rel,q3⟩=>⟨(x,y)::ps,H3,I3,.cons ⟨rx,ry⟩ rel,q3⟩)
def c0v(kvs more:List (Key × V)):List (Key × V):=more.foldl (fun acc kv=>putK acc kv.1 kv.2) kvs
theorem KV.merge:∀{more:List (Key × V)} {rs:List (Key × Value)} {kvs:List (Key × V)} {vs:List (Key × Value)},KV more rs→KV kvs vs→KV (c0v kvs more) (merged vs rs):=by
  intro more rs kvs vs r
  unfold KV at r
  induction r generalizing kvs vs with
  | nil=>intro q;exact q
  | @cons p q ps qs h t ih=>
    intro r0
    have e:KV (putK kvs p.1 p.2) (stored vs q.1 q.2):=by
      have:=r0.put p.1 h.2
      rw[← h.1];exact this
    exact ih e
theorem h0e:∀(more kvs:List (Key × V)),(c0v kvs more).length≤kvs.length+more.length
  | [],kvs=>by show kvs.length≤kvs.length+0;omega
  | p::r,kvs=>by
    have h1:=h0e r (putK kvs p.1 p.2)
    have h2:=length_putK kvs p.1 p.2
    show(c0v (putK kvs p.1 p.2) r).length≤_
    rw[List.length_cons];omega
theorem m0c{P:Program}{w:World}:∀{kvs:List (Key × V)} {ws:List (Value × Value)},VV (kvs.map fun kv=>(kV kv.1,kv.2)) ws→∃rs,Carries (c0m P w) ws rs∧KV kvs rs
  | [],_,r=>by rw[List.map_nil]at r;cases r;exact⟨[],True.intro,.nil⟩
  | p::kvs,_,r=>by
    rw[List.map_cons]at r
    cases r with
    | @cons a b as bs h t=>
      obtain⟨rs,c,q⟩:=m0c (P:=P) (w:=w) t
      obtain⟨b1,b2⟩:=b
      exact⟨(p.1,b2)::rs,⟨kV_is h.1,rfl,c⟩,.cons ⟨rfl,h.2⟩ q⟩
def tDisp(trs:List (TE × TE)):TE:=fun σ H Q=>∀p,H p=none→tPairs trs σ (upd H p (.dK [])) fun ps H2=>H2 p=some (.dK [])∧∃kvs:List (Key × V),ps=kvs.map (fun kv=>(kV kv.1,kv.2))∧kvs.length≤15∧Q (.ref p) (upd H2 p (.dK (c0v [] kvs)))
theorem pe_disp{X:Cx}{pos:Pos}{keys:List (Option Expr)}{values:List Expr}{trs:List (TE × TE)}(h:PPs X pos keys values trs)(hall:keys.all (·.isSome)=true)(hl:keys.length=values.length)(h0:keys≠[])
    (h15:keys.length≤15):PE X (.Dict keys values pos) (tDisp trs):=by
  intro pins s σ H Q I q
  have hn:=I.hok.fresh (Nat.le_refl s.heap.objs.size)
  have I1:=I.laid (a:=s.heap.objs.size) (o:=.dK []) (h':=s.heap.push { cls:=.type "dict",data:=.dict #[] }) (t':=s.toks) (fun _ _ q=>Heap.get?_push_of_some _ q) (Nat.le_refl _) (dk_empty s.heap I.big)
  refine wpAny_Dict_walk (knd:=c0m X.prog X.w) hall hl h0 h15 (thn (h pins _ σ _ _ I1 (q _ hn)) fun ws s2 ⟨ps,H2,I2,rel,e,kvs,ep,lk,q2⟩=>?_)
  subst ep
  obtain⟨rs,c,rk⟩:=m0c (P:=X.prog) (w:=X.w) rel
  obtain⟨z,hd,vs0,r0,dd⟩:=dk_of I2.hok e
  cases r0
  refine⟨rs,c,dd,fun h' dd' hs=>⟨.ref s.heap.objs.size,_,?_,rfl,q2⟩⟩
  have hz:(c0v [] kvs).length≤sizeLine:=by
    have h1:=h0e kvs []
    rw[List.length_nil]at h1
    rw[sizeLine_eq];omega
  have he:∃q,h'.get? s.heap.objs.size=some q:=let⟨q,_,_,hq,_⟩:=dd';⟨q,hq⟩
  exact d_write I2 (by rw[e];exact True.intro) hs he (dk_new hz hd (rk.merge .nil) dd')
structure M1(X:Cx)(o:Expr)(m:Str)(apos:Pos)(e:Expr)(cpos:Pos):Prop where
  base:attributeBase o m X.env (eval o X.env)=eval o X.env
  few:((backTo cpos (starEach [e] X.env)).all (fun x=>!x.1) && (backToKw cpos (keywordEach [] X.env)).all (fun x=>x.1.isSome)
    && decide (([e]:List Expr).length+([]:List Keyword).length+(if([]:List Keyword).isEmpty then 0 else 1) < 30))=true
  line:(apos.endLine == cpos.line)=true
  trees:backTo cpos (starEach [e] X.env)=[(false,eval e X.env)]
structure M2(X:Cx)(o:Expr)(m:Str)(apos:Pos)(e f:Expr)(cpos:Pos):Prop where
  base:attributeBase o m X.env (eval o X.env)=eval o X.env
  few:((backTo cpos (starEach [e,f] X.env)).all (fun x=>!x.1) && (backToKw cpos (keywordEach [] X.env)).all (fun x=>x.1.isSome)
    && decide (([e,f]:List Expr).length+([]:List Keyword).length+(if([]:List Keyword).isEmpty then 0 else 1) < 30))=true
  line:(apos.endLine == cpos.line)=true
  trees:backTo cpos (starEach [e,f] X.env)=[(false,eval e X.env),(false,eval f X.env)]
section
variable{X:Cx}{pins:List (Addr × Obj)}{σ:St}{H:Hp}{s:Shared}{a:Addr}{y d:V}{u r:Value}{o:Option V}{A:Around}{E:Value→Shared→Prop}
end
section
variable{X:Cx}{o e f:Expr}{apos cpos:Pos}{td ty tx:TE}
end
section
variable{X:Cx}{pins:List (Addr × Obj)}{σ:St}{H:Hp}{s:Shared}{a:Addr}{kvs:List (Key × V)}{A:Around}{E:Value→Shared→Prop}
end
section
variable{X:Cx}{pins:List (Addr × Obj)}{σ:St}{H:Hp}{s:Shared}{a:Addr}{y:V}{u:Value}{A:Around}{E:Value→Shared→Prop}
end
end L2
namespace L2
open PySem PySem.Spec PyProof.Rows
section
variable{P:Program}{w:World}{H H':Hp}{h h':Heap}
theorem HOk.there(x:HOk P w H h){a:Addr}{o:HO}(e:H a=some o):∃ob,h.get? a=some ob:=by
  have y:=x a o e
  clear e x
  induction o with
  | lst xs=>obtain⟨_,its,n,r,e⟩:=y;exact⟨_,e⟩
  | tup xs=>obtain⟨_,its,r,⟨ob,e,c⟩,_⟩:=y;exact⟨_,e⟩
  | dK kvs=>obtain⟨_,_,vs,r,ob,es,ep,e,c⟩:=y;exact⟨_,e⟩
  | dT kvs=>obtain⟨_,_,xs,r,ob,es,ep,e,c⟩:=y;exact⟨_,e⟩
  | set S n=>obtain⟨ob,es,ep,t,e,c⟩:=y;exact⟨_,e⟩
  | ins C dx fs=>obtain⟨d,z,ne,e,_⟩:=y;exact⟨_,e⟩
  | own y'=>exact y
  | xd fs=>obtain⟨mA,⟨od,es,ep,e,c⟩,r⟩:=y;exact⟨_,e⟩
  | rng lo hi=>obtain⟨t,u,v,e⟩:=y;exact⟨_,e⟩
  | frz ob u ih=>exact⟨_,y.1⟩
  | tbl ps=>exact⟨_,y⟩
  | met f y'=>exact⟨_,y⟩
  | ext φ=>exact y.2.1
theorem HOk.nothing(x:HOk P w H h){a:Addr}(n:h.get? a=none):H a=none:=by
  cases q:H a with
  | none=>rfl
  | some o=>obtain⟨ob,e⟩:=x.there q;rw[n]at e;cases e
theorem HOk.loose(x:HOk P w H h)(k:∀b u,H b≠none→h.get? b=some u→h'.get? b=some u):HOk P w H h':=fun a o e=>
  (x a o e).stay (fun b u hb q=>k b u (by
    rcases hb with z | z
    · rw[z,e];exact nofun
    · rw[z];exact nofun) q) (fun _ q=>q) fun _ _ q=>q
def XT(h:Heap)(a T C:Addr):Prop:=∃oe vs a0 oT ts,h.get? a=some oe∧(oe.cls=.ref C∧vs[0]? = some a0)∧oe.data=.fields vs∧vs[1]? = some (.ref T)∧T≠a∧h.get? T=some oT∧oT.data=.fields ts∧ts[3]? = some .none
structure Fly(P:Program)(w:World)(fs:List Addr)(H H':Hp)(s s':Shared)(a T C:Addr):Prop where
  os:s'.os=s.os
  bare:AllBare s'.gens
  un:Un fs [] H H' s.heap s'.heap
  hok:HOk P w H' s'.heap
  xt:XT s'.heap a T C
  na:s.heap.get? a=none
  nT:s.heap.get? T=none
  ha:H' a=none
  hT:H' T=none
def CX1(P:Program)(w:World):CXT:=fun outer H s E e s'=>∃a T C H',e=.ref a∧Fly P w (frs outer) H H' s s' a T C∧E (.ref C) none H'
theorem e0j{h base base':Heap}:∀{l:List Env},h.FunFrames base l→(∀b∈frs l,base'.get? b=none)→h.FunFrames base' l
  | [],_,_=>trivial
  | env::r,⟨k,⟨L,o,hf,_,ho,hd⟩,t⟩,hb=>⟨k,⟨L,o,hf,hb L (by unfold frs;rw[List.filterMap_cons,hf];exact List.mem_cons_self),ho,hd⟩,
      e0j t fun b hm=>hb b (by unfold frs;rw[List.filterMap_cons,hf];exact List.mem_cons_of_mem _ hm)⟩
abbrev hid(h:Heap)(a T:Addr)(fs:List Addr):Heap:=PySem.W.hideAll h (a::T::fs)
end
section
variable{P:Program}{w:World}{H H':Hp}{s s':Shared}{a T C:Addr}{l:List Env}{base0:Heap}
theorem Fly.base(F:Fly P w (frs l) H H' s s' a T C)(ff:s'.heap.FunFrames base0 l):∃a0,Heap.FlyingW (hid s'.heap a T (frs l)) l a (.ref C) a0 s'.heap:=by
  obtain⟨oe,vs,a0,oT,ts,e1,e2,e3,e4,e5,e6,e7,e8⟩:=F.xt
  exact⟨a0,fun b o e=>PySem.W.of_hideAll _ e,PySem.W.hideAll_none _ (by simp),e0j ff fun b hb=>PySem.W.hideAll_none _ (by simp[hb]),
    oe,vs,T,oT,ts,e1,e2,e3,e4,PySem.W.hideAll_none _ (by simp),e5,e6,e7,e8⟩
theorem Fly.back{l':List Env}{h':Heap}{a0:Value}{tk:Nat}(F:Fly P w (frs l) H H' s s' a T C)(ff:s'.heap.FunFrames base0 l)(fH:∀b∈frs l,H' b=none)
    (fl:Heap.FlyingW (hid s'.heap a T (frs l)) l' a (.ref C) a0 h') (up:s'.heap.UpToSlots h'):∃T',Fly P w (frs l) H H' s { s' with heap:=h',toks:=tk } a T' C:=by
  obtain⟨k1,_,_,oe,vs,T',oT,ts,e1,e2,e3,e4,e0,e5,e6,e7,e8⟩:=fl
  have keep:∀b o,s'.heap.get? b=some o→b≠a→b≠T→b ∉ frs l→h'.get? b=some o:=fun b o e n1 n2 n3=>k1 b o (PySem.W.hideAll_get _ e (by simp[n1,n2,n3]))
  have slot:∀b o,s'.heap.get? b=some o→b∈frs l→(∃sl,h'.get? b=some { o with slots:=sl })∧∀vs,o.data≠.fields vs:=fun b o e hb=>by
    obtain⟨_,o1,q1,q2⟩:=ff.mem hb
    rw[e]at q1;cases q1
    exact⟨up b o e q2,q2⟩
  have nf:T' ∉ frs l:=fun hb=>by
    obtain⟨_,o1,q1,q2⟩:=ff.mem hb
    obtain⟨sl,q3⟩:=up _ o1 q1 q2
    rw[e6]at q3;cases q3
    exact q2 _ e7
  have tt:T'=T∨s'.heap.get? T'=none:=by
    by_cases z:T'=T
    · exact .inl z
    · right
      cases q:s'.heap.get? T' with
      | none=>rfl
      | some o=>
        have:=PySem.W.hideAll_get (a::T::frs l) q (by simp[e5,z,nf])
        rw[e0]at this;cases this
  have hT':H' T'=none:=by
    rcases tt with z | z
    · rw[z];exact F.hT
    · exact F.hok.nothing z
  have nT':s.heap.get? T'=none:=by
    rcases tt with z | z
    · rw[z];exact F.nT
    · cases q:s.heap.get? T' with
      | none=>rfl
      | some o=>
        obtain⟨o',q'⟩:=F.un.there _ o q (by simp)
        rw[z]at q';cases q'
  have ne:∀b o,s.heap.get? b=some o→b≠a∧b≠T:=fun b o e=>⟨(fun z=>by rw[z,F.na]at e;cases e),(fun z=>by rw[z,F.nT]at e;cases e)⟩
  refine⟨T',F.os,F.bare,⟨fun b o e n hb hx=>?_,fun b o e n hb hx=>?_,F.un.free,fun b o e hx=>?_,F.un.tups,F.un.frzs,F.un.tbls⟩,F.hok.loose fun b u hb e=>?_,⟨oe,vs,a0,oT,ts,e1,e2,e3,e4,e5,e6,e7,e8⟩,F.na,nT',F.ha,hT'⟩
  · exact keep b o (F.un.keep b o e n hb hx) (ne b o e).1 (ne b o e).2 hb
  · obtain⟨sl,q⟩:=F.un.slot b o e n hb hx
    obtain⟨⟨sl',q'⟩,_⟩:=slot b _ q hb
    exact⟨sl',q'⟩
  · obtain⟨o',q⟩:=F.un.there b o e hx
    by_cases hb:b∈frs l
    · obtain⟨⟨sl,q'⟩,_⟩:=slot b o' q hb
      exact⟨_,q'⟩
    · exact⟨o',keep b o' q (ne b o e).1 (ne b o e).2 hb⟩
  · exact keep b u e (fun z=>hb (z▸F.ha)) (fun z=>hb (z▸F.hT)) fun z=>hb (fH b z)
def ExcO(a C:Addr):HO:=.ext fun h=>∃o,h.get? a=some o∧o.cls=.ref C
theorem Fly.hok'(F:Fly P w (frs l) H H' s s' a T C):HOk P w (upd H' a (ExcO a C)) s'.heap:=fun b o e=>by
  by_cases z:b=a
  · subst z
    rw[a0d]at e;cases e
    obtain⟨oe,vs,a0,oT,ts,e1,e2,_⟩:=F.xt
    exact⟨⟨oe,e1,e2.1⟩,⟨oe,e1⟩,fun h1 h2 ⟨o,q1,q2⟩ k=>⟨o,k o q1,q2⟩⟩
  · rw[b0b z]at e
    exact(F.hok b o e).stay (fun _ _ _ q=>q) (fun c q=>by rw[b0b (a0v q F.ha)];exact q) fun c xs q=>by rw[b0b (a0v q F.ha)];exact q
end
def XP(X:Cx)(pins:List (Addr × Obj))(σ:St)(E:XK)(e:Value)(s':Shared):Prop:=∃s H,Inv X pins σ H s∧CX1 X.prog X.w X.stack H s E e s'
structure Thru(X:Cx)(E:XK):Prop where
  stk:X.stack=X.env::X.outer
  fr:X.env.frame=some X.env.locals
  ex:X.ex=[]
  xe:X.xe=fun e s'=>wpAny (model X.prog X.w) X.A (leaving X.env e) (fun _ s''=>CX1 X.prog X.w X.outer X.H₀ X.s₀ E e s'') (fun e' s''=>CX1 X.prog X.w X.outer X.H₀ X.s₀ E e' s'') s'
section
variable{X:Cx}{pins:List (Addr × Obj)}{σ:St}{H:Hp}{s s':Shared}{E:XK}{e:Value}
theorem Fly.inv{H':Hp}{a T C:Addr}(I:Inv X pins σ H s)(F:Fly X.prog X.w (frs X.stack) H H' s s' a T C):Inv X pins σ H' s':=I.call' F.os F.un F.hok F.bare (ch:=[]) (fun _ z=>absurd z (by simp))
theorem Fly.out{H':Hp}{a T C:Addr}(R:Thru X E)(I:Inv X pins σ H s)(F:Fly X.prog X.w (frs X.stack) H H' s s' a T C)(q:E (.ref C) none H'):CX1 X.prog X.w X.outer X.H₀ X.s₀ E (.ref a) s':=by
  have fsub:∀b∈frs X.outer,b∈frs X.stack:=fun b hb=>by rw[R.stk];unfold frs;rw[List.filterMap_cons,R.fr];exact List.mem_cons_of_mem _ hb
  have u0:Un (frs X.stack) [] X.H₀ H X.s₀.heap s.heap:=I.base.mono fsub (by rw[R.ex];simp)
  have u1:=u0.trans F.un
  have neL:∀b o,X.s₀.heap.get? b=some o→b≠X.env.locals:=fun b o e=>Nat.ne_of_lt (Nat.lt_of_lt_of_le (Heap.lt_size e) I.ok.above)
  have nin:∀b o,X.s₀.heap.get? b=some o→b ∉ frs X.outer→b ∉ frs X.stack:=fun b o e hb hm=>by
    rw[R.stk]at hm
    unfold frs at hm
    rw[List.filterMap_cons,R.fr]at hm
    rcases List.mem_cons.mp hm with z | z
    · exact neL b o e z
    · exact hb z
  have none0:∀b,s.heap.get? b=none→X.s₀.heap.get? b=none:=fun b n=>by
    cases q:X.s₀.heap.get? b with
    | none=>rfl
    | some o=>
      obtain⟨o',q'⟩:=I.base.there b o q (by rw[R.ex];simp)
      rw[n]at q';cases q'
  exact⟨a,T,C,H',rfl,⟨F.os.trans I.os,F.bare,⟨fun b o e n hb hx=>u1.keep b o e n (nin b o e hb) hx,fun b o e n hb hx=>u1.slot b o e n (fsub b hb) hx,u1.free,u1.there,u1.tups,u1.frzs,u1.tbls⟩,F.hok,F.xt,none0 a F.na,none0 T F.nT,F.ha,F.hT⟩,q⟩
theorem XP.leave(R:Thru X E)(x:XP X pins σ E e s'):X.xe e s':=by
  obtain⟨s,H,I,a,T,C,H',rfl,F,q⟩:=x
  have J:=F.inv I
  obtain⟨a0,fl⟩:=F.base J.stack
  rw[R.xe]
  rw[R.stk]at fl
  refine wpAny_leaves_onW (J.ok.frames.trans (by rw[R.stk])) R.fr fl fun h' fl' up=>?_
  rw[← R.stk]at fl'
  obtain⟨T',F'⟩:=F.back (tk:=s'.toks) J.stack J.stkFree fl' up
  exact F'.out R I q
theorem made_leave{h':Heap}{a C:Addr}{vs:List Value}(R:Thru X E)(I:Inv X pins σ H s)(m:Heap.MadeExcOf s.heap h' a (.ref C) vs)(q:E (.ref C) none H):X.xe (.ref a) { s with heap:=h' }:=by
  have J:Inv X pins σ H { s with heap:=h' }:=I.kept (t':=s.toks) m.keeps
  obtain⟨t,he,htn,ht⟩:=m.there
  have ha:H a=none:=I.hok.nothing m.new
  rw[R.xe]
  have ff:h'.FunFrames (hid h' a a (frs X.stack)) X.stack:=e0j J.stack fun b hb=>PySem.W.hideAll_none _ (by simp[hb])
  have ff':h'.FunFrames (hid h' a a (frs X.stack)) (X.env::X.outer):=by
    have z:=J.stack
    rw[R.stk]at z
    exact e0j z fun b hb=>PySem.W.hideAll_none _ (by rw[R.stk];simp[hb])
  refine wpAny_leaving_firstW (a0:=.ref t) (base:=hid h' a a (frs X.stack)) (J.ok.frames.trans (by rw[R.stk])) ff' R.fr he (fun b o e=>PySem.W.of_hideAll _ e) (PySem.W.hideAll_none _ (by simp)) rfl rfl rfl fun h2 hL=>?_
  obtain⟨k1,_,⟨oe,ws,T',oT,ts,e1,e2,e3,e4,e0,e5,e6,e7,e8⟩,k4⟩:=hL
  have ffm:∀b∈frs X.stack,∃o,h'.get? b=some o∧∀vs,o.data≠.fields vs:=fun b hb=>(ff.mem hb).2
  have keep:∀b o,h'.get? b=some o→b≠a→b ∉ frs X.stack→h2.get? b=some o:=fun b o e n1 n3=>k1 b o (PySem.W.hideAll_get _ e (by simp[n1,n3]))
  have nf:T' ∉ frs X.stack:=fun hb=>by
    obtain⟨o1,q1,q2⟩:=ffm _ hb
    obtain⟨sl,q3⟩:=k4 _ o1 q1 q2
    rw[e6]at q3;cases q3
    exact q2 _ e7
  have nT:h'.get? T'=none:=by
    cases q:h'.get? T' with
    | none=>rfl
    | some o=>
      have:=PySem.W.hideAll_get (a::a::frs X.stack) q (by simp[e5,nf])
      rw[e0]at this;cases this
  have ne:∀b o,s.heap.get? b=some o→b≠a:=fun b o e z=>by rw[z,m.new]at e;cases e
  have F':Fly X.prog X.w (frs X.stack) H H s { s with heap:=h2 } a T' C:=by
    refine⟨rfl,I.bare,⟨fun b o e n hb hx=>keep b o (m.keeps b o e) (ne b o e) hb,fun b o e n hb hx=>?_,fun _ _ _ n _=>n,fun b o e hx=>?_,fun _ _ e=>e,fun _ _ _ e=>e,fun b ps e=>⟨#[],by rw[e];simp⟩⟩,J.hok.loose fun b u hb e=>keep b u e (fun z=>hb (z▸ha)) fun z=>hb (J.stkFree b z),
      ⟨oe,ws,_,oT,ts,e1,e2,e3,e4,e5,e6,e7,e8⟩,m.new,?_,ha,J.hok.nothing nT⟩
    · obtain⟨o1,q1,q2⟩:=ffm b hb
      have q3:=m.keeps b o e
      rw[q1]at q3;cases q3
      exact k4 b _ q1 q2
    · by_cases hb:b∈frs X.stack
      · obtain⟨o1,q1,q2⟩:=ffm b hb
        obtain⟨sl,q3⟩:=k4 b o1 q1 q2
        exact⟨_,q3⟩
      · exact⟨o,keep b o (m.keeps b o e) (ne b o e) hb⟩
    · cases q:s.heap.get? T' with
      | none=>rfl
      | some o=>rw[m.keeps _ o q]at nT;cases nT
  exact F'.out R I q
end
end L2
namespace L2
open PySem PySem.Spec PyProof.Rows
abbrev bmV:List Value:=[.type "ValueError",.type "Exception",.type "BaseException",.type "object"]
theorem excIn_obj{K:PySem.W.Frag}{h:Heap}{C:Addr}{bmB:List Value}{newId:String}(X:K.In h)(q:PySem.W.excIn K C bmB newId=true) :
    ∃bm N nm q bs hdct sn sub ab col dd k0 k1 k2 k3 k5 mN,h.get? C=some (excClassObj nm q C N bs bm hdct sn sub ab col dd k0 k1 k2 k3 k5 newId)∧h.Ns N mN∧mN "__init__"=none∧OwnTail h bmB bm:=by
  unfold PySem.W.excIn at q
  split at q
  · rename_i dd cd sl ho
    split at q
    · rename_i C' bm k0 k1 k2 k3 n k5 hm hs
      simp only[Bool.and_eq_true,beq_iff_eq,Bool.not_eq_true']at q
      obtain⟨⟨⟨⟨⟨rfl,rfl⟩,hdel⟩,ht⟩,hok⟩,hni⟩:=q
      obtain⟨nm,bs,mro,ns,qn,hd,sn,sub,ab,col,del⟩:=cd
      dsimp only at hm hdel hok hni
      subst hm hdel
      have hsl:sl=#[k0,k1,k2,k3,some (.builtin n),k5]:=by
        obtain⟨l⟩:=sl
        simp only at hs
        rw[hs]
      subst hsl
      exact⟨bm,ns,nm,qn,bs,hd,sn,sub,ab,col,dd,k0,k1,k2,k3,k5,_,X _ _ ho,.of_isNs (PySem.W.isNs_of_in X hok),PySem.W.nsMap_none_of_in X hok hni,PySem.W.tail_of_in X ht⟩
    · cases q
  · cases q
theorem FnOk.quiet{P:Program}{w:World}{K:PySem.W.Frag}{mg:Str→Option Value}{base:Heap}{k:Nat}{f:Addr}{fd:FuncData}{ps:List Str}{sp:Sp}(F:FnOk P w K mg base (CX1 P w) k f fd ps sp) :
    FnOk P w K mg base CX0 k f fd ps (fun vs H Q _=>sp vs H Q E0):=
  ⟨fun vs H Q _ h=>F.len vs H Q E0 h,fun A outer s H args us vs Q E hr e0 hb r h=>codeAny_mono (F.run A outer s H args us vs Q E0 hr e0 hb r h) fun r s' hq=>by
    cases r with
    | error e=>obtain⟨_,_,_,_,_,_,z⟩:=hq;exact z.elim
    | ok fl=>cases fl <;>exact hq⟩
section
variable{P:Program}{w:World}{K:PySem.W.Frag}{mg:Str→Option Value}{base:Heap}
theorem Fun.okx{x qual:Str}{st:Stmt}{f:Addr}{fd:FuncData}{N ps:List Str}{k:Nat}{sp:Sp}(F:Fun K x qual st f fd)(S:a0l N ps (a0h st))(len:∀vs H Q E,sp vs H Q E→vs.length=ps.length)
    (hbody:∀(cdv:Value) (A:Around) (outer:List Env) (s:Shared) (H:Hp) (vs:List V) (Q:VK) (E:XK),Room k (A.deeper (envOfC qual (a0h st) s.heap.objs.size f cdv))→sp vs H Q E→
      ∃t,PSs (cxOf (CX1 P w) P w K mg base N qual (a0h st) f cdv A outer s H E) (c0c st) t∧t { nx:=fun _ H'=>Q .non H',rt:=Q } (start N vs) H):FnOk P w K mg base (CX1 P w) (k+1) f fd ps sp:=by
  obtain⟨oc,od,kV,doc,pm,an,cdv,ct,osl,rfl,lk,hcd⟩:=F.ex
  exact fn_of lk hcd S len fun A outer s H vs Q E hr hsp=>hbody cdv A outer s H vs Q E hr hsp
theorem Thru.own{X:Cx}{E:XK}(R:Thru X E):PassesOwn (model X.prog X.w) X.A X.env X.xe:=by rw[R.xe];exact PassesOwn.leaving
theorem thru_cx{N:List Str}{qual:Str}{scope:Scope}{f:Addr}{cd:Value}{A:Around}{outer:List Env}{s:Shared}{H:Hp}{E:XK}:Thru (cxOf (CX1 P w) P w K mg base N qual scope f cd A outer s H E) E:=⟨rfl,rfl,rfl,rfl⟩
end
abbrev TX:=St→Hp→VK→XK→Prop
abbrev TSX:=Ends→XK→St→Hp→Prop
def PEX(X:Cx)(e:Expr)(t:TX):Prop:=
  ∀(pins:List (Addr × Obj)) (s:Shared) (σ:St) (H:Hp) (Q:VK) (E:XK),Inv X pins σ H s→t σ H Q E→wpAny (model X.prog X.w) X.A (eval e X.env) (EP X pins σ Q) (XP X pins σ E) s
section
variable{X:Cx}{k:Nat}{f C:Addr}{fd:FuncData}{ps:List Str}{sp:Sp}{dvs:List V}{ds:List Value}{E:XK}{x m:Str}{p np cpos pos apos:Pos}{e o:Expr}{es:List Expr}{ta:TE}{t:TA}{tx:TX}
theorem PEX.thru(R:Thru X E)(h:PEX X e tx):PE X e (fun σ H Q=>tx σ H Q E):=fun pins s σ H Q I q=>wpAny_mono (h pins s σ H Q E I q) (fun _ _ z=>z) fun _ _ z=>z.leave R
theorem run_fnX{pins:List (Addr × Obj)}{σ:St}{H:Hp}{s:Shared}{Q:VK}{us:List Value}{vs:List V}(F:FnOk X.prog X.w X.K X.mg X.base (CX1 X.prog X.w) k f fd ps sp)(hr:Room k X.A)(hb:Binds X.K fd ps ds)(hd:Vals dvs ds)
    (I:Inv X pins σ H s) (r:Vals vs us) (h:sp (vs++dvs) H Q E):wpAny (model X.prog X.w) X.A (call (.ref f) us) (EP X pins σ Q) (XP X pins σ E) s:=by
  have r2:Vals (vs++dvs) (us++ds):=r.append hd
  have hl:(us++ds).length=ps.length:=by rw[← r2.length];exact F.len _ _ _ _ h
  refine wpAny_call (codeAny_mono (F.run X.A X.stack s H ⟨us,[]⟩ (us++ds) (vs++dvs) Q E hr I.env0 (hb s us I.kIn hl) r2 h) fun r s' hq=>?_)
  cases r with
  | error e=>exact⟨s,H,I,hq⟩
  | ok fl=>
    cases fl with
    | ret u=>exact I.after hq
    | next=>exact False.elim hq
    | brk=>exact False.elim hq
    | cont=>exact False.elim hq
theorem px_call(F:FnOk X.prog X.w X.K X.mg X.base (CX1 X.prog X.w) k f fd ps sp)(hr:Room k X.A)(hg:Gl X x)(hm:X.mg x=some (.ref f))(hk:PySem.W.keepIn X.K (.ref f)=true)(hb:Binds X.K fd ps ds)(hd:Vals dvs ds)
    (ha:PA X.nox (e::es) t) (hdb:(x == ("__debug__":Str))=false:=by decide) (he:starEach (e::es) X.env=(false,eval e X.env)::starEach es X.env:=by rfl) (hpl:(backTo pos (starEach es X.env)).any (·.1)=false:=by rfl) :
    PEX X (.Call (.Name x p) (e::es) [] pos) (fun σ H Q E=>tCall sp dvs E t σ H Q):=by
  intro pins s σ H Q E I h
  refine wpAny_Call_Name_kw (i0j I hg hm ?_ hdb)
  exact PySem.W.callWith_K (h₀:=X.base) I.ok.mod.kin hk (wpAny_mono (ha pos pins s σ H _ (I.wish _) h) (fun us s1 ⟨vs,H1,I1,r,q⟩=>⟨I1.unwish.kIn,run_fnX F hr hb hd I1.unwish r q⟩) fun _ _ z=>z.elim) he hpl
def tRaise(E:XK)(C:Addr)(t:TA):TS:=fun _ σ H=>t σ H fun vs H1=>vs.length≤sizeLine∧E (.ref C) none H1
theorem ps_raise(R:Thru X E)(hc:X.calm=true)(q:PySem.W.excIn X.K C bmV "ValueError.__new__"=true)(hg:Gl X x)(hm:X.mg x=some (.ref C))(ha:PA X.nox (e::es) t)
    (hdb:(x == ("__debug__":Str))=false:=by decide) (he:starEach (e::es) X.env=(false,eval e X.env)::starEach es X.env:=by rfl) (hpl:(backTo cpos (starEach es X.env)).any (·.1)=false:=by rfl) :
    PS X (.Raise (some (.Call (.Name x np) (e::es) [] cpos)) none pos) (tRaise E C t):=by
  intro pins s σ H D I h
  obtain⟨bm,N,nm,qn,bs,hdct,sn,sub,ab,col,dd,k0,k1,k2,k3,k5,mN,hC,hN,hni,T⟩:=excIn_obj I.mod.kin q
  have hh:X.A.handled=none:=I.ok.hd hc
  have ev:=ha cpos pins s σ H _ (I.wish _) h
  refine wpAny_Raise_call_subU (C:=C) (nm:=nm) (q:=qn) (N:=N) (bs:=bs) (bm:=bm) (hdct:=hdct) (sn:=sn) (sub:=sub) (ab:=ab) (col:=col) (dd:=dd) (k0:=k0) (k1:=k1) (k2:=k2) (k3:=k3) (k5:=k5)
    PySem.F.excBase_ValueError (by decide) PySem.F.excBase_ValueError (mN:=mN) (T.hasType PySem.F.excBase_ValueError.hasBase) hh (by rw[he];show(false || (backTo cpos (starEach es X.env)).any (·.1))=false;rw[hpl];rfl) hni (i0j I hg hm ⟨rfl,?_⟩ hdb)
  rw[he]
  change wpAny _ _ (spliced (backTo cpos (starEach (e::es) X.env))) _ _ _ at ev
  rw[he]at ev
  refine Calls.evalArgs_plain (wpAny_mono ev (fun us s2 ⟨vs,H1,I1,r,hl,q2⟩=>?_) fun _ _ z=>z.elim)
  have J:Inv X pins σ H1 s2:=I1.unwish
  exact⟨rfl,by rw[← r.length];exact hl,J.bk _ _ hC,hN.keeps J.bk,T.keeps J.bk,fun h' a m=>made_leave R J m q2⟩
end
end L2
namespace L2
open PySem PySem.Spec PyProof.Rows
abbrev Cx.caught(X:Cx)(a:Addr):Cx:={ X with A:=X.A.mark (some (.ref a)),calm:=false,xe:=fun _ _=>False }
section
variable{X:Cx}{pins:List (Addr × Obj)}{σ:St}{H:Hp}{s:Shared}{a:Addr}
end
section
variable{X:Cx}{e:Expr}{te:TE}{tx:TX}{pos:Pos}{st:Stmt}{t u:TSX}
end
end L2
namespace Mine
open PySem PySem.W PySem.Spec PySem.Calls PyProof.Rows
section
variable{prog:Program}{w:World}{A:Around}{E:Value→Shared→Prop}{s:Shared}{K:Frag}{x D:Addr}{o:Obj}{c:Value}
open Builtin Builtin.Getset_descriptor in
end
end Mine
namespace L2
open PySem PySem.Spec PyProof.Rows
structure ExcK(K:PySem.W.Frag)(C:Addr):Prop where
  ga:PySem.W.findIn K (.ref C) "__getattribute__"=some (some (.builtin "BaseException.__getattribute__"))
  gt:PySem.W.findIn K (.ref C) "__getattr__"=some none
  cl:PySem.W.findIn K (.ref C) "__class__"=some (some (.builtin "object.__class__"))
  ob:PySem.W.mroIn K C (.type "object")=some true
  be:PySem.W.mroIn K C (.type "BaseException")=some true
  ex:PySem.W.excIn K C bmV "ValueError.__new__"=true
section
variable{X:Cx}
theorem PS.nox{st:Stmt}{t:TS}(h:PS X.nox st t):PS X st t:=fun pins s σ H D I hw=>
  wpAny_mono (h pins s σ H D (I.wish _) hw) (fun _ _ q=>q.unwish) fun _ _ z=>False.elim z
end
end L2
namespace L2
open PySem PySem.Spec PyProof.Rows
section
variable{X:Cx}
end
end L2
namespace Mine
@[irreducible] def dv(a b:Int):Int:=(Int.gcd a b:Int)
theorem dv_nonneg(a b:Int):0≤dv a b:=by unfold dv;exact Int.natCast_nonneg _
theorem dv_fmod(a b:Int):dv b (a.fmod b)=dv a b:=by
  unfold dv
  have e:a.fmod b=a - a.fdiv b * b:=by rw[Int.fmod_def,Int.mul_comm]
  rw[e,Int.gcd_sub_mul_right_right,Int.gcd_comm]
theorem dv_zero(a:Int):dv a 0=(a.natAbs:Int):=by
  unfold dv;rw[Int.gcd_zero_right]
theorem dv_abs(a b:Int):dv (a.natAbs:Int) (b.natAbs:Int)=dv a b:=by
  unfold dv Int.gcd;simp
theorem fmod_abs_lt(a b:Int)(h:b≠0):(a.fmod b).natAbs < b.natAbs:=by
  rcases Int.lt_trichotomy b 0 with hb | hb | hb
  · have e:a.fmod b = -((-a).fmod (-b)):=by
      simp[Int.neg_fmod_neg]
    have h1:=Int.fmod_nonneg_of_pos (-a) (show 0 < -b by omega)
    have h2:=Int.fmod_lt_of_pos (-a) (show 0 < -b by omega)
    omega
  · exact absurd hb h
  · have h1:=Int.fmod_nonneg_of_pos a hb
    have h2:=Int.fmod_lt_of_pos a hb
    omega
theorem d_turn{a b g r:Int}(h:dv g r=dv a b)(hr:0 < r):0≤r∧0≤g.fmod r∧dv r (g.fmod r)=dv a b:=
  ⟨by omega,Int.fmod_nonneg_of_pos g hr,by rw[dv_fmod,h]⟩
theorem d_less{g r:Int}(hr:0 < r):(g.fmod r).toNat < r.toNat:=by
  have h1:=Int.fmod_nonneg_of_pos g hr
  have h2:=Int.fmod_lt_of_pos g hr
  omega
theorem d_out{a b g r:Int}(h:dv g r=dv a b)(g0:0≤g)(r0:0≤r)(hr:¬0 < r):g=dv a b:=by
  have e:r=0:=by omega
  rw[← h,e,dv_zero];omega
theorem l_turn{a b x y:Int}(h:dv x y=dv a b):dv y (x.fmod y)=dv a b:=by rw[dv_fmod,h]
theorem l_out{a b x y:Int}(h:dv x y=dv a b)(hy:y=0):(x.natAbs:Int)=dv a b:=by
  rw[← h,hy,dv_zero]
theorem dv_left(a b:Int):∃q,a=dv a b * q:=by
  obtain⟨q,hq⟩:=Int.gcd_dvd_left a b
  exact⟨q,by unfold dv;exact hq⟩
theorem dv_right(a b:Int):∃q,b=dv a b * q:=by
  obtain⟨q,hq⟩:=Int.gcd_dvd_right a b
  exact⟨q,by unfold dv;exact hq⟩
theorem dv_eq_zero{a b:Int}(h:dv a b=0):a=0∧b=0:=by
  obtain⟨q,hq⟩:=dv_left a b
  obtain⟨r,hr⟩:=dv_right a b
  rw[h]at hq hr
  exact⟨by omega,by omega⟩
theorem dv_pos{a b:Int}(h:b≠0):0 < dv a b:=by
  have:=dv_nonneg a b
  rcases(by omega:dv a b=0∨0 < dv a b)with e | e
  · exact absurd (dv_eq_zero e).2 h
  · exact e
theorem dv_le(a b:Int)(h:b≠0):dv a b≤(b.natAbs:Int):=by
  have:Int.gcd a b≤b.natAbs:=by
    unfold Int.gcd
    exact Nat.gcd_le_right _ (by omega)
  unfold dv;omega
theorem fdiv_mul{g q:Int}(hg:g≠0):(g * q).fdiv g=q:=Int.mul_fdiv_cancel_left q hg
@[irreducible] def sg(a b:Int):Int:=if b < 0 then -(dv a b)else dv a b
@[irreducible] def tp(a b:Int):Int:=a.fdiv (sg a b)
@[irreducible] def bt(a b:Int):Int:=b.fdiv (sg a b)
theorem sg_pos{a b:Int}(h:¬b < 0):sg a b=dv a b:=by unfold sg;rw[if_neg h]
theorem sg_neg{a b:Int}(h:b < 0):sg a b = -(dv a b):=by unfold sg;rw[if_pos h]
theorem sg_ne{a b:Int}(h:b≠0):sg a b≠0:=by
  have:=dv_pos (a:=a) h
  unfold sg;split <;>omega
theorem tp_mul{a b:Int}(h:b≠0):sg a b * tp a b=a:=by
  obtain⟨q,hq⟩:=dv_left a b
  have hs:=sg_ne (a:=a) h
  have:∃k,a=sg a b * k:=by
    unfold sg;split
    · exact⟨-q,by rw[Int.neg_mul_neg];exact hq⟩
    · exact⟨q,hq⟩
  obtain⟨k,hk⟩:=this
  have e:tp a b=k:=by
    unfold tp
    conv=>lhs;lhs;rw[hk]
    exact fdiv_mul hs
  rw[e];exact hk.symm
theorem bt_mul{a b:Int}(h:b≠0):sg a b * bt a b=b:=by
  obtain⟨q,hq⟩:=dv_right a b
  have hs:=sg_ne (a:=a) h
  have:∃k,b=sg a b * k:=by
    unfold sg;split
    · exact⟨-q,by rw[Int.neg_mul_neg];exact hq⟩
    · exact⟨q,hq⟩
  obtain⟨k,hk⟩:=this
  have e:bt a b=k:=by
    unfold bt
    conv=>lhs;lhs;rw[hk]
    exact fdiv_mul hs
  rw[e];exact hk.symm
theorem bt_pos{a b:Int}(h:b≠0):0 < bt a b:=by
  have e:=bt_mul (a:=a) h
  have g:=dv_pos (a:=a) h
  rcases(by omega:0 < bt a b∨bt a b≤0)with p | p
  · exact p
  · exfalso
    by_cases hb:b < 0
    · rw[sg_neg hb,Int.neg_mul]at e
      have:=Int.mul_nonpos_of_nonneg_of_nonpos (Int.le_of_lt g) p
      omega
    · rw[sg_pos hb]at e
      have:=Int.mul_nonpos_of_nonneg_of_nonpos (Int.le_of_lt g) p
      omega
theorem cross{a b:Int}(h:b≠0):tp a b * b=a * bt a b:=by
  have e1:=tp_mul (a:=a) h
  have e2:=bt_mul (a:=a) h
  calc tp a b * b=tp a b * (sg a b * bt a b):=by rw[e2]
    _=(sg a b * tp a b) * bt a b:=by rw[Int.mul_comm (sg a b) (tp a b),Int.mul_assoc]
    _=a * bt a b:=by rw[e1]
theorem natAbs_sg(a b:Int):(sg a b).natAbs=Int.gcd a b:=by
  unfold sg dv;split <;>omega
theorem gcd_scale{a b s t u:Int}(e1:s * t=a)(e2:s * u=b):Int.gcd a b=s.natAbs * Int.gcd t u:=by
  rw[← e1,← e2,Int.gcd_mul_left]
theorem low{a b:Int}(h:b≠0):dv (tp a b) (bt a b)=1:=by
  have e:=gcd_scale (tp_mul (a:=a) h) (bt_mul (a:=a) h)
  rw[natAbs_sg]at e
  have p:=dv_pos (a:=a) h
  have q:0 < Int.gcd a b:=by unfold dv at p;omega
  have:Int.gcd a b * Int.gcd (tp a b) (bt a b)=Int.gcd a b * 1:=by rw[← e,Nat.mul_one]
  have:=Nat.eq_of_mul_eq_mul_left q this
  unfold dv;rw[this];rfl
theorem coprime_eq{a b c d:Int}(hb:0 < b)(hd:0 < d)(h1:dv a b=1)(h2:dv c d=1)(e:a * d=c * b):a=c∧b=d:=by
  have g1:Nat.Coprime b.natAbs a.natAbs:=by
    have:Int.gcd a b=1:=by unfold dv at h1;omega
    unfold Int.gcd at this
    exact Nat.Coprime.symm this
  have g2:Nat.Coprime d.natAbs c.natAbs:=by
    have:Int.gcd c d=1:=by unfold dv at h2;omega
    unfold Int.gcd at this
    exact Nat.Coprime.symm this
  have en:a.natAbs * d.natAbs=c.natAbs * b.natAbs:=by rw[← Int.natAbs_mul,← Int.natAbs_mul,e]
  have d1:b.natAbs ∣ d.natAbs:=g1.dvd_of_dvd_mul_left ⟨c.natAbs,by rw[en,Nat.mul_comm]⟩
  have d2:d.natAbs ∣ b.natAbs:=g2.dvd_of_dvd_mul_left ⟨a.natAbs,by rw[← en,Nat.mul_comm]⟩
  have eb:b.natAbs=d.natAbs:=Nat.dvd_antisymm d1 d2
  have ebd:b=d:=by omega
  refine⟨?_,ebd⟩
  rw[ebd]at e
  exact Int.eq_of_mul_eq_mul_right (by omega) e
theorem tp_uniq{a b x y:Int}(h:b≠0)(hy:0 < y)(hl:dv x y=1)(e:a * y=x * b):tp a b=x∧bt a b=y:=by
  refine coprime_eq (bt_pos h) hy (low h) hl ?_
  have c:=cross (a:=a) h
  have:(tp a b * y) * b=(x * bt a b) * b:=by
    calc (tp a b * y) * b=(tp a b * b) * y:=by rw[Int.mul_assoc,Int.mul_comm y b,← Int.mul_assoc]
      _=(a * bt a b) * y:=by rw[c]
      _=(a * y) * bt a b:=by rw[Int.mul_assoc,Int.mul_comm (bt a b) y,← Int.mul_assoc]
      _=(x * b) * bt a b:=by rw[e]
      _=(x * bt a b) * b:=by rw[Int.mul_assoc,Int.mul_comm b,← Int.mul_assoc]
  exact Int.eq_of_mul_eq_mul_right h this
theorem f0r(a s:Int)(k:Int)(e:s * k=a)(hs:s≠0):k.natAbs≤a.natAbs:=by
  have:a.natAbs=s.natAbs * k.natAbs:=by rw[← e,Int.natAbs_mul]
  rw[this]
  exact Nat.le_mul_of_pos_left _ (by omega)
theorem tp_le{a b:Int}(h:b≠0):(tp a b).natAbs≤a.natAbs:=f0r a _ _ (tp_mul h) (sg_ne h)
theorem bt_le{a b:Int}(h:b≠0):(bt a b).natAbs≤b.natAbs:=f0r b _ _ (bt_mul h) (sg_ne h)
theorem h0p{a b c d:Int}(hb:b≠0)(hd:d≠0)(e:a * d=c * b):tp a b=tp c d∧bt a b=bt c d:=by
  refine tp_uniq hb (bt_pos hd) (low hd) ?_
  have h:=cross (a:=c) hd
  have:(a * bt c d) * d=(tp c d * b) * d:=by
    calc (a * bt c d) * d=(a * d) * bt c d:=by rw[Int.mul_assoc,Int.mul_comm (bt c d) d,← Int.mul_assoc]
      _=(c * b) * bt c d:=by rw[e]
      _=(c * bt c d) * b:=by rw[Int.mul_assoc,Int.mul_comm b,← Int.mul_assoc]
      _=(tp c d * d) * b:=by rw[h]
      _=(tp c d * b) * d:=by rw[Int.mul_assoc,Int.mul_comm d b,← Int.mul_assoc]
  exact Int.eq_of_mul_eq_mul_right hd this
theorem lo_self{x y:Int}(hy:0 < y)(hl:dv x y=1):tp x y=x∧bt x y=y:=tp_uniq (by omega) hy hl rfl
theorem c0u{a b:Int}(ha:a≠0)(hb:b≠0):a * b≠0:=Int.mul_ne_zero ha hb
theorem plus_assoc{a b c d e f T B T' B':Int}(hb:b≠0)(hd:d≠0)(hf:f≠0)(hB:B≠0)(hB':B'≠0)
    (h1:T * (b * d)=(a * d+c * b) * B) (h2:T' * (d * f)=(c * f+e * d) * B') :
    tp (T * f+e * B) (B * f)=tp (a * B'+T' * b) (b * B')∧bt (T * f+e * B) (B * f)=bt (a * B'+T' * b) (b * B'):=by
  refine h0p (c0u hB hf) (c0u hb hB') ?_
  have k:((T * f+e * B) * (b * B')) * ((b * d) * (d * f))=((a * B'+T' * b) * (B * f)) * ((b * d) * (d * f)):=by
    grind
  exact Int.eq_of_mul_eq_mul_right (c0u (c0u hb hd) (c0u hd hf)) k
theorem times_assoc{a b c d e f T B T' B':Int}(hb:b≠0)(hd:d≠0)(hf:f≠0)(hB:B≠0)(hB':B'≠0)
    (h1:T * (b * d)=(a * c) * B) (h2:T' * (d * f)=(c * e) * B') :
    tp (T * e) (B * f)=tp (a * T') (b * B')∧bt (T * e) (B * f)=bt (a * T') (b * B'):=by
  refine h0p (c0u hB hf) (c0u hb hB') ?_
  have k:((T * e) * (b * B')) * ((b * d) * (d * f))=((a * T') * (B * f)) * ((b * d) * (d * f)):=by
    grind
  exact Int.eq_of_mul_eq_mul_right (c0u (c0u hb hd) (c0u hd hf)) k
theorem distrib{a b c d e f T B P U R V:Int}(hb:b≠0)(hd:d≠0)(hf:f≠0)(hB:B≠0)(hU:U≠0)(hV:V≠0)
    (h1:T * (d * f)=(c * f+e * d) * B) (h2:P * (b * d)=(a * c) * U) (h3:R * (b * f)=(a * e) * V) :
    tp (a * T) (b * B)=tp (P * V+R * U) (U * V)∧bt (a * T) (b * B)=bt (P * V+R * U) (U * V):=by
  refine h0p (c0u hb hB) (c0u hU hV) ?_
  have k:((a * T) * (U * V)) * ((d * f) * ((b * d) * (b * f)))=((P * V+R * U) * (b * B)) * ((d * f) * ((b * d) * (b * f))):=by
    grind
  exact Int.eq_of_mul_eq_mul_right (c0u (c0u hd hf) (c0u (c0u hb hd) (c0u hb hf))) k
theorem k0a{a b c d:Int}:tp (a * d+c * b) (b * d)=tp (c * b+a * d) (d * b)∧bt (a * d+c * b) (b * d)=bt (c * b+a * d) (d * b):=by
  rw[Int.add_comm,Int.mul_comm b d];exact⟨rfl,rfl⟩
theorem h0k{a b c d:Int}:tp (a * c) (b * d)=tp (c * a) (d * b)∧bt (a * c) (b * d)=bt (c * a) (d * b):=by
  rw[Int.mul_comm a c,Int.mul_comm b d];exact⟨rfl,rfl⟩
theorem plus_zero{a b:Int}(hb:0 < b)(hl:dv a b=1):tp (a * 1+0 * b) (b * 1)=a∧bt (a * 1+0 * b) (b * 1)=b:=by
  have e1:a * 1+0 * b=a:=by omega
  have e2:b * 1=b:=by omega
  rw[e1,e2];exact lo_self hb hl
theorem times_one{a b:Int}(hb:0 < b)(hl:dv a b=1):tp (a * 1) (b * 1)=a∧bt (a * 1) (b * 1)=b:=by
  rw[Int.mul_one,Int.mul_one];exact lo_self hb hl
theorem dv01:dv 0 1=1:=by unfold dv;decide
theorem dv11:dv 1 1=1:=by unfold dv;decide
theorem l0u{a b:Int}(hb:0 < b):tp (a * 0) (b * 1)=0∧bt (a * 0) (b * 1)=1:=
  tp_uniq (by omega) (by omega) dv01 (by omega)
theorem dv_comm(a b:Int):dv a b=dv b a:=by unfold dv;rw[Int.gcd_comm]
open PySem
theorem abs_start(a b:Int):dv (if a < 0 then -a else a) (if b < 0 then -b else b)=dv a b:=by
  have e:∀x:Int,(if x < 0 then -x else x)=(x.natAbs:Int):=fun x=>by split <;>omega
  rw[e,e,dv_abs]
theorem start1(a b:Int):0≤(if a < 0 then -a else a)∧0≤(if b < 0 then -b else b)∧dv (if a < 0 then -a else a) (if b < 0 then -b else b)=dv a b:=
  ⟨by split <;>omega,by split <;>omega,abs_start a b⟩
theorem out2{a b x y:Int}(h:dv x y=dv a b)(hy:y=0):(if x < 0 then -x else x)=dv a b:=by
  rw[← l_out h hy];split <;>omega
structure S1(x:Int):Prop where
  lo:-10000000000000000000000000000000≤x
  hi:x≤10000000000000000000000000000000
structure S2(x:Int):Prop where
  lo:-1000000000000000000000000000000000000000000000000000000000000000≤x
  hi:x≤1000000000000000000000000000000000000000000000000000000000000000
structure Po(x:Int):Prop where
  lo:0 < x
theorem S1.two{x:Int}(h:S1 x):S2 x:=⟨by have:=h.lo;omega,by have:=h.hi;omega⟩
theorem S1.zero:S1 0:=⟨by decide,by decide⟩
theorem S1.one:S1 1:=⟨by decide,by decide⟩
theorem Po.one:Po 1:=⟨by decide⟩
theorem S2.lt{y:Int}(h:S2 y):y.natAbs < 2 ^ 210:=by
  have:(2:Nat) ^ 210 > 1000000000000000000000000000000000000000000000000000000000000000:=by decide
  have:=h.lo
  have:=h.hi
  omega
theorem mul_in{x y:Int}(hx:S1 x)(hy:S1 y):-100000000000000000000000000000000000000000000000000000000000000≤x * y∧x * y≤100000000000000000000000000000000000000000000000000000000000000:=by
  have x0:=hx.lo
  have x1:=hx.hi
  have y0:=hy.lo
  have y1:=hy.hi
  have h:(x * y).natAbs=x.natAbs * y.natAbs:=Int.natAbs_mul x y
  have k:x.natAbs * y.natAbs≤10000000000000000000000000000000 * 10000000000000000000000000000000:=Nat.mul_le_mul (by omega) (by omega)
  omega
theorem S2.mul{x y:Int}(hx:S1 x)(hy:S1 y):S2 (x * y):=⟨by have:=mul_in hx hy;omega,by have:=mul_in hx hy;omega⟩
theorem Po.mul{x y:Int}(hx:Po x)(hy:Po y):Po (x * y):=⟨Int.mul_pos hx.lo hy.lo⟩
theorem Po.ne{x:Int}(h:Po x):x≠0:=by have:=h.lo;omega
theorem Po.sg{a b:Int}(h:Po b):dv a b=sg a b:=(sg_pos (by have:=h.lo;omega)).symm
theorem S1.tp{a b:Int}(h:S1 a)(p:Po b):S1 (tp a b):=by
  have l:=tp_le (a:=a) p.ne
  have:=h.lo
  have:=h.hi
  exact⟨by omega,by omega⟩
theorem S2.tp{a b:Int}(h:S2 a)(p:Po b):S2 (tp a b):=by
  have l:=tp_le (a:=a) p.ne
  have:=h.lo
  have:=h.hi
  exact⟨by omega,by omega⟩
theorem S1.bt{a b:Int}(h:S1 b)(p:Po b):S1 (bt a b):=by
  have l:=bt_le (a:=a) p.ne
  have:=h.lo
  have:=h.hi
  exact⟨by omega,by omega⟩
theorem S2.bt{a b:Int}(h:S2 b)(p:Po b):S2 (bt a b):=by
  have l:=bt_le (a:=a) p.ne
  have:=h.lo
  have:=h.hi
  exact⟨by omega,by omega⟩
theorem Po.bt{a b:Int}(p:Po b):Po (bt a b):=⟨bt_pos p.ne⟩
theorem S2.dv{a b:Int}(h:S2 b)(p:Po b):S2 (dv a b):=by
  have:=dv_le a b p.ne
  have:=dv_nonneg a b
  have:=h.lo
  have:=h.hi
  exact⟨by omega,by omega⟩
structure Low(a b:Int):Prop where
  one:dv a b=1
theorem cp{a b c d:Int}(_:Low (tp (c * b+a * d) (d * b)) (bt (c * b+a * d) (d * b))):tp (a * d+c * b) (b * d)=tp (c * b+a * d) (d * b)∧bt (a * d+c * b) (b * d)=bt (c * b+a * d) (d * b):=k0a
theorem ct{a b c d:Int}(_:Low (tp (c * a) (d * b)) (bt (c * a) (d * b))):tp (a * c) (b * d)=tp (c * a) (d * b)∧bt (a * c) (b * d)=bt (c * a) (d * b):=h0k
end Mine
namespace Mine
def Pr(p:Nat):Prop:=2≤p∧∀d,2≤d→d * d≤p→¬p % d=0
theorem Pr.div{p d:Nat}(h:Pr p)(hd:d ∣ p):d=1∨d=p:=by
  obtain⟨k,hk⟩:=hd
  have p2:=h.1
  rcases(by omega:d=0∨d=1∨2≤d)with e | e | e
  · rw[e,Nat.zero_mul]at hk;omega
  · exact .inl e
  · rcases(by omega:k=0∨k=1∨2≤k)with f | f | f
    · rw[f,Nat.mul_zero]at hk;omega
    · rw[f,Nat.mul_one]at hk;exact .inr hk.symm
    · exfalso
      rcases Nat.le_total d k with g | g
      · have:d * d≤p:=by rw[hk];exact Nat.mul_le_mul_left d g
        exact h.2 d e this (by rw[hk];exact Nat.mul_mod_right d k)
      · have:k * k≤p:=by rw[hk];exact Nat.mul_le_mul_right k g
        exact h.2 k f this (by rw[hk];exact Nat.mul_mod_left d k)
theorem Pr.cop{p a:Nat}(h:Pr p)(ha:¬p ∣ a):Nat.Coprime p a:=by
  have d1:=Nat.gcd_dvd_left p a
  have d2:=Nat.gcd_dvd_right p a
  rcases h.div d1 with e | e
  · exact e
  · rw[e]at d2;exact absurd d2 ha
theorem Pr.mul{p a b:Nat}(h:Pr p)(hd:p ∣ a * b):p ∣ a∨p ∣ b:=by
  by_cases c:p ∣ a
  · exact .inl c
  · exact .inr ((h.cop c).dvd_of_dvd_mul_left hd)
theorem small{p a:Nat}(h0:0 < a)(h1:a < p):¬p ∣ a:=fun h=>by
  have:=Nat.le_of_dvd h0 h
  omega
theorem hole:∀(n:Nat) (l:List Nat),l.Nodup→(∀a∈l,a < n)→l.length≤n
  | 0,l,_,h=>by
    cases l with
    | nil=>exact Nat.le_refl 0
    | cons a r=>exact absurd (h a (List.mem_cons_self ..)) (by omega)
  | n+1,l,nd,h=>by
    by_cases c:n∈l
    · have e:=List.length_erase_of_mem c
      have:=hole n (l.erase n) (nd.erase n) (fun a ha=>by
        have m:=(List.Nodup.mem_erase_iff nd).mp ha
        have:=h a m.2
        have:=m.1
        omega)
      omega
    · have:=hole n l nd (fun a ha=>by
        have:=h a ha
        have:a≠n:=fun e=>c (e▸ha)
        omega)
      omega
theorem fe{a p:Int}(hp:0 < p):a.fmod p=a % p:=Int.fmod_eq_emod_of_nonneg a (Int.le_of_lt hp)
theorem em1(a b p:Int):(a % p * b) % p=(a * b) % p:=by rw[Int.mul_emod,Int.emod_emod_of_dvd a (Int.dvd_refl p),← Int.mul_emod]
theorem em2(a b p:Int):(a * (b % p)) % p=(a * b) % p:=by rw[Int.mul_comm,em1,Int.mul_comm]
theorem en1(a p:Int):(-(a % p)) % p=(-a) % p:=by
  have:=em2 (-1) a p
  rw[Int.neg_one_mul,Int.neg_one_mul]at this
  exact this
theorem r_in{a p:Int}(hp:0 < p):0≤a.fmod p∧a.fmod p < p:=⟨Int.fmod_nonneg_of_pos a hp,Int.fmod_lt_of_pos a hp⟩
theorem r_pa{x y z p:Int}(hp:0 < p):((x+y).fmod p+z).fmod p=(x+(y+z).fmod p).fmod p:=by
  simp only[fe hp,Int.emod_add_emod,Int.add_emod_emod,Int.add_assoc]
theorem r_ta{x y z p:Int}(hp:0 < p):((x * y).fmod p * z).fmod p=(x * (y * z).fmod p).fmod p:=by
  simp only[fe hp,em1,em2,Int.mul_assoc]
theorem r_d{x y z p:Int}(hp:0 < p):(x * (y+z).fmod p).fmod p=((x * y).fmod p+(x * z).fmod p).fmod p:=by
  simp only[fe hp,em2,Int.emod_add_emod,Int.add_emod_emod,Int.mul_add]
theorem r_self{x p:Int}(h0:0≤x)(h1:x < p):x.fmod p=x:=by
  rw[fe (by omega)];exact Int.emod_eq_of_lt h0 h1
def ri(p x:Int):Int:=(x ^ (p.toNat - 2)) % p
def PI(n:Int):Prop:=2≤n∧∀d:Int,2≤d→d * d≤n→¬n.fmod d=0
noncomputable def isP(n:Int):Bool:=@decide (PI n) (Classical.propDecidable _)
theorem isP_true{n:Int}(h:isP n=true):PI n:=@of_decide_eq_true _ (Classical.propDecidable _) h
theorem isP_of{n:Int}(h:PI n):isP n=true:=@decide_eq_true _ (Classical.propDecidable _) h
theorem sq_lt{d f n:Int}(hd:2≤d)(hf:2≤f)(h:d * d≤n)(g:¬f * f≤n):d < f:=by
  rcases Int.lt_or_le d f with e | e
  · exact e
  · have:f * f≤d * d:=Int.mul_le_mul e e (by omega) (by omega)
    omega
theorem sq_le{f n:Int}(hf:2≤f)(h:f * f≤n):f+1≤n:=by
  have:2 * f≤f * f:=Int.mul_le_mul_of_nonneg_right hf (by omega)
  omega
theorem e0g(n k:Nat)(h2:2≤n)(hk:n < k * k)(h:(List.range k).all (fun d=>d < 2 || n % d != 0)=true):isP (n:Int)=true:=by
  refine isP_of ⟨by omega,fun d hd hdd e=>?_⟩
  have hk2:¬(k:Int) * (k:Int)≤(n:Int):=by
    have:((n:Nat):Int) < ((k * k:Nat):Int):=by omega
    rw[Int.natCast_mul]at this;omega
  have kk:2≤(k:Int):=by
    rcases(by omega:k=0∨k=1∨2≤k)with c | c | c
    · subst c;omega
    · subst c;omega
    · omega
  have lt:=sq_lt hd kk hdd hk2
  have dn:(d.toNat:Int)=d:=Int.toNat_of_nonneg (by omega)
  have:=List.all_eq_true.mp h d.toNat (List.mem_range.mpr (by omega))
  rw[← dn,fe (by omega),← Int.natCast_emod]at e
  have e':n % d.toNat=0:=by omega
  simp[e']at this
  omega
theorem p999983:isP 999983=true:=e0g 999983 1000 (by decide) (by decide) (by decide +kernel)
theorem p65537:isP 65537=true:=e0g 65537 257 (by decide) (by decide) (by decide +kernel)
theorem p2:isP 2=true:=e0g 2 2 (by decide) (by decide) (by decide +kernel)
theorem p3:isP 3=true:=e0g 3 2 (by decide) (by decide) (by decide +kernel)
theorem p5:isP 5=true:=e0g 5 3 (by decide) (by decide) (by decide +kernel)
theorem p7:isP 7=true:=e0g 7 3 (by decide) (by decide) (by decide +kernel)
theorem p11:isP 11=true:=e0g 11 4 (by decide) (by decide) (by decide +kernel)
theorem p13:isP 13=true:=e0g 13 4 (by decide) (by decide) (by decide +kernel)
theorem p101:isP 101=true:=e0g 101 11 (by decide) (by decide) (by decide +kernel)
end Mine
namespace Mine
open PySem PySem.SeqAt
set_option genInjectivity false in
set_option genSizeOfSpec false in
structure SR where
  W:Type
  add:W→W→W
  mul:W→W→W
  zero:W
  one:W
  add_comm:∀x y,add x y=add y x
  add_assoc:∀x y z,add (add x y) z=add x (add y z)
  mul_comm:∀x y,mul x y=mul y x
  mul_assoc:∀x y z,mul (mul x y) z=mul x (mul y z)
  distrib:∀x y z,mul x (add y z)=add (mul x y) (mul x z)
  add_zero:∀x,add x zero=x
  mul_one:∀x,mul x one=x
  mul_zero:∀x,mul x zero=zero
  zo:zero≠one
  sz:Nat→W→Prop
  sz_mono:∀m n x,m≤n→sz m x→sz n x
  sz_add:∀m n x y,sz m x→sz n y→sz (m+n+1) (add x y)
  sz_mul:∀m n x y,sz m x→sz n y→sz (m+n) (mul x y)
  sz_zero:sz 0 zero
  sz_one:sz 0 one
  lv:Nat→Nat→W→Prop
  lv_mono:∀k c c' x,c≤c'→lv k c x→lv k c' x
  lv_add:∀k c c' x y,lv k c x→lv k c' y→lv k (c+c') (add x y)
  lv_mul:∀j k x y,lv j 32 x→lv k 32 y→lv (j+k) 1 (mul x y)
  lv_zero:∀k,lv k 0 zero
  lv_one:lv 1 1 one
  lv_up:∀k c x,lv k c x→lv (k+1) c x
  lv_sz:∀k c x,c≤1024→lv k c x→sz (100 * k) x
  data:W→PyData
  sh:∀x,shaped (data x)=true
  nm:∀x y,noMix (data x) (data y)=true
  eq:∀x,PySem.Spec.same (data x) (data x)=true
  ne:∀x y,x≠y→PySem.Spec.same (data x) (data y)=false
structure Fr where
  t:Int
  b:Int
  p:0 < b
  l:dv t b=1
theorem Fr.eq_of{x y:Fr}(h1:x.t=y.t)(h2:x.b=y.b):x=y:=by
  cases x;cases y;cases h1;cases h2;rfl
theorem Fr.nb(x:Fr):x.b≠0:=by have:=x.p;omega
def Fr.of(a b:Int)(h:0 < b):Fr:=⟨tp a b,bt a b,bt_pos (by omega),low (by omega)⟩
theorem Fr.of_cross(a b:Int)(h:0 < b):(Fr.of a b h).t * b=a * (Fr.of a b h).b:=cross (by omega)
def Fr.add(x y:Fr):Fr:=Fr.of (x.t * y.b+y.t * x.b) (x.b * y.b) (Int.mul_pos x.p y.p)
def Fr.mul(x y:Fr):Fr:=Fr.of (x.t * y.t) (x.b * y.b) (Int.mul_pos x.p y.p)
def Fr.zero:Fr:=⟨0,1,by decide,dv01⟩
def Fr.one:Fr:=⟨1,1,by decide,dv11⟩
def Fr.sz(n:Nat)(x:Fr):Prop:=x.t.natAbs≤2 ^ n∧x.b.natAbs≤2 ^ n
theorem pw_add(m n:Nat):(2:Nat) ^ (m+n)=2 ^ m * 2 ^ n:=Nat.pow_add 2 m n
theorem mul_sz{a b:Int}{m n:Nat}(h1:a.natAbs≤2 ^ m)(h2:b.natAbs≤2 ^ n):(a * b).natAbs≤2 ^ (m+n):=by
  rw[Int.natAbs_mul,pw_add];exact Nat.mul_le_mul h1 h2
theorem sum_sz{a b c d:Int}{m n:Nat}(h1:a.natAbs≤2 ^ m)(h2:b.natAbs≤2 ^ n)(h3:c.natAbs≤2 ^ n)(h4:d.natAbs≤2 ^ m):(a * b+c * d).natAbs≤2 ^ (m+n+1):=by
  have k1:=mul_sz h1 h2
  have k2:=mul_sz h3 h4
  rw[Nat.add_comm n m]at k2
  have k3:(a * b+c * d).natAbs≤(a * b).natAbs+(c * d).natAbs:=Int.natAbs_add_le _ _
  have k4:(2:Nat) ^ (m+n+1)=2 ^ (m+n) * 2:=Nat.pow_succ ..
  omega
theorem of_sz{a b:Int}{h:0 < b}{m:Nat}(h1:a.natAbs≤2 ^ m)(h2:b.natAbs≤2 ^ m):(Fr.of a b h).sz m:=
  ⟨Nat.le_trans (tp_le (by omega)) h1,Nat.le_trans (bt_le (by omega)) h2⟩
theorem pw_le{m n:Nat}(h:m≤n):(2:Nat) ^ m≤2 ^ n:=Nat.pow_le_pow_right (by decide) h
def Fr.lv(k c:Nat)(x:Fr):Prop:=∃a:Int,x.t * 12 ^ k=a * x.b∧1024 * a.natAbs≤c * 2 ^ (100 * k)
theorem Fr.lv_add{k c c':Nat}{x y:Fr}(h:x.lv k c)(h':y.lv k c'):(Fr.add x y).lv k (c+c'):=by
  obtain⟨a,e,b⟩:=h
  obtain⟨a',e',b'⟩:=h'
  refine⟨a+a',?_,?_⟩
  · have hc:=Fr.of_cross (x.t * y.b+y.t * x.b) (x.b * y.b) (Int.mul_pos x.p y.p)
    have hn:x.b * y.b≠0:=Int.mul_ne_zero x.nb y.nb
    refine Int.eq_of_mul_eq_mul_right hn ?_
    show(Fr.add x y).t * 12 ^ k * (x.b * y.b)=(a+a') * (Fr.add x y).b * (x.b * y.b)
    have hc:(Fr.add x y).t * (x.b * y.b)=(x.t * y.b+y.t * x.b) * (Fr.add x y).b:=hc
    have e1:(Fr.add x y).t * 12 ^ k * (x.b * y.b)=((Fr.add x y).t * (x.b * y.b)) * 12 ^ k:=by rw[Int.mul_right_comm]
    rw[e1,hc]
    have e2:(x.t * y.b+y.t * x.b) * (Fr.add x y).b * 12 ^ k=((x.t * 12 ^ k) * y.b+(y.t * 12 ^ k) * x.b) * (Fr.add x y).b:=by
      rw[Int.mul_right_comm,Int.add_mul,Int.mul_right_comm x.t,Int.mul_right_comm y.t]
    rw[e2,e,e']
    have e3:a * x.b * y.b+a' * y.b * x.b=(a+a') * (x.b * y.b):=by
      rw[Int.add_mul,Int.mul_assoc,Int.mul_assoc a',Int.mul_comm y.b x.b]
    rw[e3,Int.mul_right_comm]
  · have:=Int.natAbs_add_le a a'
    rw[Nat.add_mul]
    omega
theorem Fr.lv_mul{j k:Nat}{x y:Fr}(h:x.lv j 32)(h':y.lv k 32):(Fr.mul x y).lv (j+k) 1:=by
  obtain⟨a,e,b⟩:=h
  obtain⟨a',e',b'⟩:=h'
  refine⟨a * a',?_,?_⟩
  · have hc:(Fr.mul x y).t * (x.b * y.b)=(x.t * y.t) * (Fr.mul x y).b:=Fr.of_cross (x.t * y.t) (x.b * y.b) (Int.mul_pos x.p y.p)
    have hn:x.b * y.b≠0:=Int.mul_ne_zero x.nb y.nb
    refine Int.eq_of_mul_eq_mul_right hn ?_
    rw[Int.mul_right_comm,hc,Int.pow_add]
    have e2:x.t * y.t * (Fr.mul x y).b * (12 ^ j * 12 ^ k)=(x.t * 12 ^ j) * (y.t * 12 ^ k) * (Fr.mul x y).b:=by
      rw[Int.mul_right_comm]
      congr 1
      rw[Int.mul_assoc,Int.mul_assoc,Int.mul_left_comm y.t]
    rw[e2,e,e']
    have e3:a * x.b * (a' * y.b)=a * a' * (x.b * y.b):=by
      rw[Int.mul_assoc,Int.mul_assoc,Int.mul_left_comm x.b]
    rw[e3,Int.mul_right_comm]
  · rw[Int.natAbs_mul,Nat.mul_add,Nat.pow_add]
    have h1:=Nat.mul_le_mul b b'
    have e1:1024 * a.natAbs * (1024 * a'.natAbs)=1024 * (1024 * (a.natAbs * a'.natAbs)):=by
      rw[Nat.mul_assoc,Nat.mul_left_comm a.natAbs]
    have e2:32 * 2 ^ (100 * j) * (32 * 2 ^ (100 * k))=1024 * (2 ^ (100 * j) * 2 ^ (100 * k)):=by
      rw[Nat.mul_assoc,Nat.mul_left_comm (2 ^ (100 * j)),← Nat.mul_assoc]
    rw[e1,e2]at h1
    have:=Nat.le_of_mul_le_mul_left h1 (by decide)
    omega
theorem Fr.lv_up{k c:Nat}{x:Fr}(h:x.lv k c):x.lv (k+1) c:=by
  obtain⟨a,e,b⟩:=h
  refine⟨a * 12,?_,?_⟩
  · rw[Int.pow_succ,← Int.mul_assoc,e,Int.mul_right_comm]
  · rw[Int.natAbs_mul,show 100 * (k+1)=100 * k+100 from by omega,Nat.pow_add]
    have h1:(1024 * a.natAbs) * 12≤(c * 2 ^ (100 * k)) * 2 ^ 100:=Nat.mul_le_mul b (by decide)
    have e1:1024 * (a.natAbs * (12:Int).natAbs)=(1024 * a.natAbs) * 12:=by rw[Nat.mul_assoc];rfl
    rw[e1,← Nat.mul_assoc]
    exact h1
theorem Fr.lv_sz{k c:Nat}{x:Fr}(hc:c≤1024)(h:x.lv k c):x.sz (100 * k):=by
  obtain⟨a,e,b⟩:=h
  have cop:Nat.Coprime x.t.natAbs x.b.natAbs:=by
    have l:=x.l
    unfold dv at l
    have:Int.gcd x.t x.b=1:=by omega
    exact this
  have e':x.t.natAbs * 12 ^ k=a.natAbs * x.b.natAbs:=by
    have:=congrArg Int.natAbs e
    rw[Int.natAbs_mul,Int.natAbs_mul,Int.natAbs_pow]at this
    exact this
  have hb:a.natAbs≤2 ^ (100 * k):=by
    have h1:1024 * a.natAbs≤1024 * 2 ^ (100 * k):=Nat.le_trans b (Nat.mul_le_mul_right _ hc)
    exact Nat.le_of_mul_le_mul_left h1 (by decide)
  have p12:(12:Nat) ^ k≤2 ^ (100 * k):=by
    rw[Nat.pow_mul]
    exact Nat.pow_le_pow_left (by decide) k
  constructor
  · have d:x.t.natAbs ∣ a.natAbs:=cop.dvd_of_dvd_mul_right ⟨12 ^ k,e'.symm⟩
    by_cases z:a.natAbs=0
    · have:x.t.natAbs * 12 ^ k=0:=by rw[e',z,Nat.zero_mul]
      have:x.t.natAbs=0:=by
        rcases Nat.mul_eq_zero.mp this with h | h
        · exact h
        · exact absurd h (Nat.ne_of_gt (Nat.pow_pos (by decide)))
      omega
    · exact Nat.le_trans (Nat.le_of_dvd (by omega) d) hb
  · have d:x.b.natAbs ∣ 12 ^ k:=cop.symm.dvd_of_dvd_mul_left ⟨a.natAbs,by rw[e',Nat.mul_comm]⟩
    exact Nat.le_trans (Nat.le_of_dvd (Nat.pow_pos (by decide)) d) p12
theorem Fr.lv_drawn{t b:Int}(h:0 < b)(h4:b≤4)(ht:t.natAbs≤2 ^ 90):(Fr.of t b h).lv 1 32:=by
  have hc:=Fr.of_cross t b h
  obtain⟨q,e,q12⟩:∃q:Int,b * q=12∧q.natAbs≤12:=by
    rcases(by omega:b=1∨b=2∨b=3∨b=4)with rfl | rfl | rfl | rfl
    · exact⟨12,by decide,by decide⟩
    · exact⟨6,by decide,by decide⟩
    · exact⟨4,by decide,by decide⟩
    · exact⟨3,by decide,by decide⟩
  refine⟨t * q,?_,?_⟩
  · rw[Int.pow_succ,Int.pow_zero,Int.one_mul,← e,← Int.mul_assoc,hc,Int.mul_right_comm]
  · rw[Int.natAbs_mul]
    have h1:t.natAbs * q.natAbs≤2 ^ 90 * 12:=Nat.mul_le_mul ht q12
    have h2:(2:Nat) ^ 90 * 12 * 1024≤32 * 2 ^ (100 * 1):=by decide
    have e2:(2:Nat) ^ 90=1237940039285380274899124224:=by decide
    have e3:(2:Nat) ^ (100 * 1)=1267650600228229401496703205376:=by decide
    rw[e2]at h1 h2
    rw[e3]at h2 ⊢
    omega
def frSR:SR where
  W:=Fr
  add:=Fr.add
  mul:=Fr.mul
  zero:=Fr.zero
  one:=Fr.one
  add_comm x y:=Fr.eq_of k0a.1 k0a.2
  add_assoc x y z:=
    have h:=plus_assoc (f:=z.b) (e:=z.t) x.nb y.nb z.nb (Fr.add x y).nb (Fr.add y z).nb (Fr.of_cross _ _ (Int.mul_pos x.p y.p)) (Fr.of_cross _ _ (Int.mul_pos y.p z.p))
    Fr.eq_of h.1 h.2
  mul_comm x y:=Fr.eq_of h0k.1 h0k.2
  mul_assoc x y z:=
    have h:=times_assoc (f:=z.b) (e:=z.t) x.nb y.nb z.nb (Fr.mul x y).nb (Fr.mul y z).nb (Fr.of_cross _ _ (Int.mul_pos x.p y.p)) (Fr.of_cross _ _ (Int.mul_pos y.p z.p))
    Fr.eq_of h.1 h.2
  distrib x y z:=
    have h:=distrib (a:=x.t) (f:=z.b) (e:=z.t) x.nb y.nb z.nb (Fr.add y z).nb (Fr.mul x y).nb (Fr.mul x z).nb (Fr.of_cross _ _ (Int.mul_pos y.p z.p)) (Fr.of_cross _ _ (Int.mul_pos x.p y.p)) (Fr.of_cross _ _ (Int.mul_pos x.p z.p))
    Fr.eq_of h.1 h.2
  add_zero x:=Fr.eq_of (plus_zero x.p x.l).1 (plus_zero x.p x.l).2
  mul_one x:=Fr.eq_of (times_one x.p x.l).1 (times_one x.p x.l).2
  mul_zero x:=Fr.eq_of (l0u x.p).1 (l0u x.p).2
  zo h:=by have:(0:Int)=1:=congrArg Fr.t h;omega
  sz:=Fr.sz
  sz_mono m n x h s:=⟨Nat.le_trans s.1 (pw_le h),Nat.le_trans s.2 (pw_le h)⟩
  sz_add m n x y h1 h2:=of_sz (sum_sz h1.1 h2.2 h2.1 h1.2) (Nat.le_trans (mul_sz h1.2 h2.2) (pw_le (Nat.le_succ _)))
  sz_mul m n x y h1 h2:=of_sz (mul_sz h1.1 h2.1) (mul_sz h1.2 h2.2)
  sz_zero:=⟨by decide,by decide⟩
  sz_one:=⟨by decide,by decide⟩
  lv:=Fr.lv
  lv_mono k c c' x h:=fun⟨a,e,b⟩=>⟨a,e,Nat.le_trans b (Nat.mul_le_mul_right _ h)⟩
  lv_add _ _ _ _ _ h h':=Fr.lv_add h h'
  lv_mul _ _ _ _ h h':=Fr.lv_mul h h'
  lv_zero k:=⟨0,by show(0:Int) * 12 ^ k=0 * 1;rw[Int.zero_mul,Int.zero_mul],by show 1024 * 0≤_;omega⟩
  lv_one:=⟨12,by decide,by decide⟩
  lv_up _ _ _ h:=Fr.lv_up h
  lv_sz _ _ _ hc h:=Fr.lv_sz hc h
  data x:=.tuple [.int x.t,.int x.b]
  sh x:=rfl
  nm x y:=by simp[noMix,noMixAll]
  eq x:=by simp[PySem.Spec.same,PySem.Spec.sameAll]
  ne x y h:=by
    simp[PySem.Spec.same,PySem.Spec.sameAll]
    intro h1 h2
    exact h (Fr.eq_of h1 h2)
structure Re(p:Int)where
  x:Int
  h0:0≤x
  h1:x < p
theorem Re.eq_of{p:Int}{a b:Re p}(h:a.x=b.x):a=b:=by cases a;cases b;cases h;rfl
def Re.of(p:Int)(hp:0 < p)(x:Int):Re p:=⟨x.fmod p,(r_in hp).1,(r_in hp).2⟩
def f0k(p:Int)(hp:2≤p):SR where
  W:=Re p
  add a b:=Re.of p (by omega) (a.x+b.x)
  mul a b:=Re.of p (by omega) (a.x * b.x)
  zero:=⟨0,by omega,by omega⟩
  one:=⟨1,by omega,by omega⟩
  add_comm a b:=Re.eq_of (by show(a.x+b.x).fmod p=(b.x+a.x).fmod p;rw[Int.add_comm])
  add_assoc a b c:=Re.eq_of (r_pa (by omega))
  mul_comm a b:=Re.eq_of (by show(a.x * b.x).fmod p=(b.x * a.x).fmod p;rw[Int.mul_comm])
  mul_assoc a b c:=Re.eq_of (r_ta (by omega))
  distrib a b c:=Re.eq_of (r_d (by omega))
  add_zero a:=Re.eq_of (by show(a.x+0).fmod p=a.x;rw[Int.add_zero];exact r_self a.h0 a.h1)
  mul_one a:=Re.eq_of (by show(a.x * 1).fmod p=a.x;rw[Int.mul_one];exact r_self a.h0 a.h1)
  mul_zero a:=Re.eq_of (by show(a.x * 0).fmod p=0;rw[Int.mul_zero];exact r_self (by omega) (by omega))
  zo h:=by have:(0:Int)=1:=congrArg Re.x h;omega
  sz _ _:=True
  sz_mono _ _ _ _ _:=trivial
  sz_add _ _ _ _ _ _:=trivial
  sz_mul _ _ _ _ _ _:=trivial
  sz_zero:=trivial
  sz_one:=trivial
  lv _ _ _:=True
  lv_mono _ _ _ _ _ _:=trivial
  lv_add _ _ _ _ _ _ _:=trivial
  lv_mul _ _ _ _ _ _:=trivial
  lv_zero _:=trivial
  lv_one:=trivial
  lv_up _ _ _ _:=trivial
  lv_sz _ _ _ _ _:=trivial
  data a:=.int a.x
  sh _:=rfl
  nm _ _:=by simp[noMix]
  eq _:=by simp[PySem.Spec.same]
  ne a b h:=by
    simp[PySem.Spec.same]
    intro e
    exact h (Re.eq_of e)
def cAdd:Option Int→Option Int→Option Int
  | none,y=>y
  | x,none=>x
  | some a,some b=>some (if b < a then b else a)
def cMul:Option Int→Option Int→Option Int
  | some a,some b=>some (a+b)
  | _,_=>none
def cData:Option Int→PyData
  | none=>.none
  | some i=>.int i
def costSR:SR where
  W:=Option Int
  add:=cAdd
  mul:=cMul
  zero:=none
  one:=some 0
  add_comm x y:=by
    cases x <;>cases y <;>simp only[cAdd]
    congr 1;split <;>split <;>omega
  add_assoc x y z:=by
    cases x <;>cases y <;>cases z <;>simp only[cAdd]
    congr 1;repeat (split <;>try omega)
  mul_comm x y:=by
    cases x <;>cases y <;>simp only[cMul]
    congr 1;omega
  mul_assoc x y z:=by
    cases x <;>cases y <;>cases z <;>simp only[cMul]
    congr 1;omega
  distrib x y z:=by
    cases x <;>cases y <;>cases z <;>simp only[cMul,cAdd]
    congr 1;repeat (split <;>try omega)
  add_zero x:=by cases x <;>rfl
  mul_one x:=by
    cases x with
    | none=>rfl
    | some a=>simp only[cMul];congr 1;omega
  mul_zero x:=by cases x <;>rfl
  zo h:=by cases h
  sz _ _:=True
  sz_mono _ _ _ _ _:=trivial
  sz_add _ _ _ _ _ _:=trivial
  sz_mul _ _ _ _ _ _:=trivial
  sz_zero:=trivial
  sz_one:=trivial
  lv _ _ _:=True
  lv_mono _ _ _ _ _ _:=trivial
  lv_add _ _ _ _ _ _ _:=trivial
  lv_mul _ _ _ _ _ _:=trivial
  lv_zero _:=trivial
  lv_one:=trivial
  lv_up _ _ _ _:=trivial
  lv_sz _ _ _ _ _:=trivial
  data:=cData
  sh x:=by cases x <;>rfl
  nm x y:=by cases x <;>cases y <;>simp[cData,noMix]
  eq x:=by cases x <;>simp[cData,PySem.Spec.same]
  ne x y h:=by cases x <;>cases y <;>simp_all [cData,PySem.Spec.same]
def truthSR:SR where
  W:=Bool
  add:=fun a b=>a || b
  mul:=fun a b=>a && b
  zero:=false
  one:=true
  add_comm x y:=by cases x <;>cases y <;>rfl
  add_assoc x y z:=by cases x <;>cases y <;>cases z <;>rfl
  mul_comm x y:=by cases x <;>cases y <;>rfl
  mul_assoc x y z:=by cases x <;>cases y <;>cases z <;>rfl
  distrib x y z:=by cases x <;>cases y <;>cases z <;>rfl
  add_zero x:=by cases x <;>rfl
  mul_one x:=by cases x <;>rfl
  mul_zero x:=by cases x <;>rfl
  zo h:=by cases h
  sz _ _:=True
  sz_mono _ _ _ _ _:=trivial
  sz_add _ _ _ _ _ _:=trivial
  sz_mul _ _ _ _ _ _:=trivial
  sz_zero:=trivial
  sz_one:=trivial
  lv _ _ _:=True
  lv_mono _ _ _ _ _ _:=trivial
  lv_add _ _ _ _ _ _ _:=trivial
  lv_mul _ _ _ _ _ _:=trivial
  lv_zero _:=trivial
  lv_one:=trivial
  lv_up _ _ _ _:=trivial
  lv_sz _ _ _ _ _:=trivial
  data:=.bool
  sh _:=rfl
  nm _ _:=by simp[noMix]
  eq _:=by simp[PySem.Spec.same]
  ne a b h:=by simp_all [PySem.Spec.same]
end Mine
namespace L2
open PySem PySem.Spec PyProof.Rows
class Plain (P:Program):Prop where
  tree:P.given.tree=none
section
variable{X:Cx}
theorem Inv.seer{pins:List (Addr × Obj)}{σ:St}{H:Hp}{s:Shared}(I:Inv X pins σ H s):s.heap.NoSeer:=I.ok.mod.seer.keeps I.bk
theorem j0n{k:Nat}(hr:Room k X.A)(hk:34≤k)(hP:X.prog.given.tree=none)(hst:X.stack=X.env::X.outer:=by rfl)(hgen:X.env.scope.isGenerator=false:=by rfl)(hco:X.env.scope.isCoroutine=false:=by rfl) :
    OpR X (binaryOp .FloorDiv) (rI (fun _ j=>j≠0) fun i j=>.int (i.fdiv j)):=by
  intro pins s σ H x y v u Q I rx ry h
  obtain⟨i,j,rfl,rfl,hc,q⟩:=h
  obtain⟨t,rfl⟩:=rx
  obtain⟨t',rfl⟩:=ry
  refine floordiv_int hc ⟨.int _,H,I.tok _,⟨_,rfl⟩,q⟩ (Or.inr (PylongRoom.of I.nolimit ?_ (SeerAt.of I.seer hP (by rw[I.ok.frames,hst]) hgen hco I.ok.blt I.ok.glob)))
  have:=hr.dp
  show X.A.depth+100 < recursionLimit
  omega
def CMulG(i j:Int):Prop:=Builtin.Int.intBits i+Builtin.Int.intBits j≤2 ^ 27
theorem mulOkG{a b:Int}(hc:CMulG a b):IntMulOk a b:=by
  have hc:Builtin.Int.intBits a+Builtin.Int.intBits b≤2 ^ 27:=hc
  have e:Builtin.Int.intTooBig (Builtin.Int.intBits a+Builtin.Int.intBits b)=false:=by
    unfold Builtin.Int.intTooBig bitsLine
    exact decide_eq_false (by omega)
  unfold IntMulOk
  rw[e]
  simp
theorem d0r:OpR X (binaryOp .Mult) (rI CMulG fun i j=>.int (i * j)):=opI fun _ _ _ _ _ _ _ hc q=>mul_int q (mulOkG hc)
end
end L2
namespace L2
open PySem PySem.Spec PyProof.Rows
def k0x(cells:List (Str × Addr)):List (Str × NameKind)→List (Str × Addr)→List (Str × Addr)
  | [],cs=>cs
  | (n,k)::r,cs=>k0x cells r (if(k == .free)=true then(n,(cells.lookup n).getD 0)::cs else cs)
theorem clo_for{env:Env}:∀(names:List (Str × NameKind)) (cs:List (Str × Addr)),(∀n,(n,NameKind.free)∈names→∃c,env.cells.lookup n=some c)→
    (forIn names cs fun(x:Str × NameKind) (r:List (Str × Addr))=>(match x with | (name,kind)=>if(kind == NameKind.free)=true then(do let c ← cellOf env name;pure (ForInStep.yield ((name,c)::r)))else pure (ForInStep.yield r):Sem (ForInStep (List (Str × Addr)))))=pure (k0x env.cells names cs)
  | [],cs,_=>rfl
  | (n,k)::r,cs,h=>by
    rw[List.forIn_cons]
    by_cases hk:k=.free
    · subst hk
      obtain⟨c,hc⟩:=h n List.mem_cons_self
      have ih:=clo_for (env:=env) r ((n,c)::cs) fun m hm=>h m (List.mem_cons_of_mem _ hm)
      have e1:cellOf env n=pure c:=by unfold cellOf;rw[hc]
      simp only[beq_self_eq_true,if_true,e1,pure_bind]
      rw[ih]
      conv=>rhs;unfold k0x
      simp only[beq_self_eq_true,if_true,hc,Option.getD_some]
    · have hb:(k == NameKind.free)=false:=by simpa using hk
      have ih:=clo_for (env:=env) r cs fun m hm=>h m (List.mem_cons_of_mem _ hm)
      simp only[hb,Bool.false_eq_true,if_false,pure_bind]
      rw[ih]
      conv=>rhs;unfold k0x
      simp only[hb,Bool.false_eq_true,if_false]
theorem k0w{env:Env}{scope:Scope}(h:∀n,(n,NameKind.free)∈scope.names→∃c,env.cells.lookup n=some c):closureFor scope env=pure (k0x env.cells scope.names []):=by
  have e:=clo_for (env:=env) scope.names [] h
  unfold closureFor
  simp only[bind_pure]
  exact e
theorem clo_in{cells:List (Str × Addr)}:∀{names:List (Str × NameKind)} {cs:List (Str × Addr)},(∀n,(n,NameKind.free)∈names→∃c,cells.lookup n=some c)→∀{y c},(k0x cells names cs).lookup y=some c→cs.lookup y=some c∨cells.lookup y=some c
  | [],cs,_,y,c,e=>.inl e
  | (n,k)::r,cs,h,y,c,e=>by
    unfold k0x at e
    have h':∀m,(m,NameKind.free)∈r→∃c,cells.lookup m=some c:=fun m hm=>h m (List.mem_cons_of_mem _ hm)
    rcases clo_in h' e with z | z
    · by_cases hk:k=.free
      · subst hk
        obtain⟨d,hd⟩:=h n List.mem_cons_self
        simp only[beq_self_eq_true,if_true,hd,Option.getD_some]at z
        rw[List.lookup_cons]at z
        cases hy:(y == n)with
        | true=>
          rw[hy]at z
          have:y=n:=beq_iff_eq.mp hy
          subst this
          exact .inr (hd.trans z)
        | false=>rw[hy]at z;exact .inl z
      · have hb:(k == NameKind.free)=false:=by simpa using hk
        simp only[hb,Bool.false_eq_true,if_false]at z
        exact .inl z
    · exact .inr z
theorem clo_has{cells:List (Str × Addr)}:∀{names:List (Str × NameKind)} {cs:List (Str × Addr)} {y:Str},((∃c,cs.lookup y=some c)∨(y,NameKind.free)∈names)→∃c,(k0x cells names cs).lookup y=some c
  | [],cs,y,h=>by
    rcases h with h | h
    · exact h
    · cases h
  | (n,k)::r,cs,y,h=>by
    unfold k0x
    refine clo_has ?_
    rcases h with ⟨c,h⟩ | h
    · left
      split
      · rw[List.lookup_cons]
        cases hy:(y == n)with
        | true=>exact⟨_,rfl⟩
        | false=>exact⟨c,h⟩
      · exact⟨c,h⟩
    · rcases List.mem_cons.mp h with e | h
      · cases e
        left
        simp only[beq_self_eq_true,if_true]
        rw[List.lookup_cons,beq_self_eq_true]
        exact⟨_,rfl⟩
      · exact .inr h
theorem i0t{prog:Program}{w:World}{A:Around}{R:Result→Shared→Prop}{s:Shared}{elt target iter:Expr}{scope:Scope}{pos:Pos}{it acc:Value}{env:Env}(I:Nat→Shared→Prop)
    (turn:∀n s,I n s→wpAny (model prog w) A (pyNext it) (fun r s₁=>match r with
      | none=>R (.ok .next) s₁
      | some v=>wpAny (model prog w) A (letOwnedTupleGo target it v) (fun _ s₁'=>wpAny (model prog w) A (assign target env v) (fun _ s₂=>wpAny (model prog w) A (eval elt env) (fun x s₃=>
          wpAny (model prog w) A (call (.builtin "list.append") [acc,x]) (fun _ s₄=>∃m,m < n∧I m s₄) (fun _ _=>False) s₃) (fun _ _=>False) s₂) (fun _ _=>False) s₁') (fun _ _=>False) s₁) (fun _ _=>False) s)
    (n:Nat) (h:I n s) :
    codeAny (model prog w) A (.compLoop (.ListComp elt [⟨target,iter,[],0⟩] scope pos) 0 it acc env) R s:=by
  refine codeAny_loop rfl I (fun n s hI=>?_) n h
  show wpAny _ _ ((compTurn (.ListComp elt [⟨target,iter,[],0⟩] scope pos) 0 it acc env).onRaise (fun x=>do noteFrame x env;theTreesLotGoes x)) _ _ s
  refine wpAny_noted ?_
  rw[compTurn_list1]
  refine wpAny_bind (wpAny_standAt (wpAny_bind (wpAny_mono (turn n s hI) (fun r s₁ h₁=>?_) fun _ _ h'=>h'.elim)))
  cases r with
  | none=>exact wpAny_pure h₁
  | some v=>
    exact wpAny_bind (wpAny_mono h₁ (fun _ s1' h1'=>wpAny_bind (wpAny_mono h1' (fun _ s₂ h₂=>wpAny_bind (wpAny_bind (wpAny_mono h₂ (fun x s₃ h₃=>wpAny_bind (wpAny_mono h₃
      (fun _ s₄ h₄=>wpAny_pure (wpAny_pure ⟨rfl,h₄⟩)) fun _ _ h'=>h'.elim)) fun _ _ h'=>h'.elim))) fun _ _ h'=>h'.elim)) fun _ _ h'=>h'.elim)
theorem HOk.track{P:Program}{w:World}{H:Hp}{h:Heap}{a:Addr}{o:HO}(x:HOk P w H h)(n:H a=none)(new:ObjOk P w (upd H a o) h a o):HOk P w (upd H a o) h:=fun b u e=>by
  by_cases hb:b=a
  · subst hb;rw[a0d]at e;cases e;exact new
  · rw[b0b hb]at e
    exact(x b u e).stay (fun _ _ _ q=>q) (fun c q=>by rw[b0b (a0v q n)];exact q) fun c xs q=>by rw[b0b (a0v q n)];exact q
theorem Un.track{fs ex:List Addr}{H H':Hp}{h h':Heap}{a:Addr}{o:HO}(u:Un fs ex H H' h h')(hp:h.objs.size≤a)(n:H' a=none):Un fs ex H (upd H' a o) h h' where
  keep:=u.keep
  slot:=u.slot
  free:=fun b ob q m hx=>by rw[b0b (Nat.ne_of_lt (Nat.lt_of_lt_of_le (Heap.lt_size q) hp))];exact u.free b ob q m hx
  there:=u.there
  tups:=fun b xs q=>by have z:=u.tups b xs q;rw[b0b (a0v z n)];exact z
  frzs:=fun b ob xs q=>by have z:=u.frzs b ob xs q;rw[b0b (a0v z n)];exact z
  tbls:=fun b ps q=>by obtain⟨m,z⟩:=u.tbls b ps q;exact⟨m,by rw[b0b (a0v z n)];exact z⟩
theorem b0w:∀(names:List (Str × NameKind)) (n:Nat) (acc:List (Str × Addr)),cellsFrom n names acc=cellsFrom n names []++acc
  | [],_,_=>rfl
  | (x,k)::r,n,acc=>by
    unfold cellsFrom
    split
    · rw[b0w r (n+1) ((x,n)::acc),b0w r (n+1) [(x,n)],List.append_assoc];rfl
    · exact b0w r n acc
theorem n0t:∀(names:List (Str × NameKind)) (n:Nat) (y:Str) (c:Addr),(y,c)∈cellsFrom n names []→(y,NameKind.cell)∈names
  | [],_,_,_,h=>by cases h
  | (x,k)::r,n,y,c,h=>by
    unfold cellsFrom at h
    split at h
    · rename_i hk
      rw[b0w]at h
      rcases List.mem_append.mp h with h | h
      · exact List.mem_cons_of_mem _ (n0t r (n+1) y c h)
      · have e:=List.mem_singleton.mp h
        cases e
        rw[show k=NameKind.cell by simpa using hk]
        exact List.mem_cons_self
    · exact List.mem_cons_of_mem _ (n0t r n y c h)
theorem h0i:∀(names:List (Str × NameKind)) (n:Nat) (y:Str),(y,NameKind.cell)∈names→∃c,(y,c)∈cellsFrom n names []
  | [],_,_,h=>by cases h
  | (x,k)::r,n,y,h=>by
    unfold cellsFrom
    rcases List.mem_cons.mp h with e | h
    · cases e
      rw[if_pos (show(NameKind.cell == NameKind.cell)=true by decide),b0w]
      exact⟨n,List.mem_append_right _ List.mem_cons_self⟩
    · split
      · rw[b0w]
        obtain⟨c,hc⟩:=h0i r (n+1) y h
        exact⟨c,List.mem_append_left _ hc⟩
      · exact h0i r n y h
theorem d0w{α:Type}:∀(l r:List (Str × α)) (y:Str),(l++r).lookup y=match l.lookup y with | some c=>some c | none=>r.lookup y
  | [],_,_=>rfl
  | (x,c)::l,r,y=>by
    rw[List.cons_append,List.lookup_cons,List.lookup_cons]
    cases (y == x)with
    | true=>rfl
    | false=>exact d0w l r y
theorem i0f{α:Type}:∀{l:List (Str × α)} {y:Str} {c:α},(y,c)∈l→∃c',l.lookup y=some c'
  | (x,d)::l,y,c,h=>by
    rw[List.lookup_cons]
    cases hb:(y == x)with
    | true=>exact⟨d,rfl⟩
    | false=>
      rcases List.mem_cons.mp h with e | h
      · cases e;rw[beq_self_eq_true]at hb;cases hb
      · exact i0f h
abbrev cbOf(env:Env)(scope:Scope)(C:Addr):List (Str × Addr):=cellsFrom (C+1) scope.names (k0x env.cells scope.names [])
theorem cb_lookup{env:Env}{scope:Scope}{C:Addr}{y:Str}{c:Addr}(h:(cbOf env scope C).lookup y=some c):(y,c)∈cellsFrom (C+1) scope.names []∨(k0x env.cells scope.names []).lookup y=some c:=by
  rw[show cbOf env scope C=_ from b0w _ _ _,d0w]at h
  split at h
  · rename_i e;cases h;exact .inl (PySem.mem_of_lookup e)
  · exact .inr h
theorem cb_own{env:Env}{scope:Scope}{C:Addr}{y:Str}{c:Addr}(k:scope.names.lookup y=some .cell)(h:(cbOf env scope C).lookup y=some c):(y,c)∈cellsFrom (C+1) scope.names []:=by
  rw[show cbOf env scope C=_ from b0w _ _ _,d0w]at h
  obtain⟨d,hd⟩:=h0i scope.names (C+1) y (PySem.mem_of_lookup k)
  obtain⟨d',hd'⟩:=i0f hd
  rw[hd']at h
  cases h
  exact PySem.mem_of_lookup hd'
theorem b0u:∀(names:List (Str × NameKind)) (n:Nat) (y:Str) (c:Addr),(y,c)∈cellsFrom n names []→n≤c
  | [],_,_,_,h=>by cases h
  | (x,k)::r,n,y,c,h=>by
    unfold cellsFrom at h
    split at h
    · rw[b0w]at h
      rcases List.mem_append.mp h with h | h
      · have:=b0u r (n+1) y c h;omega
      · cases List.mem_singleton.mp h;exact Nat.le_refl _
    · exact b0u r n y c h
theorem k0y:∀(names:List (Str × NameKind)) (n:Nat) (x y:Str) (c:Addr),(x,c)∈cellsFrom n names []→(y,c)∈cellsFrom n names []→x=y
  | [],_,_,_,_,h,_=>by cases h
  | (z,k)::r,n,x,y,c,h,g=>by
    unfold cellsFrom at h g
    split at h
    · rename_i hk
      rw[if_pos hk]at g
      rw[b0w]at h g
      rcases List.mem_append.mp h with h | h <;>rcases List.mem_append.mp g with g | g
      · exact k0y r (n+1) x y c h g
      · cases List.mem_singleton.mp g
        have:=b0u r (n+1) x _ h;omega
      · cases List.mem_singleton.mp h
        have:=b0u r (n+1) y _ g;omega
      · cases List.mem_singleton.mp h;cases List.mem_singleton.mp g;rfl
    · rename_i hk
      rw[if_neg hk]at g
      exact k0y r n x y c h g
theorem k0j{M:Model}{A:Around}{E:Value→Shared→Prop}{s:Shared}{scope:Scope}{globals:Addr}{closure:List (Str × Addr)}{qual:Str}{env:Env}{Q:Env→Shared→Prop}
    (hQ:∀h':Heap,h'.Ns s.heap.objs.size (fun _=>none)→(∀b o,s.heap.get? b=some o→h'.get? b=some o)→CellsOk h' (s.heap.objs.size+1) (cellsFrom (s.heap.objs.size+1) scope.names [])→
      Q (newEnv scope s.heap.objs.size globals (cellsFrom (s.heap.objs.size+1) scope.names closure) qual none .none (some env) builtinsNs) { s with heap:=h',toks:=s.toks+([]:List (Str × Value)).length }) :
    wpAny M A (newFunctionEnv scope globals closure [] qual none .none (some env)) Q E s:=by
  simp only[newFunctionEnv,Option.isSome_some,if_true]
  refine wpAny_bind (wpAny_alloc ?_)
  refine wpAny_bind (wpAny_layCells _ (fun name kind cells=>by cases hkc:kind == NameKind.cell <;>simp[hkc]) _ _ _ _ ?_)
  have ok:=cellsFrom_ok scope.names (s.heap.push { cls:=.type "dict",data:=.dict #[] }) (s.heap.objs.size+1) [] ⟨fun _ _ hm=>(nomatch hm),List.Pairwise.nil⟩ (by rw[Heap.size_push];exact Nat.le_refl _)
  rw[Heap.size_push]at ok
  rw[show({ s with heap:=s.heap.push { cls:=.type "dict",data:=.dict #[] } }:Shared).heap.objs.size=s.heap.objs.size+1 from Heap.size_push ..]
  rw[List.forIn_nil]
  refine wpAny_bind (wpAny_pure (wpAny_pure ?_))
  exact hQ _ ((Heap.Ns.new s.heap (.type "dict")).keeps (pushCells_keeps _ _)) (fun b o e=>pushCells_keeps _ _ b o (Heap.get?_push_of_some _ e)) ok
def d0n(X:Cx)(scope:Scope)(xs:List Str)(C:Addr)(s:Shared)(H:Hp)(fp:List Addr)(pn:List (Addr × Obj)):Cx:=
  { X with env:=compEnvC scope (cbOf X.env scope C) C X.env,N:=X.N++xs,s₀:=s,H₀:=H,outer:=X.stack,ex:=fp,fn:=fun y=>scope.names.lookup y == some .cell,pn:=pn,xe:=fun _ _=>False }
structure b0m(N:List Str)(S T:Scope):Prop where
  kind:T.kind=.function
  cell:∀y∈N,T.names.lookup y≠some .cell
  names:∀y∈T.names,y.2=.local→T.names.lookup y.1=some .local
  uniq:∀y∈T.names,T.names.lookup y.1=some y.2
  free:∀y∈T.names,y.2=.free→S.names.lookup y.1=some .cell∨S.names.lookup y.1=some .free
  vis:∀y∈N,T.names.lookup y≠some .local
def rl(env:Env)(z:Str × NameKind):Str × NameKind:=match z with | (n,k)=>if(k == NameKind.free && env.scope.kind == .function && env.kindOf n == some .cell)then(n,NameKind.cell)else(n,k)
theorem rl_fst(env:Env)(n:Str)(k:NameKind):(rl env (n,k)).1=n:=by unfold rl;dsimp only;split <;>rfl
theorem rl_snd(env:Env)(n:Str)(k:NameKind):(rl env (n,k)).2=k∨(k=.free∧(rl env (n,k)).2=.cell):=by
  unfold rl
  dsimp only
  split
  · rename_i h
    simp only[Bool.and_eq_true]at h
    exact .inr ⟨by simpa using h.1.1,rfl⟩
  · exact .inl rfl
theorem g0r{env:Env}:∀{names:List (Str × NameKind)} {y:Str} {k:NameKind},(names.map (rl env)).lookup y=some k→names.lookup y=some k∨(names.lookup y=some .free∧k=.cell)
  | [],_,_,h=>by cases h
  | (n,j)::r,y,k,h=>by
    have ih:=@g0r env r y k
    rw[List.map_cons,show rl env (n,j)=((rl env (n,j)).1,(rl env (n,j)).2)from rfl,rl_fst,List.lookup_cons]at h
    rw[List.lookup_cons]
    cases hy:(y == n)with
    | true=>
      rw[hy]at h
      have h:(rl env (n,j)).2=k:=Option.some.inj h
      rcases rl_snd env n j with z | ⟨z1,z2⟩
      · exact .inl (by rw[← h,z])
      · exact .inr ⟨by rw[z1],by rw[← h,z2]⟩
    | false=>
      rw[hy]at h
      exact ih h
theorem i0l{env:Env}{scope:Scope}{y:Str}(h:(relabel scope env).names.lookup y=some .cell∨(relabel scope env).names.lookup y=some .free):scope.names.lookup y=some .free∨scope.names.lookup y=some .cell:=by
  have e:(relabel scope env).names=scope.names.map (rl env):=rfl
  rw[e]at h
  rcases h with h | h
  · rcases g0r h with z | ⟨z,_⟩
    · exact .inr z
    · exact .inl z
  · rcases g0r h with z | ⟨z,_⟩
    · exact .inl z
    · exact .inl z
theorem m0v{env:Env}{scope:Scope}{y:Str}(h:(relabel scope env).names.lookup y=some .local):scope.names.lookup y=some .local:=by
  have e:(relabel scope env).names=scope.names.map (rl env):=rfl
  rw[e]at h
  rcases g0r h with z | ⟨_,z⟩
  · exact z
  · cases z
theorem Un.but{fs ex:List Addr}{H H':Hp}{h h1 h2:Heap}{C:Addr}(u:Un fs ex H H' h h1)(hb:∀b o,b≠C→h1.get? b=some o→h2.get? b=some o)(hC:h.objs.size≤C):Un fs ex H H' h h2:=by
  have ne:∀b o,h.get? b=some o→b≠C:=fun b o e=>Nat.ne_of_lt (Nat.lt_of_lt_of_le (Heap.lt_size e) hC)
  refine⟨fun b o e n hf hx=>hb b o (ne b o e) (u.keep b o e n hf hx),fun b o e n hf hx=>?_,u.free,fun b o e hx=>?_,u.tups,u.frzs,u.tbls⟩
  · obtain⟨sl,q⟩:=u.slot b o e n hf hx
    exact⟨sl,hb b _ (ne b o e) q⟩
  · obtain⟨o',q⟩:=u.there b o e hx
    exact⟨o',hb b _ (ne b o e) q⟩
theorem HOk.but{P:Program}{w:World}{H:Hp}{h1 h2:Heap}{C:Addr}(x:HOk P w H h1)(hb:∀b o,b≠C→h1.get? b=some o→h2.get? b=some o)(n:H C=none):HOk P w H h2:=fun b u e=>
  (x b u e).stay (fun c v hc q=>hb c v (by
    rcases hc with rfl | hc
    · exact a0v e n
    · exact a0v hc n) q) (fun _ q=>q) fun _ _ q=>q
section
variable{X:Cx}{pins:List (Addr × Obj)}{σ:St}{H:Hp}{s:Shared}{scope:Scope}{xs:List Str}{fp:List Addr}{C:Addr}
theorem h0h(I:Inv X pins σ H s)(ok:b0m X.N X.env.scope scope):∀n,(n,NameKind.free)∈scope.names→∃c,X.env.cells.lookup n=some c:=fun n hn=>I.ok.has n (ok.free _ hn rfl)
theorem f0a(I:Inv X pins σ H s)(ok:b0m X.N X.env.scope scope){y:Str}{c:Addr}(e:(cbOf X.env scope C).lookup y=some c):(y,c)∈cellsFrom (C+1) scope.names []∨X.env.cells.lookup y=some c:=by
  rcases cb_lookup e with z | z
  · exact .inl z
  · rcases clo_in (h0h I ok) z with z | z
    · cases z
    · exact .inr z
theorem comp_old(I:Inv X pins σ H s){y:Str}{c:Addr}(e:X.env.cells.lookup y=some c):c < s.heap.objs.size:=let⟨_,h⟩:=I.cell y c e;h.lt
theorem comp_ok(I:Inv X pins σ H s)(ok:b0m X.N X.env.scope scope)(hf:∀b∈fp,FpOk X pins H b)(hx:∀b∈fp,b < s.heap.objs.size)(hC:s.heap.objs.size≤C) :
    (d0n X scope xs C s H fp (X.pn++pins)).Ok where
  mod:=I.mod
  kind:=ok.kind
  glob:=I.ok.glob
  blt:=I.ok.blt
  above:=hC
  inj:=fun x y c h1 h2=>by
    rcases f0a I ok h1 with z1 | z1 <;>rcases f0a I ok h2 with z2 | z2
    · exact k0y _ _ x y c z1 z2
    · exact absurd (Nat.lt_of_lt_of_le (comp_old I z2) (Nat.le_trans hC (Nat.le_of_lt (b0u _ _ _ _ z1)))) (Nat.lt_irrefl _)
    · exact absurd (Nat.lt_of_lt_of_le (comp_old I z1) (Nat.le_trans hC (Nat.le_of_lt (b0u _ _ _ _ z2)))) (Nat.lt_irrefl _)
    · exact I.ok.inj x y c z1 z2
  has:=fun y hy=>by
    show ∃c,(cbOf X.env scope C).lookup y=some c
    rw[show cbOf X.env scope C=_ from b0w _ _ _,d0w]
    rcases i0l hy with z | z
    · obtain⟨c,hc⟩:=clo_has (cells:=X.env.cells) (cs:=[]) (.inr (PySem.mem_of_lookup z))
      split
      · rename_i c' _;exact⟨c',rfl⟩
      · exact⟨c,hc⟩
    · obtain⟨c,hc⟩:=h0i scope.names (C+1) y (PySem.mem_of_lookup z)
      obtain⟨c',hc'⟩:=i0f hc
      rw[hc']
      exact⟨c',rfl⟩
  cab:=fun x c h e=>Nat.le_trans hC (Nat.le_of_lt (b0u _ _ _ _ (cb_own (by have h:(scope.names.lookup x == some NameKind.cell)=true:=h;simpa using h) e)))
  hd:=I.ok.hd
  frames:=I.ok.frames
  stk:=.inl rfl
  exf:=fun b hb=>⟨Nat.ne_of_lt (Nat.lt_of_lt_of_le (hx b hb) hC),fun x c e=>by
    rcases f0a I ok e with z | z
    · exact Nat.ne_of_gt (Nat.lt_of_lt_of_le (hx b hb) (Nat.le_trans hC (Nat.le_of_lt (b0u _ _ _ _ z))))
    · exact(hf b hb).2.2.2.2.1 x c z⟩
  bs:=I.bs
  bsz:=Nat.le_trans I.ok.bsz I.sz
  noex:=fun b o e hb=>by
    rcases(hf b hb).2.2.2.1 with z | z
    · exact I.ok.noex b o e z
    · exact absurd (Nat.lt_of_lt_of_le (Heap.lt_size e) (Nat.le_trans I.ok.bsz z)) (Nat.lt_irrefl _)
  exfs:=fun b hb z=>by
    rcases List.mem_cons.mp (I.stkSub b z)with q | q
    · exact(hf b hb).2.1 q
    · exact(hf b hb).2.2.1 q
  funs:=I.stack
  frf:=I.stkFree
theorem m0b(I:Inv X pins σ H s)(ok:b0m X.N X.env.scope scope)(hf:∀b∈fp,FpOk X pins H b)(hx:∀b∈fp,b < s.heap.objs.size)(hC:s.heap.objs.size≤C){h':Heap}{t':Nat}{m:Str→Option Value}
    (hn:h'.Ns C m) (hk:∀b o,s.heap.get? b=some o→h'.get? b=some o) (hcs:CellsOk h' (C+1) (cellsFrom (C+1) scope.names [])) :
    Inv (d0n X scope xs C s H fp (X.pn++pins)) [] (σ++List.replicate xs.length none) H { s with heap:=h',toks:=t' }where
  ok:=comp_ok I ok hf hx hC
  os:=rfl
  bare:=I.bare
  base:=Un.kept hk
  loc:=by
    refine⟨m,hn,fun i x v e1 e2 e3=>?_⟩
    have e1:(X.N++xs)[i]? = some x:=e1
    have hi:i < σ.length:=by
      by_cases hi:i < σ.length
      · exact hi
      · rw[List.getElem?_append_right (by omega),List.getElem?_replicate]at e2
        split at e2 <;>cases e2
    rw[List.getElem?_append_left hi]at e2
    rw[List.getElem?_append_left (by rw[← I.len];exact hi)]at e1
    have hxN:x∈X.N:=List.mem_of_getElem? e1
    have e4:(relabel scope X.env).names.lookup x=some .cell∨(relabel scope X.env).names.lookup x=some .free:=by
      rcases e3 with z | z
      · exact absurd (m0v z) (ok.vis x hxN)
      · exact z
    have e5:scope.names.lookup x=some .free:=by
      rcases i0l e4 with z | z
      · exact z
      · exact absurd z (ok.cell x hxN)
    have e6:=ok.free _ (PySem.mem_of_lookup e5) rfl
    obtain⟨m0,_,hl⟩:=I.loc
    obtain⟨u,ru,lu⟩:=hl i x v e1 e2 (.inr e6)
    refine⟨u,ru,.inr ⟨e4,?_⟩⟩
    rcases lu with ⟨q,_⟩ | ⟨_,c,hc,o,ho,hd⟩
    · have q:X.env.scope.names.lookup x=some .local:=q
      rcases e6 with z | z <;>(rw[q]at z;cases z)
    · obtain⟨c',hc'⟩:=clo_has (cells:=X.env.cells) (cs:=[]) (.inr (PySem.mem_of_lookup e5))
      have no:(cellsFrom (C+1) scope.names []).lookup x=none:=by
        cases e:(cellsFrom (C+1) scope.names []).lookup x with
        | none=>rfl
        | some d=>
          have:=ok.uniq _ (n0t _ _ _ _ (PySem.mem_of_lookup e))
          rw[e5]at this
          cases this
      have hb:(cbOf X.env scope C).lookup x=some c':=by
        rw[show cbOf X.env scope C=_ from b0w _ _ _,d0w,no]
        exact hc'
      rcases clo_in (h0h I ok) hc' with z | z
      · cases z
      · rw[hc]at z
        cases z
        exact⟨c,hb,o,hk _ _ ho,hd⟩
  cell:=fun x c e=>by
    rcases f0a I ok e with z | z
    · exact⟨none,(hcs.empty x c z).1⟩
    · obtain⟨v,o,ho,hd⟩:=I.cell x c z
      exact⟨v,o,hk _ _ ho,hd⟩
  free:=I.hok.fresh hC
  freeC:=fun x c e=>by
    rcases f0a I ok e with z | z
    · exact I.hok.fresh (by have:=b0u _ _ _ _ z;omega)
    · exact I.freeC x c z
  pin:=fun p hp=>by
    rw[List.append_nil]at hp
    obtain⟨e,n,ne,nf,d⟩:=I.pin p hp
    refine⟨hk _ _ e,n,Nat.ne_of_lt (Nat.lt_of_lt_of_le (Heap.lt_size e) hC),fun z=>?_,d⟩
    rcases List.mem_cons.mp (I.stkSub p.1 z)with q | q
    · exact ne q
    · exact nf q
  hok:=I.hok.kept hk
  len:=by
    show(σ++List.replicate xs.length none).length=(X.N++xs).length
    rw[List.length_append,List.length_append,List.length_replicate,I.len]
end
abbrev CTail(J:It)(k:Nat)(g:TG)(te:TE)(σ:St)(Q:VK)(H1:Hp):Prop:=∃W:Nat→Nat→List V→Hp→Prop,(∃m,W 0 m [] H1)∧∀i m ys H,W i m ys H→
  (J.stop i H∧ys.length≤sizeLine∧∀p,H p=none→Q (.ref p) (upd H p (.lst ys)))∨
  (J.go i H∧ys.length < sizeLine∧∀x H',J.yld i H x H'→g x (σ++List.replicate k none) H' fun σ2 H2=>(∃zs,σ2=σ++zs∧zs.length=k)∧te σ2 H2 fun v H3=>∃m',m' < m∧W (i+1) m' (ys++[v]) H3)
def tComp(k:Nat)(wi:TI)(g:TG)(te:TE):TE:=fun σ H Q=>wi σ H fun J H1=>CTail J k g te σ Q H1
theorem b0z{X:Cx}{elt target iter:Expr}{scope:Scope}{pos:Pos}{wi:TI}{g:TG}{te:TE}{xs:List Str}(hc:X.calm=true)(ok:b0m X.N X.env.scope scope)(hi:PI X target iter wi)
    (hg:∀C s H fp pn,PG (d0n X scope xs C s H fp pn) target g) (he:∀C s H fp pn,PE (d0n X scope xs C s H fp pn) elt te)
    (hs:∀x,foldedSetIterable iter X.env x=pure x:=by intro _;rfl):PE X (.ListComp elt [⟨target,iter,[],0⟩] scope pos) (tComp xs.length wi g te):=by
  intro pins s σ H Q I h
  rw[eval_ListComp]
  refine wpAny_comprehension_free (use:=none) rfl hs (k0w (h0h I ok)) ok.kind ok.names (thn (hi pins s σ H _ I h) fun v s1 h1=>thn h1 fun itv s2 h2=>?_)
  obtain⟨it,fp,tn,J,H2,rfl,I2,T,st2,f2,W,⟨m0,w0⟩,turn⟩:=h2
  refine wpAny_newObj_type (k0j fun h₁ hns₁ hsb₁ hcl₁=>?_)
  dsimp only at hns₁ hsb₁ hcl₁ ⊢
  generalize hD:s2.heap.objs.size=D
  generalize hH3:s2.heap.push { cls:=.type "list",dict:=none,data:=.seq ([]:List Value).toArray }=h3 at hns₁ hsb₁ hcl₁ ⊢
  have k23:∀b o,s2.heap.get? b=some o→h3.get? b=some o:=fun b o e=>hH3▸Heap.get?_push_of_some _ e
  have hC:h3.objs.size=D+1:=by rw[← hH3,Heap.size_push,hD]
  have eD3:h3.get? D=some { cls:=.type "list",dict:=none,data:=.seq ([]:List Value).toArray }:=by
    rw[← hH3,← hD];exact Heap.get?_push_size _ rfl
  have I3:Inv X pins σ H2 { s2 with heap:=h3 }:=I2.kept (t':=s2.toks) k23
  have fD:FpOk X pins H2 D:=I2.fpOk (by omega) (I2.hok.fresh (by omega))
  have lt2:∀b∈fp,b < D:=fun b hb=>by
    obtain⟨o,e,_⟩:=T.obj 0 _ st2 b hb
    rw[← hD]
    exact Heap.lt_size e
  have f3:∀b∈D::fp,FpOk X pins H2 b:=fun b hb=>by
    rcases List.mem_cons.mp hb with rfl | hb
    · exact fD
    · exact f2 b hb
  have hx3:∀b∈D::fp,b < ({ s2 with heap:=h3 }:Shared).heap.objs.size:=fun b hb=>by
    show b < h3.objs.size
    rcases List.mem_cons.mp hb with rfl | hb
    · rw[hC];exact Nat.lt_succ_self _
    · rw[hC];exact Nat.lt_succ_of_lt (lt2 b hb)
  have k31:∀b o,h3.get? b=some o→h₁.get? b=some o:=hsb₁
  have okX:=comp_ok (C:=h3.objs.size) (xs:=xs) I3 ok f3 hx3 (Nat.le_refl _)
  have I4:=m0b (C:=h3.objs.size) (xs:=xs) (t':=s2.toks+([]:List (Str × Value)).length) I3 ok f3 hx3 (Nat.le_refl _) hns₁ k31 hcl₁
  have mD:D∈D::fp:=List.mem_cons_self
  have neC:∀b∈D::fp,b≠h3.objs.size:=fun b hb=>(okX.exf b hb).1
  have stat:∀{H':Hp} {pl:List (Addr × Obj)},(∀b∈fp,H' b=none)→(∀p∈pl,p.1=D)→∀b∈fp,FpOk (d0n X scope xs h3.objs.size { s2 with heap:=h3 } H2 (D::fp) (X.pn++pins)) pl H' b:=fun hn hpl b hb=>by
    have hb':b∈D::fp:=List.mem_cons_of_mem _ hb
    refine⟨hn b hb,neC b hb',okX.exfs b hb',.inl hb',(okX.exf b hb').2,fun p hp=>?_⟩
    rcases List.mem_append.mp hp with hp | hp
    · exact(f2 b hb).2.2.2.2.2 p hp
    · rw[hpl p hp]
      exact Nat.ne_of_gt (lt2 b hb)
  have loop:codeAny (model X.prog X.w) X.A (.compLoop (.ListComp elt [⟨target,iter,[],0⟩] scope pos) 0 (.ref it) (.ref D) (compEnvC scope (cbOf X.env scope h3.objs.size) h3.objs.size X.env))
      (compPost (model X.prog X.w) X.A X.xe none (EP X pins σ Q) (.ref D) h3.objs.size) { s2 with heap:=h₁,toks:=s2.toks+([]:List (Str × Value)).length }:=by
    refine i0t (fun n s'=>∃i ys its k H',Inv (d0n X scope xs h3.objs.size { s2 with heap:=h3 } H2 (D::fp) (X.pn++pins)) [] (σ++List.replicate xs.length none) H' s'∧
      s'.heap.get? D=some { cls:=.type "list",data:=.seq (its:List Value).toArray k }∧Vals ys its∧H' D=none∧tn i s'.heap∧(∀b∈fp,H' b=none)∧W i n ys H') ?_ m0
      ⟨0,[],[],_,H2,I4,k31 _ _ eD3,.nil,fD.1,T.keep _ _ _ st2 (fun b _ o e=>k31 b o (k23 b o e)),fun b hb=>(f2 b hb).1,w0⟩
    rintro n s' ⟨i,ys,its,k,H',I',eD,rv,nD,st,fr,w⟩
    have Ip:=I'.pins_of (pins':=[(D,{ cls:=.type "list",data:=.seq its.toArray k })]) fun p hp=>by
      rw[List.mem_singleton]at hp
      subst hp
      exact⟨eD,nD,neC D mD,okX.exfs D mD,fun v z=>by cases z⟩
    have one:∀p∈[(D,({ cls:=.type "list",data:=.seq its.toArray k }:Obj))],p.1=D:=fun p hp=>by rw[List.mem_singleton]at hp;rw[hp]
    rcases turn i n ys H' w with ⟨stop,hz,q⟩ | ⟨go,hz,step⟩
    · refine thn (T.done (d0n X scope xs h3.objs.size { s2 with heap:=h3 } H2 (D::fp) (X.pn++pins)) rfl rfl rfl hc i _ s' _ H' (fun _ _=>False) Ip (stat fr one) st stop) fun r s4 ⟨hr,J4⟩=>?_
      subst hr
      obtain⟨mm,hnm,_⟩:=J4.loc
      refine⟨mm,hnm,fun h' sb=>?_⟩
      obtain⟨eD4,nD4,_⟩:=J4.pin (D,{ cls:=.type "list",data:=.seq its.toArray k }) (List.mem_append_right _ List.mem_cons_self)
      have hb:∀b o,b≠h3.objs.size→s4.heap.get? b=some o→h'.get? b=some o:=fun b o hn e=>sb.extBut b o hn e
      have u0:Un (frs X.stack) (D::fp) H2 H' h3 s4.heap:=J4.base
      have u:Un (frs X.stack) (D::fp) H2 H' s2.heap h':=((Un.kept k23).trans u0).but hb (by omega)
      have os4:s4.os=s2.os:=J4.os
      refine⟨.ref D,upd H' D (.lst ys),I2.call' (s':={ s4 with heap:=h' }) (ch:=D::fp) os4 (u.track (by omega) nD4) ((J4.hok.but hb J4.free).track nD4 ⟨hz,its,k,rv,hb D _ (neC D mD) eD4⟩) J4.bare (fun b hb=>?_),rfl,q D nD4⟩
      have z:=f3 b hb
      exact⟨z.2.2.2.1,z.2.1,z.2.2.2.2.1,z.2.2.2.2.2⟩
    · refine thn (T.item (d0n X scope xs h3.objs.size { s2 with heap:=h3 } H2 (D::fp) (X.pn++pins)) rfl rfl rfl hc i _ s' _ H' (fun _ _=>False) Ip (stat fr one) st go) fun r s4 ⟨u,hr,h4⟩=>?_
      subst hr
      refine thn h4 fun _ s5 ⟨x,H5,I5,r5,y5,st5,fr5⟩=>?_
      have I5':=I5.pinned (stat fr5 one) (T.obj _ _ st5)
      refine thn (hg _ _ _ _ _ _ s5 _ H5 x u _ I5' r5 (step x H5 y5)) fun _ s6 ⟨σ6,H6,I6,⟨zs,hz6,hl6⟩,q6⟩=>?_
      refine thn (he _ _ _ _ _ _ s6 σ6 H6 _ I6 q6) fun xv s7 ⟨v,H7,I7,r7,m',hm',w7⟩=>?_
      obtain⟨eD7,nD7,_⟩:=I7.pin (D,{ cls:=.type "list",data:=.seq its.toArray k }) (List.mem_append_right _ (List.mem_append_left _ List.mem_cons_self))
      have len:=rv.length
      refine call_meets F.slot_list_append ⟨_,eD7,rfl⟩ F.entry_list_append (F.args_list_append_2 _ _) (PySem.list_append D its.toArray k xv (by rw[List.size_toArray];omega)) ⟨eD7,?_⟩
      have q:=PySem.IsL.update eD7 (fun a=>a.push xv)
      have other:∀b o,b≠D→s7.heap.get? b=some o→(s7.heap.update D (Obj.mapSeq fun a=>a.push xv)).get? b=some o:=fun b o hb e=>(Heap.get?_update_other s7.heap _ (Ne.symm hb)).trans e
      have pinF:∀b∈fp,∀o,s5.heap.get? b=some o→s7.heap.get? b=some o∧H7 b=none:=fun b hb o e=>
        ⟨(I7.pin (b,o) (List.mem_append_right _ (List.mem_append_right _ (d0c hb e)))).1,(I7.pin (b,o) (List.mem_append_right _ (List.mem_append_right _ (d0c hb e)))).2.1⟩
      have I7':=I7.pins_of (pins':=[]) fun p hp=>by cases hp
      have I8:=I7'.turned (t':=s7.toks) (it:=D) other nD7 (neC D mD) (.inl mD) (okX.exf D mD).2 (fun p hp=>by
        rw[List.append_nil]at hp
        exact fD.2.2.2.2.2 p hp)
      have I9:=I8.weak (σ':=σ++List.replicate xs.length none) (by rw[hz6,List.length_append,List.length_append,List.length_replicate,hl6]) (fun j v' e=>by
        have hj:j < σ.length:=by
          by_cases hj:j < σ.length
          · exact hj
          · rw[List.getElem?_append_right (by omega),List.getElem?_replicate]at e
            split at e <;>cases e
        rw[List.getElem?_append_left hj]at e
        rw[hz6,List.getElem?_append_left hj]
        exact e)
      have e9:its.toArray.push xv=(its++[xv]).toArray:=by simp
      rw[e9]at q
      refine⟨m',hm',i+1,ys++[v],its++[xv],_,H7,I9,q,rv.append (.cons r7 .nil),nD7,T.keep _ _ _ st5 (fun b hb o e=>other b o (Nat.ne_of_lt (lt2 b hb)) (pinF b hb o e).1),fun b hb=>?_,w7⟩
      obtain⟨o,e,_⟩:=T.obj _ _ st5 b hb
      exact(pinF b hb o e).2
  exact codeAny_compStart_list loop (T.self _ 0 _ _ _ (T.keep _ _ _ st2 fun b _ o e=>k31 b o (k23 b o e)) loop)
end L2
namespace L2
open PySem PySem.Spec PyProof.Rows
section
variable{X:Cx}{pins:List (Addr × Obj)}{σ:St}{H:Hp}{s:Shared}{i:Nat}{y:Str}
end
end L2
namespace L2
open PySem PySem.Spec PyProof.Rows
end L2
namespace L2
open PySem PySem.Spec PyProof.Rows
theorem e0t{X:Cx}{i₀:Nat}{x₀:Str}{pos₀ pos₁:Pos}{elt target iter:Expr}{scope:Scope}{pos:Pos}{wi:TI}{g:TG}{te:TE}{xs:List Str}(hN:X.N.Nodup)(hi₀:X.N[i₀]? = some x₀)(hx₀:Loc X.env.scope x₀)(hc:X.calm=true)(ok:b0m X.N X.env.scope scope)(hi:PI X target iter wi)
    (hg:∀C s H fp pn,PG (d0n X scope xs C s H fp pn) target g) (he:∀C s H fp pn,PE (d0n X scope xs C s H fp pn) elt te)
    (hs:∀x,foldedSetIterable iter X.env x=pure x:=by intro _;rfl) (hw:swapsWith (.ListComp elt [⟨target,iter,[],0⟩] scope pos) (some (.Name x₀ pos₀)) pos₁.line X.env=pure true:=by rfl)
    (hf₀:X.fn x₀=true∨X.env.scope.names.lookup x₀=some .local:=by first | exact .inl rfl | exact .inr rfl | assumption) :
    PS X (.Assign [.Name x₀ pos₀] (.ListComp elt [⟨target,iter,[],0⟩] scope pos) pos₁) (tAsg (tComp xs.length wi g te) (c0b i₀)):=by
  intro pins s σ H D₀ I h
  rw[exec_Assign_Name_used _ _ _ _ hw]
  refine wpAny_bind (wpAny_standAt (wpAny_bind ?_))
  show wpAny _ _ (comprehension _ _ _ _ _ _ _ _ >>= _) _ _ _
  refine wpAny_bind (wpAny_comprehension_free (Q:=fun _ s'=>wpAny (model X.prog X.w) X.A (pure ()) (fun _ s''=>wpAny (model X.prog X.w) X.A (pure Flow.next) (SP X pins D₀) X.xe s'') X.xe s') (use:=some (assign (.Name x₀ pos₀) X.env)) rfl hs (k0w (h0h I ok)) ok.kind ok.names (thn (hi pins s σ H _ I h) fun v s1 h1=>thn h1 fun itv s2 h2=>?_))
  obtain⟨it,fp,tn,J,H2,rfl,I2,T,st2,f2,W,⟨m0,w0⟩,turn⟩:=h2
  refine wpAny_newObj_type (k0j fun h₁ hns₁ hsb₁ hcl₁=>?_)
  dsimp only at hns₁ hsb₁ hcl₁ ⊢
  generalize hD:s2.heap.objs.size=D
  generalize hH3:s2.heap.push { cls:=.type "list",dict:=none,data:=.seq ([]:List Value).toArray }=h3 at hns₁ hsb₁ hcl₁ ⊢
  have k23:∀b o,s2.heap.get? b=some o→h3.get? b=some o:=fun b o e=>hH3▸Heap.get?_push_of_some _ e
  have hC:h3.objs.size=D+1:=by rw[← hH3,Heap.size_push,hD]
  have eD3:h3.get? D=some { cls:=.type "list",dict:=none,data:=.seq ([]:List Value).toArray }:=by
    rw[← hH3,← hD];exact Heap.get?_push_size _ rfl
  have I3:Inv X pins σ H2 { s2 with heap:=h3 }:=I2.kept (t':=s2.toks) k23
  have fD:FpOk X pins H2 D:=I2.fpOk (by omega) (I2.hok.fresh (by omega))
  have lt2:∀b∈fp,b < D:=fun b hb=>by
    obtain⟨o,e,_⟩:=T.obj 0 _ st2 b hb
    rw[← hD]
    exact Heap.lt_size e
  have f3:∀b∈D::fp,FpOk X pins H2 b:=fun b hb=>by
    rcases List.mem_cons.mp hb with rfl | hb
    · exact fD
    · exact f2 b hb
  have hx3:∀b∈D::fp,b < ({ s2 with heap:=h3 }:Shared).heap.objs.size:=fun b hb=>by
    show b < h3.objs.size
    rcases List.mem_cons.mp hb with rfl | hb
    · rw[hC];exact Nat.lt_succ_self _
    · rw[hC];exact Nat.lt_succ_of_lt (lt2 b hb)
  have k31:∀b o,h3.get? b=some o→h₁.get? b=some o:=hsb₁
  have okX:=comp_ok (C:=h3.objs.size) (xs:=xs) I3 ok f3 hx3 (Nat.le_refl _)
  have I4:=m0b (C:=h3.objs.size) (xs:=xs) (t':=s2.toks+([]:List (Str × Value)).length) I3 ok f3 hx3 (Nat.le_refl _) hns₁ k31 hcl₁
  have mD:D∈D::fp:=List.mem_cons_self
  have neC:∀b∈D::fp,b≠h3.objs.size:=fun b hb=>(okX.exf b hb).1
  have stat:∀{H':Hp} {pl:List (Addr × Obj)},(∀b∈fp,H' b=none)→(∀p∈pl,p.1=D)→∀b∈fp,FpOk (d0n X scope xs h3.objs.size { s2 with heap:=h3 } H2 (D::fp) (X.pn++pins)) pl H' b:=fun hn hpl b hb=>by
    have hb':b∈D::fp:=List.mem_cons_of_mem _ hb
    refine⟨hn b hb,neC b hb',okX.exfs b hb',.inl hb',(okX.exf b hb').2,fun p hp=>?_⟩
    rcases List.mem_append.mp hp with hp | hp
    · exact(f2 b hb).2.2.2.2.2 p hp
    · rw[hpl p hp]
      exact Nat.ne_of_gt (lt2 b hb)
  have loop:codeAny (model X.prog X.w) X.A (.compLoop (.ListComp elt [⟨target,iter,[],0⟩] scope pos) 0 (.ref it) (.ref D) (compEnvC scope (cbOf X.env scope h3.objs.size) h3.objs.size X.env))
      (compPost (model X.prog X.w) X.A X.xe (some (assign (.Name x₀ pos₀) X.env)) (fun _ s'=>wpAny (model X.prog X.w) X.A (pure ()) (fun _ s''=>wpAny (model X.prog X.w) X.A (pure Flow.next) (SP X pins D₀) X.xe s'') X.xe s') (.ref D) h3.objs.size) { s2 with heap:=h₁,toks:=s2.toks+([]:List (Str × Value)).length }:=by
    refine i0t (fun n s'=>∃i ys its k H',Inv (d0n X scope xs h3.objs.size { s2 with heap:=h3 } H2 (D::fp) (X.pn++pins)) [] (σ++List.replicate xs.length none) H' s'∧
      s'.heap.get? D=some { cls:=.type "list",data:=.seq (its:List Value).toArray k }∧Vals ys its∧H' D=none∧tn i s'.heap∧(∀b∈fp,H' b=none)∧W i n ys H') ?_ m0
      ⟨0,[],[],_,H2,I4,k31 _ _ eD3,.nil,fD.1,T.keep _ _ _ st2 (fun b _ o e=>k31 b o (k23 b o e)),fun b hb=>(f2 b hb).1,w0⟩
    rintro n s' ⟨i,ys,its,k,H',I',eD,rv,nD,st,fr,w⟩
    have Ip:=I'.pins_of (pins':=[(D,{ cls:=.type "list",data:=.seq its.toArray k })]) fun p hp=>by
      rw[List.mem_singleton]at hp
      subst hp
      exact⟨eD,nD,neC D mD,okX.exfs D mD,fun v z=>by cases z⟩
    have one:∀p∈[(D,({ cls:=.type "list",data:=.seq its.toArray k }:Obj))],p.1=D:=fun p hp=>by rw[List.mem_singleton]at hp;rw[hp]
    rcases turn i n ys H' w with ⟨stop,hz,q⟩ | ⟨go,hz,step⟩
    · refine thn (T.done (d0n X scope xs h3.objs.size { s2 with heap:=h3 } H2 (D::fp) (X.pn++pins)) rfl rfl rfl hc i _ s' _ H' (fun _ _=>False) Ip (stat fr one) st stop) fun r s4 ⟨hr,J4⟩=>?_
      subst hr
      obtain⟨mm,hnm,_⟩:=J4.loc
      obtain⟨eD4,nD4,_⟩:=J4.pin (D,{ cls:=.type "list",data:=.seq its.toArray k }) (List.mem_append_right _ List.mem_cons_self)
      have u0:Un (frs X.stack) (D::fp) H2 H' h3 s4.heap:=J4.base
      have u:Un (frs X.stack) (D::fp) H2 H' s2.heap s4.heap:=(Un.kept k23).trans u0
      have os4:s4.os=s2.os:=J4.os
      have nC4:H' h3.objs.size=none:=J4.free
      have IX:Inv X pins σ (upd H' D (.lst ys)) s4:=I2.call' (s':=s4) (ch:=D::fp) os4 (u.track (by omega) nD4) (J4.hok.track nD4 ⟨hz,its,k,rv,eD4⟩) J4.bare (fun b hb=>by
        have z:=f3 b hb
        exact⟨z.2.2.2.1,z.2.1,z.2.2.2.2.1,z.2.2.2.2.2⟩)
      have fC:FpOk X pins H2 h3.objs.size:=I2.fpOk (by omega) (I2.hok.fresh (by omega))
      have nCX:upd H' D (.lst ys) h3.objs.size=none:=by rw[b0b (Ne.symm (neC D mD))];exact nC4
      refine wpAny_assign_Name (store_ok2 IX hN hi₀ hx₀ (v:=.ref D) rfl (fun s5 I5 ⟨a5,sb5,ha5⟩=>⟨mm,?_,fun h' sb=>?_⟩) hf₀)
      · have:h3.objs.size≠a5:=by
          rcases ha5 with e | e
          · rw[e];exact fC.2.1
          · exact Ne.symm (fC.2.2.2.2.1 x₀ a5 e)
        obtain⟨o,es,ep,e,r⟩:=hnm
        exact⟨o,es,ep,sb5.extBut _ _ this e,r⟩
      · have I6:Inv X pins (σ.set i₀ (some (.ref D))) (upd H' D (.lst ys)) { s5 with heap:=h' }:=I5.turned (t':=s5.toks) (it:=h3.objs.size) (fun b o hb e=>sb.extBut b o hb e) nCX fC.2.1 fC.2.2.2.1 fC.2.2.2.2.1 fC.2.2.2.2.2
        exact wpAny_pure (wpAny_pure ⟨_,_,I6,q D nD4⟩)
    · refine thn (T.item (d0n X scope xs h3.objs.size { s2 with heap:=h3 } H2 (D::fp) (X.pn++pins)) rfl rfl rfl hc i _ s' _ H' (fun _ _=>False) Ip (stat fr one) st go) fun r s4 ⟨u,hr,h4⟩=>?_
      subst hr
      refine thn h4 fun _ s5 ⟨x,H5,I5,r5,y5,st5,fr5⟩=>?_
      have I5':=I5.pinned (stat fr5 one) (T.obj _ _ st5)
      refine thn (hg _ _ _ _ _ _ s5 _ H5 x u _ I5' r5 (step x H5 y5)) fun _ s6 ⟨σ6,H6,I6,⟨zs,hz6,hl6⟩,q6⟩=>?_
      refine thn (he _ _ _ _ _ _ s6 σ6 H6 _ I6 q6) fun xv s7 ⟨v,H7,I7,r7,m',hm',w7⟩=>?_
      obtain⟨eD7,nD7,_⟩:=I7.pin (D,{ cls:=.type "list",data:=.seq its.toArray k }) (List.mem_append_right _ (List.mem_append_left _ List.mem_cons_self))
      have len:=rv.length
      refine call_meets F.slot_list_append ⟨_,eD7,rfl⟩ F.entry_list_append (F.args_list_append_2 _ _) (PySem.list_append D its.toArray k xv (by rw[List.size_toArray];omega)) ⟨eD7,?_⟩
      have q:=PySem.IsL.update eD7 (fun a=>a.push xv)
      have other:∀b o,b≠D→s7.heap.get? b=some o→(s7.heap.update D (Obj.mapSeq fun a=>a.push xv)).get? b=some o:=fun b o hb e=>(Heap.get?_update_other s7.heap _ (Ne.symm hb)).trans e
      have pinF:∀b∈fp,∀o,s5.heap.get? b=some o→s7.heap.get? b=some o∧H7 b=none:=fun b hb o e=>
        ⟨(I7.pin (b,o) (List.mem_append_right _ (List.mem_append_right _ (d0c hb e)))).1,(I7.pin (b,o) (List.mem_append_right _ (List.mem_append_right _ (d0c hb e)))).2.1⟩
      have I7':=I7.pins_of (pins':=[]) fun p hp=>by cases hp
      have I8:=I7'.turned (t':=s7.toks) (it:=D) other nD7 (neC D mD) (.inl mD) (okX.exf D mD).2 (fun p hp=>by
        rw[List.append_nil]at hp
        exact fD.2.2.2.2.2 p hp)
      have I9:=I8.weak (σ':=σ++List.replicate xs.length none) (by rw[hz6,List.length_append,List.length_append,List.length_replicate,hl6]) (fun j v' e=>by
        have hj:j < σ.length:=by
          by_cases hj:j < σ.length
          · exact hj
          · rw[List.getElem?_append_right (by omega),List.getElem?_replicate]at e
            split at e <;>cases e
        rw[List.getElem?_append_left hj]at e
        rw[hz6,List.getElem?_append_left hj]
        exact e)
      have e9:its.toArray.push xv=(its++[xv]).toArray:=by simp
      rw[e9]at q
      refine⟨m',hm',i+1,ys++[v],its++[xv],_,H7,I9,q,rv.append (.cons r7 .nil),nD7,T.keep _ _ _ st5 (fun b hb o e=>other b o (Nat.ne_of_lt (lt2 b hb)) (pinF b hb o e).1),fun b hb=>?_,w7⟩
      obtain⟨o,e,_⟩:=T.obj _ _ st5 b hb
      exact(pinF b hb o e).2
  exact codeAny_compStart_list loop (T.self _ 0 _ _ _ (T.keep _ _ _ st2 fun b _ o e=>k31 b o (k23 b o e)) loop)
end L2
namespace L2
open PySem PySem.Spec PyProof.Rows
section
variable{prog:Program}{w:World}{A:Around}{E:Value→Shared→Prop}{s:Shared}
theorem nextT_item{I t:Addr}{i:Nat}{vs:Array Value}{x:Value}{Q:Value→Shared→Prop}(hI:s.heap.IsTupleIter I t i)(ht:s.heap.IsTuple t vs)(e:vs[i]? = some x)
    (q:∀h',h'.IsTupleIter I t (i+1)→Heap.SameBut I s.heap h'→Q x { s with heap:=h' }):wpAny (model prog w) A (Builtin.SmallTypes.nextOf (.ref I)) Q E s:=by
  obtain⟨o,eo,co,fo⟩:=id hI;obtain⟨u,eu,_,n,fu⟩:=ht;unfold Builtin.SmallTypes.nextOf
  refine wpAny_bind (wpAny_callSpecial?_slot (name:=Str.ofString "__next__") hI.typeIs F.slot_tuple_iterator_next (wpAny_call_entry F.slot_tuple_iterator_next hI.typeIs F.entry_tuple_iterator_next ?_ (F.args_tuple_iterator_next_1 _)))
  show wpAny _ _ (field (.ref I) 0 >>= _) _ _ s
  refine wpAny_bind (wpAny_field eo fo (x:=.ref t) rfl ?_);show wpAny _ _ (if(Value.ref t == Value.none)=true then _ else _) _ _ s
  rw[if_neg (show ¬((Value.ref t == Value.none)=true)from Bool.false_ne_true)];show wpAny _ _ (field (.ref I) 1 >>= _) _ _ s
  refine wpAny_bind (wpAny_field eo fo (x:=.int i 0) rfl ?_);show wpAny _ _ (seqItems? (.ref t) >>= _) _ _ s
  refine wpAny_bind (wpAny_seqItems eu fu ?_);simp only[Int.toNat_natCast,e]
  refine wpAny_bind (wpAny_setField eo fo (by simp) (wpAny_pure ⟨x,rfl,wpAny_pure (q _ ?_ (Heap.SameBut.update ..))⟩))
  exact⟨_,Heap.get?_update_self _ eo (Obj.isFreed_of_fields (Obj.data_mapFields fo _)),(Obj.cls_mapFields ..).trans co,by rw[Obj.data_mapFields fo];simp[rawInt]⟩
theorem nextT_end{I t:Addr}{i:Nat}{vs:Array Value}{Q:Value→Shared→Prop}(hh:A.handled=none)(hI:s.heap.IsTupleIter I t i)(ht:s.heap.IsTuple t vs)(e:vs[i]? = none)
    (q:∀h' x,Heap.ExtBut I s.heap h'→(∃o,h'.get? x=some o∧o.cls=.type "StopIteration")→E (.ref x) { s with heap:=h' }):wpAny (model prog w) A (Builtin.SmallTypes.nextOf (.ref I)) Q E s:=by
  obtain⟨o,eo,co,fo⟩:=id hI;obtain⟨u,eu,_,n,fu⟩:=ht;unfold Builtin.SmallTypes.nextOf
  refine wpAny_bind (wpAny_callSpecial?_slot (name:=Str.ofString "__next__") hI.typeIs F.slot_tuple_iterator_next (wpAny_call_entry F.slot_tuple_iterator_next hI.typeIs F.entry_tuple_iterator_next ?_ (F.args_tuple_iterator_next_1 _)))
  show wpAny _ _ (field (.ref I) 0 >>= _) _ _ s
  refine wpAny_bind (wpAny_field eo fo (x:=.ref t) rfl ?_);show wpAny _ _ (if(Value.ref t == Value.none)=true then _ else _) _ _ s
  rw[if_neg (show ¬((Value.ref t == Value.none)=true)from Bool.false_ne_true)];show wpAny _ _ (field (.ref I) 1 >>= _) _ _ s
  refine wpAny_bind (wpAny_field eo fo (x:=.int i 0) rfl ?_);show wpAny _ _ (seqItems? (.ref t) >>= _) _ _ s
  refine wpAny_bind (wpAny_seqItems eu fu ?_);simp only[Int.toNat_natCast,e]
  refine wpAny_bind (wpAny_rule (wpAny_bind (wpAny_setField eo fo (by simp) ?_)));show wpAny _ _ (newExc (.type "StopIteration") [] >>= _) _ _ _
  refine wpAny_bind ?_;simp only[newExc,newTuple]
  refine wpAny_bind (wpAny_newObj_type ?_ (by size_fits));refine wpAny_bind (m:=firstArgMember _ _) (wpAny_of_eq (a:=Value.none) (by first | rfl | (simp only[firstArgMember];rfl)) ?_)
  refine wpAny_newObj_type ?_ (by size_fits);simp only[raiseNew];refine wpAny_bind (wpAny_handled ?_)
  first | rw[show A.in1.handled=none from hh] | rw[hh]
  refine wpAny_bind (wpAny_pure (wpAny_throw ?_));exact q _ _ (((Heap.SameBut.update ..).extBut.push _).push _) ⟨_,Heap.get?_push_size _ rfl,rfl⟩
end
inductive Sr
  | lst (a:Addr)
  | tup (a:Addr)
  | str (x:Str)
def Sr.it:Sr→Heap→Addr→Nat→Prop
  | .lst a,h,I,i=>h.IsListIter I a i
  | .tup a,h,I,i=>h.IsTupleIter I a i
  | .str x,h,I,i=>∃t,h.IsStrIter I (strIterType x) x t i
def Sr.has:Sr→Heap→Array Value→Prop
  | .lst a,h,vs=>h.IsList a vs
  | .tup a,h,vs=>h.IsTuple a vs
  | .str x,_,vs=>vs.size=x.cps.size
def Sr.is:Sr→Array Value→Nat→Value→Prop
  | .lst _,vs,i,v=>vs[i]? = some v
  | .tup _,vs,i,v=>vs[i]? = some v
  | .str x,_,i,v=>∃c u,x.cps[i]? = some c∧v=.str ⟨#[c]⟩ u
def Sr.fp:Sr→Addr→List Addr
  | .lst a,I=>[I,a]
  | .tup a,I=>[I,a]
  | .str _,I=>[I]
def Sr.off:Sr→Addr→Prop
  | .lst a,I=>a≠I
  | .tup a,I=>a≠I
  | .str _,_=>True
theorem Sr.it.mv{S:Sr}{h h':Heap}{I:Addr}{i:Nat}(x:S.it h I i)(k:∀o,h.get? I=some o→h'.get? I=some o):S.it h' I i:=by
  cases S with
  | lst a=>obtain⟨o,e,r⟩:=x;exact⟨o,k o e,r⟩
  | tup a=>obtain⟨o,e,r⟩:=x;exact⟨o,k o e,r⟩
  | str z=>obtain⟨t,o,e,r⟩:=x;exact⟨t,o,k o e,r⟩
theorem Sr.it.obj{S:Sr}{h:Heap}{I:Addr}{i:Nat}(x:S.it h I i):∃o,h.get? I=some o∧∀v,o.data≠.cell v:=by
  cases S with
  | lst a=>obtain⟨o,e,_,d⟩:=x;exact⟨o,e,fun v z=>by rw[d]at z;cases z⟩
  | tup a=>obtain⟨o,e,_,d⟩:=x;exact⟨o,e,fun v z=>by rw[d]at z;cases z⟩
  | str z=>obtain⟨t,o,e,_,d⟩:=x;exact⟨o,e,fun v z=>by rw[d]at z;cases z⟩
theorem Sr.has.mv{S:Sr}{h h':Heap}{vs:Array Value}{I:Addr}(x:S.has h vs)(k:∀b o,b≠I→h.get? b=some o→h'.get? b=some o)(off:S.off I):S.has h' vs:=by
  cases S with
  | lst a=>obtain⟨o,e,r⟩:=x;exact⟨o,k a o off e,r⟩
  | tup a=>obtain⟨o,e,r⟩:=x;exact⟨o,k a o off e,r⟩
  | str z=>exact x
theorem Sr.draws{prog:Program}{w:World}{A:Around}(S:Sr)(hh:A.handled=none)(I:Addr)(off:S.off I)(vs:Array Value) :
    Draws prog w A I (S.fp I) vs.size (S.is vs) (fun i h=>S.it h I i∧S.has h vs):=by
  cases S with
  | lst a=>exact Draws.list hh I a off vs
  | tup a=>exact{
      live:=fun _ _ st=>let⟨o,e,_⟩:=st.1;⟨o,e⟩
      frame:=fun _ _ _ st k=>⟨let⟨o,e,r⟩:=st.1;⟨o,k I (by simp[Sr.fp]) o e,r⟩,let⟨o,e,r⟩:=st.2;⟨o,k a (by simp[Sr.fp]) o e,r⟩⟩
      item:=fun i s Q E hi st q=>nextT_item st.1 st.2 (x:=vs[i]) (by simp[hi]) fun h' a' b'=>q _ h' s.toks (show vs[i]? = some vs[i] by simp[hi]) ⟨a',Heap.IsTuple.extBut st.2 b'.extBut off⟩ b'
      done:=fun s Q E st q=>nextT_end hh st.1 st.2 (by simp) q }
  | str x=>
    cases ha:x.cps.all (· < 128)with
    | true=>
      have e:strIterType x="str_ascii_iterator":=by simp[strIterType,ha]
      exact{
        live:=fun _ _ st=>let⟨_,o,e,_⟩:=st.1;⟨o,e⟩
        frame:=fun _ _ _ st k=>⟨let⟨t,o,e,r⟩:=st.1;⟨t,o,k I (by simp[Sr.fp]) o e,r⟩,st.2⟩
        item:=fun i s Q E hi st q=>by
          obtain⟨⟨t,g⟩,z⟩:=st
          have hz:vs.size=x.cps.size:=z
          rw[e]at g
          exact(Draws.strAscii (prog:=prog) (w:=w) hh I x t).item i s Q E (by omega) g fun v h' tk p st' sb=>q v h' tk p ⟨⟨t,by rw[e];exact st'⟩,z⟩ sb
        done:=fun s Q E st q=>by
          obtain⟨⟨t,g⟩,z⟩:=st
          have hz:vs.size=x.cps.size:=z
          rw[e,hz]at g
          exact(Draws.strAscii (prog:=prog) (w:=w) hh I x t).done s Q E g q }
    | false=>
      have e:strIterType x="str_iterator":=by simp[strIterType,ha]
      exact{
        live:=fun _ _ st=>let⟨_,o,e,_⟩:=st.1;⟨o,e⟩
        frame:=fun _ _ _ st k=>⟨let⟨t,o,e,r⟩:=st.1;⟨t,o,k I (by simp[Sr.fp]) o e,r⟩,st.2⟩
        item:=fun i s Q E hi st q=>by
          obtain⟨⟨t,g⟩,z⟩:=st
          have hz:vs.size=x.cps.size:=z
          rw[e]at g
          exact(Draws.strWide (prog:=prog) (w:=w) hh I x t).item i s Q E (by omega) g fun v h' tk p st' sb=>q v h' tk p ⟨⟨t,by rw[e];exact st'⟩,z⟩ sb
        done:=fun s Q E st q=>by
          obtain⟨⟨t,g⟩,z⟩:=st
          have hz:vs.size=x.cps.size:=z
          rw[e,hz]at g
          exact(Draws.strWide (prog:=prog) (w:=w) hh I x t).done s Q E g q }
end L2
namespace L2
open PySem PySem.Spec PyProof.Rows
structure ZA(S1 S2:Sr)(z TI TO i1 i2:Addr):Prop where
  a:TI≠z
  b:TO≠z
  c:i1≠z
  d:i2≠z
  e:TI≠TO
  f:TI≠i1
  g:TI≠i2
  h:TO≠i1
  i:TO≠i2
  j:i1≠i2
  k:∀x∈[z,TO,i1,i2],S1.off x∧S2.off x
structure ZS(S1 S2:Sr)(v1 v2:Array Value)(z TI TO i1 i2:Addr)(n:Nat)(u:Value)(h:Heap):Prop where
  z:IsZip h z TI TO u
  ti:IsPair h TI (.ref i1) (.ref i2)
  to:∃x y,IsPair h TO x y
  s1:S1.it h i1 n
  s2:S2.it h i2 n
  h1:S1.has h v1
  h2:S2.has h v2
section
variable{prog:Program}{w:World}{A:Around}{E:Value→Shared→Prop}{s:Shared}{S1 S2:Sr}{v1 v2:Array Value}{z TI TO i1 i2:Addr}{n:Nat}
theorem zip_item(D:ZA S1 S2 z TI TO i1 i2)(hh:A.handled=none)(Z:ZS S1 S2 v1 v2 z TI TO i1 i2 n .none s.heap)(l1:n < v1.size)(l2:n < v2.size){Q:Value→Shared→Prop}
    (q:∀x y h' tk,S1.is v1 n x→S2.is v2 n y→ZS S1 S2 v1 v2 z TI TO i1 i2 (n+1) (rawInt s.heap.objs.size) h'→IsPair h' s.heap.objs.size x y→h'.objs.size=s.heap.objs.size+1→
      (∀c o,c≠z→c≠TO→c≠i1→c≠i2→s.heap.get? c=some o→h'.get? c=some o)→Q (.ref s.heap.objs.size) { s with heap:=h',toks:=tk }) :
    wpAny (model prog w) A (Builtin.«zip.__next__» ⟨[.ref z],[]⟩) (fun fin s'=>∃v,fin=.done (.ret v)∧Q v s') E s:=by
  obtain⟨hp,g0,d0,tk0,os0⟩:=s
  obtain⟨Zz,Zi,⟨x0,y0,Zo⟩,Z1,Z2,Y1,Y2⟩:=Z
  have oz:=D.k z (by simp);have oT:=D.k TO (by simp);have o1:=D.k i1 (by simp);have o2:=D.k i2 (by simp)
  show wpAny _ _ (field (.ref z) 2 >>= _) _ _ _
  refine wpAny_bind (wpAny_field Zz rfl (x:=.bool false) rfl ?_);show wpAny _ _ (field (.ref z) 3 >>= _) _ _ _
  refine wpAny_bind (wpAny_field Zz rfl (x:=.ref TI) rfl ?_);refine wpAny_bind (wpAny_seqItems Zi rfl ?_)
  show wpAny _ _ (Builtin.SmallTypes.ownedTupleIsFree (.ref z) >>= _) _ _ _
  refine wpAny_bind ?_;unfold Builtin.SmallTypes.ownedTupleIsFree
  refine wpAny_bind (wpAny_field Zz rfl (x:=.none) rfl (wpAny_pure ?_));simp only[if_true];refine wpAny_bind (wpAny_rule ?_)
  refine wpAny_bind (wpAny_field Zz rfl (x:=.ref TO) rfl ?_)
  refine wpAny_bind (wpAny_setField_rec Zz (by simp) fun g1 Za b1=>?_)
  replace Za:IsZip g1 z TI TO .ellipsis:=Za
  replace b1:Heap.SameBut z hp g1:=b1
  refine wpAny_bind ?_;simp only[List.zipIdx_cons,List.zipIdx_nil,List.forIn_cons,List.forIn_nil]
  refine wpAny_bind (wpAny_bind (wpAny_onRaise ?_));show wpAny _ _ (Builtin.SmallTypes.nextOf (.ref i1) >>= _) _ _ _
  refine wpAny_bind ((S1.draws hh i1 o1.1 v1).item n _ _ _ l1 ⟨Z1.mv fun o e=>b1.extBut _ _ D.c e,Y1.mv (fun b o hb e=>b1.extBut _ _ hb e) oz.1⟩ fun x g2 k2 px st2 b2=>wpAny_pure ?_)
  replace b2:Heap.SameBut i1 g1 g2:=b2
  have To2:IsPair g2 TO x0 y0:=b2.extBut _ _ D.h (b1.extBut _ _ D.b Zo)
  refine wpAny_bind (wpAny_seqItems To2 rfl ?_);refine wpAny_bind (wpAny_updateSeq_pair To2 fun g3 To3 b3=>?_)
  replace To3:IsPair g3 TO x y0:=To3
  replace b3:Heap.SameBut TO g2 g3:=b3
  refine wpAny_bind (wpAny_letGo (wpAny_pure ?_))
  refine wpAny_bind (wpAny_bind (wpAny_onRaise ?_));show wpAny _ _ (Builtin.SmallTypes.nextOf (.ref i2) >>= _) _ _ _
  refine wpAny_bind ((S2.draws hh i2 o2.2 v2).item n _ _ _ l2 ⟨Z2.mv fun o e=>b3.extBut _ _ D.i.symm (b2.extBut _ _ D.j.symm (b1.extBut _ _ D.d e)),
    ((Y2.mv (fun b o hb e=>b1.extBut _ _ hb e) oz.2).mv (fun b o hb e=>b2.extBut _ _ hb e) o1.2).mv (fun b o hb e=>b3.extBut _ _ hb e) oT.2⟩ fun y g4 k4 py st4 b4=>wpAny_pure ?_)
  replace b4:Heap.SameBut i2 g3 g4:=b4
  have To4:IsPair g4 TO x y0:=b4.extBut _ _ D.i To3
  refine wpAny_bind (wpAny_seqItems To4 rfl ?_);refine wpAny_bind (wpAny_updateSeq_pair To4 fun g5 To5 b5=>?_)
  replace To5:IsPair g5 TO x y:=To5
  replace b5:Heap.SameBut TO g4 g5:=b5
  refine wpAny_bind (wpAny_letGo (wpAny_pure (wpAny_pure ?_)))
  refine wpAny_bind (wpAny_seqItems To5 rfl ?_);refine wpAny_bind (wpAny_newTuple ?_)
  have sz:g5.objs.size=hp.objs.size:=by rw[b5.1,b4.1,b3.1,b2.1,b1.1]
  have Z5:IsZip g5 z TI TO .ellipsis:=b5.extBut _ _ D.b.symm (b4.extBut _ _ D.d.symm (b3.extBut _ _ D.b.symm (b2.extBut _ _ D.c.symm Za)))
  have up5:∀c o,c≠z→c≠TO→c≠i1→c≠i2→hp.get? c=some o→g5.get? c=some o:=fun c o n1 n2 n3 n4 e=>b5.extBut _ _ n2 (b4.extBut _ _ n4 (b3.extBut _ _ n2 (b2.extBut _ _ n3 (b1.extBut _ _ n1 e))))
  have I1:S1.it g5 i1 (n+1):=st2.1.mv fun o e=>b5.extBut _ _ D.h.symm (b4.extBut _ _ D.j (b3.extBut _ _ D.h.symm e))
  have I2:S2.it g5 i2 (n+1):=st4.1.mv fun o e=>b5.extBut _ _ D.i.symm e
  have H1:S1.has g5 v1:=((st2.2.mv (fun b o hb e=>b3.extBut _ _ hb e) oT.1).mv (fun b o hb e=>b4.extBut _ _ hb e) o2.1).mv (fun b o hb e=>b5.extBut _ _ hb e) oT.1
  have H2:S2.has g5 v2:=st4.2.mv (fun b o hb e=>b5.extBut _ _ hb e) oT.2
  have zlt:z < g5.objs.size:=Heap.lt_size Z5
  show wpAny _ _ (Builtin.SmallTypes.ownedTupleHandOut (.ref z) (.ref g5.objs.size) >>= _) _ _ _
  refine wpAny_bind ?_;unfold Builtin.SmallTypes.ownedTupleHandOut
  have Z6:IsZip (g5.push { cls:=.type "tuple",data:=.seq #[x,y] }) z TI TO .ellipsis:=Heap.get?_push_of_some _ Z5
  refine wpAny_bind (wpAny_setField_rec Z6 (by simp) fun g7 Z7 b7=>?_)
  replace Z7:IsZip g7 z TI TO (rawInt g5.objs.size):=Z7
  refine wpAny_setField_rec Z7 (by simp) fun g8 Z8 b8=>?_
  replace Z8:IsZip g8 z TI TO (rawInt g5.objs.size):=Z8
  have up:∀c o,c≠z→g5.get? c=some o→g8.get? c=some o:=fun c o n1 e=>b8.extBut _ _ n1 (b7.extBut _ _ n1 (Heap.get?_push_of_some _ e))
  have T8:IsPair g8 g5.objs.size x y:=b8.extBut _ _ (Nat.ne_of_gt zlt) (b7.extBut _ _ (Nat.ne_of_gt zlt) (Heap.get?_push_size _ rfl))
  have sz8:g8.objs.size=g5.objs.size+1:=by rw[b8.1,b7.1,Heap.size_push]
  rw[sz]at Z8 T8 sz8
  refine wpAny_pure ⟨_,rfl,?_⟩
  show Q (.ref g5.objs.size) _
  rw[sz]
  exact q x y g8 k4 px py ⟨Z8,up _ _ D.a (up5 _ _ D.a D.e D.f D.g Zi),⟨_,_,up _ _ D.b To5⟩,I1.mv fun o e=>up _ o D.c e,I2.mv fun o e=>up _ o D.d e,
    H1.mv (fun b o hb e=>up b o hb e) oz.1,H2.mv (fun b o hb e=>up b o hb e) oz.2⟩ T8 sz8 fun c o n1 n2 n3 n4 e=>up c o n1 (up5 c o n1 n2 n3 n4 e)
theorem zip_end(D:ZA S1 S2 z TI TO i1 i2)(hh:A.handled=none)(Z:ZS S1 S2 v1 v2 z TI TO i1 i2 n .none s.heap)(l:n=v1.size∨(n < v1.size∧n=v2.size)){Q:Fin→Shared→Prop}
    (q:∀h' x tk,(∀c o,c≠z→c≠TO→c≠i1→c≠i2→s.heap.get? c=some o→h'.get? c=some o)→(∃o,h'.get? x=some o∧o.cls=.type "StopIteration")→E (.ref x) { s with heap:=h',toks:=tk }) :
    wpAny (model prog w) A (Builtin.«zip.__next__» ⟨[.ref z],[]⟩) Q E s:=by
  obtain⟨hp,g0,d0,tk0,os0⟩:=s
  obtain⟨Zz,Zi,⟨x0,y0,Zo⟩,Z1,Z2,Y1,Y2⟩:=Z
  have oz:=D.k z (by simp);have oT:=D.k TO (by simp);have o1:=D.k i1 (by simp);have o2:=D.k i2 (by simp)
  show wpAny _ _ (field (.ref z) 2 >>= _) _ _ _
  refine wpAny_bind (wpAny_field Zz rfl (x:=.bool false) rfl ?_);show wpAny _ _ (field (.ref z) 3 >>= _) _ _ _
  refine wpAny_bind (wpAny_field Zz rfl (x:=.ref TI) rfl ?_);refine wpAny_bind (wpAny_seqItems Zi rfl ?_)
  show wpAny _ _ (Builtin.SmallTypes.ownedTupleIsFree (.ref z) >>= _) _ _ _
  refine wpAny_bind ?_;unfold Builtin.SmallTypes.ownedTupleIsFree
  refine wpAny_bind (wpAny_field Zz rfl (x:=.none) rfl (wpAny_pure ?_));simp only[if_true];refine wpAny_bind (wpAny_rule ?_)
  refine wpAny_bind (wpAny_field Zz rfl (x:=.ref TO) rfl ?_)
  refine wpAny_bind (wpAny_setField_rec Zz (by simp) fun g1 Za b1=>?_)
  replace Za:IsZip g1 z TI TO .ellipsis:=Za
  replace b1:Heap.SameBut z hp g1:=b1
  refine wpAny_bind ?_;simp only[List.zipIdx_cons,List.zipIdx_nil,List.forIn_cons,List.forIn_nil]
  have W1:S1.it g1 i1 n∧S1.has g1 v1:=⟨Z1.mv fun o e=>b1.extBut _ _ D.c e,Y1.mv (fun b o hb e=>b1.extBut _ _ hb e) oz.1⟩
  refine wpAny_bind (wpAny_bind (wpAny_onRaise ?_));show wpAny _ _ (Builtin.SmallTypes.nextOf (.ref i1) >>= _) _ _ _
  rcases l with l | ⟨l1,l2⟩
  · refine wpAny_bind ((S1.draws hh i1 o1.1 v1).done _ _ _ (l▸W1) fun g2 x b2 ⟨ox,ex,cx⟩=>?_)
    have Zb:IsZip g2 z TI TO .ellipsis:=b2 _ _ D.c.symm Za
    have xz:x≠z:=fun e=>by subst e;rw[Zb]at ex;cases ex;simp at cx
    refine wpAny_setField_rec Zb (by simp) fun g3 _ b3=>q g3 x tk0 (fun c o n1 _ n3 _ e=>b3.extBut _ _ n1 (b2 _ _ n3 (b1.extBut _ _ n1 e))) ⟨ox,b3.extBut _ _ xz ex,cx⟩
  · refine wpAny_bind ((S1.draws hh i1 o1.1 v1).item n _ _ _ l1 W1 fun x g2 k2 px st2 b2=>wpAny_pure ?_)
    replace b2:Heap.SameBut i1 g1 g2:=b2
    have To2:IsPair g2 TO x0 y0:=b2.extBut _ _ D.h (b1.extBut _ _ D.b Zo)
    refine wpAny_bind (wpAny_seqItems To2 rfl ?_);refine wpAny_bind (wpAny_updateSeq_pair To2 fun g3 To3 b3=>?_)
    replace b3:Heap.SameBut TO g2 g3:=b3
    refine wpAny_bind (wpAny_letGo (wpAny_pure ?_));refine wpAny_bind (wpAny_bind (wpAny_onRaise ?_));show wpAny _ _ (Builtin.SmallTypes.nextOf (.ref i2) >>= _) _ _ _
    refine wpAny_bind ((S2.draws hh i2 o2.2 v2).done _ _ _ (l2▸⟨Z2.mv fun o e=>b3.extBut _ _ D.i.symm (b2.extBut _ _ D.j.symm (b1.extBut _ _ D.d e)),
      ((Y2.mv (fun b o hb e=>b1.extBut _ _ hb e) oz.2).mv (fun b o hb e=>b2.extBut _ _ hb e) o1.2).mv (fun b o hb e=>b3.extBut _ _ hb e) oT.2⟩) fun g4 x' b4 ⟨ox,ex,cx⟩=>?_)
    have Zb:IsZip g4 z TI TO .ellipsis:=b4 _ _ D.d.symm (b3.extBut _ _ D.b.symm (b2.extBut _ _ D.c.symm Za))
    have xz:x'≠z:=fun e=>by subst e;rw[Zb]at ex;cases ex;simp at cx
    refine wpAny_setField_rec Zb (by simp) fun g5 _ b5=>q g5 x' k2 (fun c o n1 n2 n3 n4 e=>b5.extBut _ _ n1 (b4 _ _ n4 (b3.extBut _ _ n2 (b2.extBut _ _ n3 (b1.extBut _ _ n1 e))))) ⟨ox,b5.extBut _ _ xz ex,cx⟩
end
def Begins(h:Heap)(v:Value)(o:Obj):Prop:=∀(prog:Program) (w:World) (A:Around) (E:Value→Shared→Prop) (s:Shared) (Q:Value→Shared→Prop),(∀b u,h.get? b=some u→s.heap.get? b=some u)→
  Q (.ref s.heap.objs.size) { s with heap:=s.heap.push o }→wpAny (model prog w) A (pyIter v) Q E s
def Sr.val:Sr→Value→Prop
  | .lst a,v=>v=.ref a
  | .tup a,v=>v=.ref a
  | .str x,v=>∃t,v=.str x t
theorem Sr.begins{S:Sr}{h:Heap}{v:Value}{vs:Array Value}(e:S.val v)(x:S.has h vs):∃o:Obj,Begins h v o∧o.isFreed=false∧∀(h':Heap) (I:Addr),h'.get? I=some o→S.it h' I 0:=by
  cases S with
  | lst a=>
    cases (show v=.ref a from e)
    exact⟨_,fun _ _ _ _ s Q k q=>wpAny_pyIter_list (let⟨o,e,r⟩:=x;⟨o,k a o e,r⟩) q,rfl,fun h' I e=>⟨_,e,rfl,rfl⟩⟩
  | tup a=>
    cases (show v=.ref a from e)
    exact⟨_,fun _ _ _ _ s Q k q=>wpAny_pyIter_tuple (let⟨o,e,r⟩:=x;⟨o,k a o e,r⟩) q,rfl,fun h' I e=>⟨_,e,rfl,rfl⟩⟩
  | str z=>
    obtain⟨t,rfl⟩:=(show ∃t,v=.str z t from e)
    exact⟨_,fun _ _ _ _ s Q k q=>wpAny_pyIter_strU q,rfl,fun h' I e=>⟨t,_,e,rfl,rfl⟩⟩
abbrev zh2(h:Heap)(o1 o2:Obj):Heap:=(h.push o1).push o2
abbrev zh3(h:Heap)(o1 o2:Obj):Heap:=(zh2 h o1 o2).push { cls:=.type "tuple",data:=.seq #[.ref h.objs.size,.ref (h.push o1).objs.size] }
abbrev zh4(h:Heap)(o1 o2:Obj):Heap:=(zh3 h o1 o2).push { cls:=.type "tuple",data:=.seq #[.none,.none] }
abbrev zh5(h:Heap)(o1 o2:Obj):Heap:=(zh4 h o1 o2).push { cls:=.type "zip",data:=.fields #[.none,.bool false,.bool false,.ref (zh2 h o1 o2).objs.size,.ref (zh3 h o1 o2).objs.size] }
theorem zip_new(a b:Value)(o1 o2:Obj):Meets (Builtin.«zip.__new__» ⟨[.type "zip",a,b],[]⟩) (fun _ R s=>Begins s.heap a o1∧Begins s.heap b o2∧
      R (.ok (.ret (.ref (zh4 s.heap o1 o2).objs.size))) { s with heap:=zh5 s.heap o1 o2 }):=
  .of_wp fun prog w A R s h=>by
    obtain⟨hp,g,d,tk,os⟩:=s;obtain⟨h1,h2,h⟩:=h
    have hsub:=sub_zip
    have k1:∀{A':Around} {E':Value→Shared→Prop} {Q:Value→Shared→Prop},Q (.ref (Shared.heap ⟨hp,g,d,tk,os⟩).objs.size) ⟨hp.push o1,g,d,tk,os⟩→wpAny (model prog w) A' (pyIter a) Q E' ⟨hp,g,d,tk,os⟩:=fun q=>h1 _ _ _ _ _ _ (fun _ _ e=>e) q
    have k2:∀{A':Around} {E':Value→Shared→Prop} {Q:Value→Shared→Prop},Q (.ref (Shared.heap ⟨hp.push o1,g,d,tk,os⟩).objs.size) ⟨(hp.push o1).push o2,g,d,tk,os⟩→wpAny (model prog w) A' (pyIter b) Q E' ⟨hp.push o1,g,d,tk,os⟩:=fun q=>h2 _ _ _ _ _ _ (fun _ _ e=>Heap.get?_push_of_some _ e) q
    wp_walk using k1,k2
    exact⟨_,rfl,h⟩
theorem call_zip{prog:Program}{w:World}{A:Around}{E:Value→Shared→Prop}{s:Shared}{S1 S2:Sr}{v1 v2:Array Value}{a b:Value}{Q:Value→Shared→Prop}(e1:S1.val a)(e2:S2.val b)(x1:S1.has s.heap v1)(x2:S2.has s.heap v2)
    (q:∀h',ZS S1 S2 v1 v2 (s.heap.objs.size+4) (s.heap.objs.size+2) (s.heap.objs.size+3) s.heap.objs.size (s.heap.objs.size+1) 0 .none h'→ZA S1 S2 (s.heap.objs.size+4) (s.heap.objs.size+2) (s.heap.objs.size+3) s.heap.objs.size (s.heap.objs.size+1)→
      (∀c o,s.heap.get? c=some o→h'.get? c=some o)→Q (.ref (s.heap.objs.size+4)) { s with heap:=h' }):wpAny (model prog w) A (call (.type "zip") [a,b]) Q E s:=by
  obtain⟨o1,B1,f1,I1⟩:=Sr.begins e1 x1
  obtain⟨o2,B2,f2,I2⟩:=Sr.begins e2 x2
  refine callType_new F.called_zip (by decide) (F.typeCall_zip_2 _ _) (F.newCall_zip_2 _ _) (fun obj=>F.args_object_init_3 obj _ _) F.entry_zip_new (zip_new a b o1 o2) ⟨B1,B2,?_⟩
  have y1:(s.heap.push o1).objs.size=s.heap.objs.size+1:=Heap.size_push ..
  have y2:(zh2 s.heap o1 o2).objs.size=s.heap.objs.size+2:=by rw[Heap.size_push,y1]
  have y3:(zh3 s.heap o1 o2).objs.size=s.heap.objs.size+3:=by rw[Heap.size_push,y2]
  have y4:(zh4 s.heap o1 o2).objs.size=s.heap.objs.size+4:=by rw[Heap.size_push,y3]
  have g5:(zh5 s.heap o1 o2).get? (zh4 s.heap o1 o2).objs.size=some _:=Heap.get?_push_size _ rfl
  have g4:(zh5 s.heap o1 o2).get? (zh3 s.heap o1 o2).objs.size=some _:=Heap.get?_push_of_some _ (Heap.get?_push_size _ rfl)
  have g3:(zh5 s.heap o1 o2).get? (zh2 s.heap o1 o2).objs.size=some _:=Heap.get?_push_of_some _ (Heap.get?_push_of_some _ (Heap.get?_push_size _ rfl))
  have g2:(zh5 s.heap o1 o2).get? (s.heap.push o1).objs.size=some o2:=Heap.get?_push_of_some _ (Heap.get?_push_of_some _ (Heap.get?_push_of_some _ (Heap.get?_push_size _ f2)))
  have g1:(zh5 s.heap o1 o2).get? s.heap.objs.size=some o1:=Heap.get?_push_of_some _ (Heap.get?_push_of_some _ (Heap.get?_push_of_some _ (Heap.get?_push_of_some _ (Heap.get?_push_size _ f1))))
  have up:∀c o,s.heap.get? c=some o→(zh5 s.heap o1 o2).get? c=some o:=fun c o x=>Heap.get?_push_of_some _ (Heap.get?_push_of_some _ (Heap.get?_push_of_some _ (Heap.get?_push_of_some _ (Heap.get?_push_of_some _ x))))
  have off:∀{S:Sr} {vs:Array Value} (k:Nat),S.has s.heap vs→S.off (s.heap.objs.size+k):=fun{S vs} k x=>by
    cases S with
    | lst a=>obtain⟨o,e,_⟩:=x;exact Nat.ne_of_lt (Nat.lt_of_lt_of_le (Heap.lt_size e) (Nat.le_add_right _ k))
    | tup a=>obtain⟨o,e,_⟩:=x;exact Nat.ne_of_lt (Nat.lt_of_lt_of_le (Heap.lt_size e) (Nat.le_add_right _ k))
    | str z=>exact trivial
  have keep:∀{S:Sr} {vs:Array Value},S.has s.heap vs→S.has (zh5 s.heap o1 o2) vs:=fun{S vs} x=>by
    cases S with
    | lst a=>obtain⟨o,e,r⟩:=x;exact⟨o,up _ _ e,r⟩
    | tup a=>obtain⟨o,e,r⟩:=x;exact⟨o,up _ _ e,r⟩
    | str z=>exact x
  show _∧_
  rw[y2,y3,y4]at g5
  rw[y1,y2]at g3
  rw[y3]at g4
  rw[y1]at g2
  rw[y4]
  refine⟨⟨_,g5,rfl⟩,q _ ⟨g5,g3,⟨_,_,g4⟩,I1 _ _ g1,I2 _ _ g2,keep x1,keep x2⟩ ?_ up⟩
  have ne:∀i j:Nat,i≠j→s.heap.objs.size+i≠s.heap.objs.size+j:=fun i j hn h=>hn (Nat.add_left_cancel h)
  refine⟨ne 2 4 (by decide),ne 3 4 (by decide),ne 0 4 (by decide),ne 1 4 (by decide),ne 2 3 (by decide),ne 2 0 (by decide),ne 2 1 (by decide),ne 3 0 (by decide),ne 3 1 (by decide),ne 0 1 (by decide),fun x hx=>?_⟩
  simp only[List.mem_cons,List.not_mem_nil,or_false]at hx
  rcases hx with rfl | rfl | rfl | rfl
  · exact⟨off 4 x1,off 4 x2⟩
  · exact⟨off 3 x1,off 3 x2⟩
  · exact⟨off 0 x1,off 0 x2⟩
  · exact⟨off 1 x1,off 1 x2⟩
end L2
namespace L2
open PySem PySem.Spec PyProof.Rows
end L2
namespace L2
open PySem PySem.Spec PyProof.Rows
section
variable{X:Cx}{pins:List (Addr × Obj)}{σ:St}{H:Hp}{s:Shared}{h':Heap}
theorem Inv.turneds{t':Nat}{ch:List Addr}(I:Inv X pins σ H s)(k:∀b o,b ∉ ch→s.heap.get? b=some o→h'.get? b=some o)(hf:∀b∈ch,FpOk X pins H b):Inv X pins σ H { s with heap:=h',toks:=t' }:=by
  have nit:∀b u,H b=some u→b ∉ ch:=fun b u e z=>by rw[(hf b z).1]at e;cases e
  refine I.step (g':=s.gens) (d':=s.drawn) (ch:=ch) (fun b hb=>?_) (fun b o _ _ hc e _=>k b o hc e) (fun b o _ _ hc e _=>⟨o.slots,k b o hc e⟩) (fun _ _ _ _ n=>n) (fun b o hc e=>⟨o,k b o hc e⟩) (fun _ _ e=>e) (fun _ _ _ e=>e)
    (fun b ps e=>⟨#[],by rw[e];simp⟩) (fun m hm=>?_) (fun b u e=>?_) I.bare
  · obtain⟨f0,f1,f2,f3,f4,f5⟩:=hf b hb
    exact⟨f3,f1,f4,f5⟩
  · obtain⟨o,es,ep,ho,r⟩:=hm
    exact⟨o,es,ep,k _ o (fun z=>(hf _ z).2.1 rfl) ho,r⟩
  · refine(I.hok b u e).stay (fun c v hc q=>k c v ?_ q) (fun _ q=>q) fun _ _ q=>q
    rcases hc with z | z
    · rw[z];exact nit b u e
    · exact nit c _ z
theorem Inv.track{a:Addr}{o:HO}(I:Inv X pins σ H s)(hs:X.s₀.heap.objs.size≤a)(f:FpOk X pins H a)(new:ObjOk X.prog X.w (upd H a o) s.heap a o):Inv X pins σ (upd H a o) s:=
  ⟨I.ok,I.os,I.bare,I.base.track hs f.1,I.loc,I.cell,by rw[b0b (Ne.symm f.2.1)];exact I.free,fun x c e=>by rw[b0b (f.2.2.2.2.1 x c e)];exact I.freeC x c e,fun p hp=>by
    obtain⟨e,n,r⟩:=I.pin p hp
    exact⟨e,by rw[b0b (f.2.2.2.2.2 p hp)];exact n,r⟩,I.hok.track f.1 new,I.len⟩
end
def signs(x:Str):List V:=x.cps.toList.map fun c=>V.str ⟨#[c]⟩
def Sr.vals(K:PySem.W.Frag)(H:Hp):Sr→List V→Prop
  | .lst a,xs=>SqL K H a xs
  | .tup a,xs=>SqT K H a xs
  | .str x,xs=>xs=signs x
def Sr.ofV:Sr→V→Prop
  | .lst a,v=>v=.ref a
  | .tup a,v=>v=.ref a
  | .str x,v=>v=.str x
section
variable{X:Cx}{pins:List (Addr × Obj)}{σ:St}{H:Hp}{s:Shared}{S:Sr}{xs ys:List V}
theorem Sr.vals.get(I:Inv X pins σ H s)(h:S.vals X.K H xs):∃vs,S.has s.heap vs∧vs.size=xs.length∧∀i x v,xs[i]? = some x→S.is vs i v→RelV x v:=by
  cases S with
  | lst a=>
    obtain⟨its,rv,p,hz⟩:=I.list h
    refine⟨its.toArray,p.isList,by have:=rv.length;simp;omega,fun i x v e1 e2=>?_⟩
    obtain⟨u,hu,ru⟩:=rv.get e1
    have e2:its.toArray[i]? = some v:=e2
    rw[List.getElem?_toArray,hu]at e2
    cases e2
    exact ru
  | tup a=>
    obtain⟨its,rv,p,hz⟩:=I.tuple h
    refine⟨its.toArray,(show s.heap.IsTuple a its.toArray from p),by have:=rv.length;simp;omega,fun i x v e1 e2=>?_⟩
    obtain⟨u,hu,ru⟩:=rv.get e1
    have e2:its.toArray[i]? = some v:=e2
    rw[List.getElem?_toArray,hu]at e2
    cases e2
    exact ru
  | str z=>
    cases (show xs=signs z from h)
    refine⟨Array.replicate z.cps.size .none,by show(Array.replicate _ _).size=_;simp,by simp[signs],fun i x v e1 e2=>?_⟩
    obtain⟨c,u,ec,rfl⟩:=(show ∃c u,z.cps[i]? = some c∧v=.str ⟨#[c]⟩ u from e2)
    have:(signs z)[i]? = some (V.str ⟨#[c]⟩):=by simp[signs,ec]
    rw[this]at e1
    cases e1
    exact⟨u,rfl⟩
theorem Sr.vals.inj(I:Inv X pins σ H s)(h:S.vals X.K H xs)(h':S.vals X.K H ys):xs=ys:=by
  cases S with
  | lst a=>exact I.list_inj h h'
  | tup a=>exact I.tuple_inj h h'
  | str z=>exact(show xs=signs z from h).trans (show ys=signs z from h').symm
theorem Sr.ofV.val{x:V}{u:Value}(e:S.ofV x)(r:RelV x u):S.val u:=by
  cases S with
  | lst a=>cases (show x=.ref a from e);exact r
  | tup a=>cases (show x=.ref a from e);exact r
  | str z=>cases (show x=.str z from e);exact r
end
theorem Sr.vals.same{K:PySem.W.Frag}{H H':Hp}{S:Sr}{xs:List V}(h:S.vals K H xs)(hl:∀a,SqL K H a xs→SqL K H' a xs)(ht:∀a,SqT K H a xs→SqT K H' a xs):S.vals K H' xs:=by
  cases S with
  | lst a=>exact hl a h
  | tup a=>exact ht a h
  | str z=>exact h
def Itz(K:PySem.W.Frag)(S1 S2:Sr):It:=
  ⟨fun i H=>∃xs ys x y,S1.vals K H xs∧S2.vals K H ys∧xs[i]? = some x∧ys[i]? = some y,
   fun i H v H'=>∃p x y,v=.ref p∧H p=none∧H'=upd H p (.tup [x,y])∧(∀xs,S1.vals K H xs→xs[i]? = some x)∧∀ys,S2.vals K H ys→ys[i]? = some y,
   fun i H=>∃xs ys,S1.vals K H xs∧S2.vals K H ys∧(i=xs.length∨(i < xs.length∧i=ys.length))⟩
theorem turn_zip{P:Program}{w:World}{K:PySem.W.Frag}{es:List Expr}{kk:Nat}{tp:Pos}{S1 S2:Sr}{z TI TO i1 i2:Addr}(D:ZA S1 S2 z TI TO i1 i2) :
    Turn P w K (.Tuple es kk tp) (Itz K S1 S2) [z,TI,TO,i1,i2] z (fun i h=>IsZip h z TI TO .none∧IsPair h TI (.ref i1) (.ref i2)∧(∃a b,IsPair h TO a b)∧S1.it h i1 i∧S2.it h i2 i)where
  mem:=by simp
  obj:=fun i h st b hb=>by
    obtain⟨hz,hi,⟨a,a',ho⟩,h1,h2⟩:=st
    simp only[List.mem_cons,List.not_mem_nil,or_false]at hb
    rcases hb with rfl | rfl | rfl | rfl | rfl
    · exact⟨_,hz,fun v z=>by simp at z⟩
    · exact⟨_,hi,fun v z=>by simp at z⟩
    · exact⟨_,ho,fun v z=>by simp at z⟩
    · exact h1.obj
    · exact h2.obj
  keep:=fun i h h' st k=>by
    obtain⟨hz,hi,⟨a,a',ho⟩,h1,h2⟩:=st
    exact⟨k z (by simp) _ hz,k TI (by simp) _ hi,⟨a,a',k TO (by simp) _ ho⟩,h1.mv fun o e=>k i1 (by simp) o e,h2.mv fun o e=>k i2 (by simp) o e⟩
  item:=by
    intro X hP hw hK hc i pins s σ H E I hf st hg
    subst hP hw hK
    obtain⟨xs,ys,x,y,hx,hy,ex,ey⟩:=hg
    obtain⟨v1,a1,z1,r1⟩:=Sr.vals.get I hx
    obtain⟨v2,a2,z2,r2⟩:=Sr.vals.get I hy
    obtain⟨hz,hi,ho,h1,h2⟩:=st
    have l1:=(List.getElem?_eq_some_iff.mp ex).1
    have l2:=(List.getElem?_eq_some_iff.mp ey).1
    have hT:s.TypeIs (.ref z) "zip":=⟨_,hz,rfl⟩
    have lt:∀b∈[z,TI,TO,i1,i2],b≠s.heap.objs.size:=fun b hb=>by
      obtain⟨a,a',ho⟩:=ho
      simp only[List.mem_cons,List.not_mem_nil,or_false]at hb
      rcases hb with rfl | rfl | rfl | rfl | rfl
      · exact Nat.ne_of_lt (Heap.lt_size hz)
      · exact Nat.ne_of_lt (Heap.lt_size hi)
      · exact Nat.ne_of_lt (Heap.lt_size ho)
      · obtain⟨_,e,_⟩:=h1.obj;exact Nat.ne_of_lt (Heap.lt_size e)
      · obtain⟨_,e,_⟩:=h2.obj;exact Nat.ne_of_lt (Heap.lt_size e)
    unfold pyNext
    refine wpAny_bind (wpAny_attempt (wpAny_callSpecial?_slot (name:=Str.ofString "__next__") hT F.slot_zip_next (wpAny_call_entry F.slot_zip_next hT F.entry_zip_next
      (zip_item (A:=X.A.in1) D (show X.A.in1.handled=none from I.ok.hd hc) ⟨hz,hi,ho,h1,h2,a1,a2⟩ (by omega) (by omega) fun xv yv h' tk px py Z hp hs up=>wpAny_pure ?_) (F.args_zip_next_1 _))))
    refine⟨_,rfl,wpAny_letOwnedTupleGo_zip Z.z fun h'' hz'' sb=>?_⟩
    have sb:Heap.SameBut z h' h'':=sb
    have kk:∀b o,b ∉ [z,TI,TO,i1,i2]→s.heap.get? b=some o→h''.get? b=some o:=fun b o hb e=>by
      simp only[List.mem_cons,List.not_mem_nil,or_false,not_or]at hb
      exact sb.extBut _ _ hb.1 (up b o hb.1 hb.2.2.1 hb.2.2.2.1 hb.2.2.2.2 e)
    have I1:Inv X pins σ H { s with heap:=h'',toks:=tk }:=I.turneds (t':=tk) kk hf
    have fT:FpOk X pins H s.heap.objs.size:=I.fpOk (Nat.le_refl _) (I.hok.fresh (Nat.le_refl _))
    have zT:s.heap.objs.size≠z:=Ne.symm (lt z (by simp))
    have oT:IsPair h'' s.heap.objs.size xv yv:=sb.extBut _ _ zT hp
    have I2:Inv X pins σ (upd H s.heap.objs.size (.tup [x,y])) { s with heap:=h'',toks:=tk }:=I1.track (Nat.le_trans I.sz (Nat.le_refl _)) fT
      ⟨by show 2≤sizeLine;decide,[xv,yv],.cons (r1 i x xv ex px) (.cons (r2 i y yv ey py) .nil),⟨_,oT,rfl,_,rfl⟩,fun _=>⟨_,oT,rfl⟩⟩
    refine⟨.ref s.heap.objs.size,_,I2,rfl,⟨_,x,y,rfl,fT.1,rfl,fun xs' h=>by rw[Sr.vals.inj I h hx];exact ex,fun ys' h=>by rw[Sr.vals.inj I h hy];exact ey⟩,⟨hz'',sb.extBut _ _ D.a Z.ti,?_,Z.s1.mv fun o e=>sb.extBut _ _ D.c e,Z.s2.mv fun o e=>sb.extBut _ _ D.d e⟩,fun b hb=>?_⟩
    · obtain⟨a,a',ho⟩:=Z.to
      exact⟨a,a',sb.extBut _ _ D.b ho⟩
    · rw[b0b (lt b hb)]
      exact(hf b hb).1
  done:=by
    intro X hP hw hK hc i pins s σ H E I hf st hg
    subst hP hw hK
    obtain⟨xs,ys,hx,hy,l⟩:=hg
    obtain⟨v1,a1,z1,r1⟩:=Sr.vals.get I hx
    obtain⟨v2,a2,z2,r2⟩:=Sr.vals.get I hy
    obtain⟨hz,hi,ho,h1,h2⟩:=st
    have hT:s.TypeIs (.ref z) "zip":=⟨_,hz,rfl⟩
    unfold pyNext
    refine wpAny_bind (wpAny_attempt (wpAny_callSpecial?_slot (name:=Str.ofString "__next__") hT F.slot_zip_next (wpAny_call_entry F.slot_zip_next hT F.entry_zip_next
      (zip_end (A:=X.A.in1) D (show X.A.in1.handled=none from I.ok.hd hc) ⟨hz,hi,ho,h1,h2,a1,a2⟩ (by omega) fun h' e tk up ⟨o,eo,co⟩=>?_) (F.args_zip_next_1 _))))
    refine wpAny_bind (wpAny_isInstance (T:="StopIteration") (b:=true) ⟨o,eo,co⟩ isSubtype_stop ?_)
    refine wpAny_pure ⟨rfl,I.turneds (ch:=[z,TI,TO,i1,i2]) (t':=tk) (fun b o hb e=>?_) hf⟩
    simp only[List.mem_cons,List.not_mem_nil,or_false,not_or]at hb
    exact up b o hb.1 hb.2.2.1 hb.2.2.2.1 hb.2.2.2.2 e
  self:=fun _ _ _ _ _ st h=>wpAny_pyIter_zip st.1 h
def iZip(K:PySem.W.Frag)(ta:TA):TI:=fun σ H R=>ta σ H fun vs H1=>∃S1 S2 x y xs ys,vs=[x,y]∧Sr.ofV S1 x∧Sr.ofV S2 y∧S1.vals K H1 xs∧S2.vals K H1 ys∧R (Itz K S1 S2) H1
theorem i0n{X:Cx}{a b:Expr}{ta:TA}{p pos tp:Pos}{es:List Expr}{kk:Nat}(hg:Gl X "zip")(hm:X.mg "zip"=none)(ha:PA X [a,b] ta)(hs:starEach [a,b] X.env=[(false,eval a X.env),(false,eval b X.env)]:=by rfl)
    (hs2:starEach [b] X.env=[(false,eval b X.env)]:=by rfl):PI X (.Tuple es kk tp) (.Call (.Name "zip" p) [a,b] [] pos) (iZip X.K ta):=by
  intro pins s σ H R I h
  refine Call_ (ld_blt I hg hm boot_zip (PyProof.Rows.callWith_type1 (thn (ha pos pins s σ H _ I h) fun us s1 ⟨vs,H1,I1,r1,q1⟩=>?_) (by rw[hs,hs2]) (by rw[hs2];rfl)))
  obtain⟨S1,S2,x,y,xs,ys,e,e1,e2,hx,hy,q⟩:=q1
  subst e
  cases r1 with
  | cons r rr=>
    cases rr with
    | cons r' rr=>
      cases rr
      obtain⟨v1,a1,z1,_⟩:=Sr.vals.get I1 hx
      obtain⟨v2,a2,z2,_⟩:=Sr.vals.get I1 hy
      refine call_zip (e1.val r) (e2.val r') a1 a2 fun h' Z D up=>wpAny_pyIter_zip Z.z ⟨_,_,_,_,H1,rfl,I1.kept (t':=s1.toks) up,turn_zip D,⟨Z.z,Z.ti,Z.to,Z.s1,Z.s2⟩,fun b hb=>?_,q⟩
      simp only[List.mem_cons,List.not_mem_nil,or_false]at hb
      have le:s1.heap.objs.size≤b:=by rcases hb with rfl | rfl | rfl | rfl | rfl <;>omega
      exact I1.fpOk le (I1.hok.fresh le)
theorem n0s{K:PySem.W.Frag}{S1 S2:Sr}{xs ys:List V}{g:TG}{tb:TS}{D:Ends}{σ:St}{H:Hp}(Pv:Nat→St→Hp→Prop)(hll:xs.length=ys.length)(h0:Pv 0 σ H)(hl:∀i σ H,i≤xs.length→Pv i σ H→S1.vals K H xs∧S2.vals K H ys)
    (hs:∀i x y p σ H,xs[i]? = some x→ys[i]? = some y→H p=none→Pv i σ H→g (.ref p) σ (upd H p (.tup [x,y])) fun σ2 H2=>tb { D with nx:=Pv (i+1),ct:=Pv (i+1),bk:=D.nx } σ2 H2) (hd:∀σ H,Pv xs.length σ H→D.nx σ H) :
    ∃W:Nat→Nat→St→Hp→Prop,(∃m,W 0 m σ H)∧∀i m σ H,W i m σ H→
      ((Itz K S1 S2).stop i H∧D.nx σ H)∨((Itz K S1 S2).go i H∧∃N:St→Hp→Prop,(∀σ' H',N σ' H'→∃m',m' < m∧W (i+1) m' σ' H')∧∀x H',(Itz K S1 S2).yld i H x H'→g x σ H' fun σ2 H2=>tb { D with nx:=N,ct:=N,bk:=D.nx } σ2 H2):=by
  refine⟨fun i m σ H=>m=xs.length - i∧i≤xs.length∧Pv i σ H,⟨xs.length,by simp,Nat.zero_le _,h0⟩,?_⟩
  rintro i m σ H ⟨rfl,hi,p⟩
  obtain⟨q1,q2⟩:=hl i σ H hi p
  by_cases hlt:i < xs.length
  · have hly:i < ys.length:=by omega
    refine .inr ⟨⟨xs,ys,xs[i],ys[i],q1,q2,by simp[hlt],by simp[hly]⟩,Pv (i+1),fun σ' H' p'=>⟨xs.length - (i+1),by omega,rfl,hlt,p'⟩,fun x H' y=>?_⟩
    obtain⟨pp,x',y',rfl,hn,rfl,y1,y2⟩:=y
    exact hs i x' y' pp σ H (y1 xs q1) (y2 ys q2) hn p
  · have e:i=xs.length:=by omega
    subst e
    exact .inl ⟨⟨xs,ys,q1,q2,.inl rfl⟩,hd σ H p⟩
end L2
namespace L2
open PySem PySem.Spec PyProof.Rows
section
variable{X:Cx}
def rSlS:V→Option Int→Option Int→Hp→VK→Prop:=fun x lo hi H Q=>∃z,x=.str z∧z.length≤sizeLine∧Q (.str (Txt.slice z lo hi)) H
theorem sl_str:SlR X rSlS:=by
  intro pins s σ H x v vl vu lo hi sl Q I rx hs pl pu h
  obtain⟨z,rfl,hz,q⟩:=h
  obtain⟨t,rfl⟩:=rx
  have fin:∀t' k,EP X pins σ Q (.str (Txt.slice z lo hi) t') { s with toks:=k }:=fun t' k=>⟨.str _,H,I.tok _,⟨_,rfl⟩,q⟩
  refine⟨"str",_,F.slot_str_getitem.lookup,typeIs_str _ _ _,?_⟩
  cases pl with
  | none=>
    cases pu with
    | none=>exact wpAny_getItem_str_slice (l:=none) (u:=none) (st:=none) hs rfl (post_val_or_str ⟨Nat.le_trans (Txt.slice_le z _ _) hz,fin⟩)
    | int j uj=>exact wpAny_getItem_str_slice (l:=none) (u:=some (j,uj)) (st:=none) hs rfl (post_val_or_str ⟨Nat.le_trans (Txt.slice_le z _ _) hz,fin⟩)
  | int i ui=>
    cases pu with
    | none=>exact wpAny_getItem_str_slice (l:=some (i,ui)) (u:=none) (st:=none) hs rfl (post_val_or_str ⟨Nat.le_trans (Txt.slice_le z _ _) hz,fin⟩)
    | int j uj=>exact wpAny_getItem_str_slice (l:=some (i,ui)) (u:=some (j,uj)) (st:=none) hs rfl (post_val_or_str ⟨Nat.le_trans (Txt.slice_le z _ _) hz,fin⟩)
def rIndexS:V→List V→Hp→VK→Prop:=fun x xs H Q=>∃z y i rest,x=.str z∧xs=[.str y]∧Builtin.Str.occurrences z y 0 z.length 1=i::rest∧Q (.int (i:Nat)) H
theorem mt_indexS:MtR X "str.index" rIndexS:=by
  intro pins s σ H x xs v us Q I rx rs h
  obtain⟨z,y,i,rest,rfl,rfl,e,q⟩:=h
  obtain⟨t,rfl⟩:=rx
  obtain⟨u,rfl,ru⟩:=rs.one
  obtain⟨t',rfl⟩:=ru
  exact call_gives F.slot_str_index (typeIs_str s z t) F.entry_str_index (F.args_str_index_2 _ _) (PySem.gives_str_index z y t t' i rest e) ⟨.int _,H,I.tok _,⟨_,rfl⟩,q⟩
def Its(z:Str):It:=⟨fun i _=>i < z.cps.size,fun i H x H'=>H'=H∧∃c,z.cps[i]? = some c∧x=.str ⟨#[c]⟩,fun i _=>z.cps.size≤i⟩
theorem turn_str{P:Program}{w:World}{K:PySem.W.Frag}{tg:Expr}(z:Str)(t:Tok)(it:Addr):Turn P w K tg (Its z) [it] it (fun i h=>h.IsStrIter it "str_ascii_iterator" z t i)where
  mem:=by simp
  obj:=fun i h st b hb=>by
    have e:b=it:=by simpa using hb
    subst e
    obtain⟨o,e,c,d⟩:=st
    exact⟨o,e,fun v q=>by rw[d]at q;cases q⟩
  keep:=fun i h h' st k=>by
    obtain⟨o,e,r⟩:=st
    exact⟨o,k it (by simp) o e,r⟩
  item:=by
    intro X hP hw hK hc i pins s σ H E I hf st hg
    subst hP hw hK
    have hg:i < z.cps.size:=hg
    obtain⟨f0,f1,f2,f3,f4,f5⟩:=hf it (by simp)
    refine wpAny_pyNext_ascii_item st (c:=z.cps[i]) (by simp[hg]) fun h' st' sb=>?_
    have I1:Inv X pins σ H { s with heap:=h',toks:=s.toks+1 }:=I.turned (t':=s.toks+1) (fun b o hb e=>(sb.2 b hb).trans e) f0 f1 f3 f4 f5
    obtain⟨o,e,c,d⟩:=id st'
    exact⟨_,rfl,go_of (s:={ s with heap:=h',toks:=s.toks+1 }) e c d (by decide) ⟨.str ⟨#[z.cps[i]]⟩,H,I1,⟨_,rfl⟩,⟨rfl,_,by simp[hg],rfl⟩,st',fun b hb=>(hf b hb).1⟩⟩
  done:=by
    intro X hP hw hK hc i pins s σ H E I hf st hg
    subst hP hw hK
    have hg:z.cps.size≤i:=hg
    obtain⟨f0,f1,f2,f3,f4,f5⟩:=hf it (by simp)
    exact wpAny_pyNext_ascii_end (I.ok.hd hc) st (by simp;omega) fun h' eb=>⟨rfl,I.turned (t':=s.toks) (fun b o hb e=>eb b o hb e) f0 f1 f3 f4 f5⟩
  self:=fun _ _ _ _ _ st h=>wpAny_pyIter_striter_ascii st h
def iStr(tl:TE):TI:=fun σ H R=>tl σ H fun x H1=>∃z,x=.str z∧z.cps.all (· < 128)=true∧R (Its z) H1
theorem l0y{tg l:Expr}{tl:TE}(hl:PE X l tl):PI X tg l (iStr tl):=by
  intro pins s σ H R I h
  refine thn (hl pins s σ H _ I h) fun v s1 ⟨x,H1,I1,r1,z,e,ha,q⟩=>?_
  subst e
  obtain⟨t,rfl⟩:=r1
  refine wpAny_pyIter_ascii ha ?_
  have hf:H1 s1.heap.objs.size=none:=I1.hok.fresh (Nat.le_refl _)
  refine⟨s1.heap.objs.size,[s1.heap.objs.size],_,Its z,H1,rfl,I1.kept (t':=s1.toks) (fun b ob q=>Heap.get?_push_of_some _ q),turn_str z t _,⟨_,Heap.get?_push_size _ rfl,rfl,rfl⟩,fun b hb=>?_,q⟩
  have e:b=s1.heap.objs.size:=by simpa using hb
  subst e
  exact I1.fpOk (Nat.le_refl _) hf
end
end L2
namespace L2
open PySem PySem.Spec PyProof.Rows
section
variable{X:Cx}
theorem vals_bl{bs:List Bool}{its:List Value}(r:Vals (bs.map V.bl) its){i:Nat}{v:Value}(h:its[i]? = some v):∃b,bs[i]? = some b∧v=.bool b:=by
  have len:=r.length
  rw[List.length_map]at len
  have hi:i < its.length:=(List.getElem?_eq_some_iff.mp h).1
  have hb:bs[i]? = some (bs[i]'(by omega)):=List.getElem?_eq_getElem (by omega)
  obtain⟨u,hu,ru⟩:=r.get (i:=i) (x:=V.bl (bs[i]'(by omega))) (by rw[List.getElem?_map,hb];rfl)
  rw[h]at hu
  cases hu
  exact⟨_,hb,ru⟩
theorem all_range(bs:List Bool):(List.range bs.length).all (fun i=>bs[i]?.getD false)=bs.all id:=by
  rw[Bool.eq_iff_iff,List.all_eq_true,List.all_eq_true]
  constructor
  · intro h b hb
    obtain⟨i,hi,e⟩:=List.getElem_of_mem hb
    have:=h i (List.mem_range.mpr hi)
    rw[List.getElem?_eq_getElem hi,Option.getD_some,e]at this
    exact this
  · intro h i hi
    have hi:=List.mem_range.mp hi
    rw[List.getElem?_eq_getElem hi,Option.getD_some]
    exact h _ (List.getElem_mem hi)
def rAll(K:PySem.W.Frag)(f:List Bool→Bool):List V→Hp→VK→Prop:=fun xs H Q=>∃a bs,xs=[.ref a]∧SqL K H a (bs.map V.bl)∧Q (.bl (f bs)) H
theorem call_all(hc:X.calm=true):CallR X (.builtin "all") (rAll X.K fun bs=>bs.all id):=by
  intro pins s σ H xs us Q I r h
  obtain⟨a,bs,rfl,hq,q⟩:=h
  obtain⟨u,rfl,ru⟩:=r.one
  cases (show u=Value.ref a from ru)
  obtain⟨its,rv,p,hz⟩:=I.list hq
  have lt:a≠s.heap.objs.size:=by obtain⟨o,n,e,_⟩:=p;exact Nat.ne_of_lt (Heap.lt_size e)
  have hh:X.A.in1.handled=none:=I.ok.hd hc
  have hl:=p.isList
  have len:=rv.length
  rw[List.length_map]at len
  refine call_all_walk (wpAny_pyIter_list hl ⟨_,_,_,_,_,_,fun i=>bs[i]?.getD false,rfl,Walks.list hh s.heap.objs.size a lt its.toArray,⟨⟨_,Heap.get?_push_size _ rfl,rfl,rfl⟩,Heap.IsList.push hl _⟩,fun i v s' Q' E' hv q'=>?_,fun h' tk k=>?_⟩)
  · have hv:its.toArray[i]? = some v:=hv
    rw[List.getElem?_toArray]at hv
    obtain⟨b,eb,rfl⟩:=vals_bl rv hv
    have q':Q' (bs[i]?.getD false) s':=q'
    rw[eb]at q'
    exact wpAny_truthy_bool q'
  · rw[List.size_toArray,← len,all_range]
    refine⟨.bl _,H,I.kept (t':=tk) fun b o e=>k b o (fun z=>?_) (Heap.get?_push_of_some _ e),rfl,q⟩
    rw[List.mem_singleton]at z
    exact absurd (Heap.lt_size e) (by rw[z];exact Nat.lt_irrefl _)
end
end L2
namespace L2
open PySem PySem.Spec PyProof.Rows
section
variable{prog:Program}{w:World}{A:Around}{E:Value→Shared→Prop}{s:Shared}
end
section
variable{prog:Program}{w:World}{A:Around}{E:Value→Shared→Prop}{s:Shared}
end
end L2
namespace L2
open PySem PySem.Spec PyProof.Rows
section
variable{prog:Program}{w:World}{A:Around}{E:Value→Shared→Prop}{s:Shared}
end
theorem m0a{J:It}{n:Nat}{g:TG}{tb:TS}{D:Ends}{σ:St}{H:Hp}(Pv:Nat→St→Hp→Prop)(h0:Pv 0 σ H)
    (hs:∀i σ H,i < n→Pv i σ H→J.go i H∧∀x H',J.yld i H x H'→g x σ H' fun σ2 H2=>tb { D with nx:=Pv (i+1),ct:=Pv (i+1),bk:=D.nx } σ2 H2) (hd:∀σ H,Pv n σ H→J.stop n H∧D.nx σ H) :
    ∃W:Nat→Nat→St→Hp→Prop,(∃m,W 0 m σ H)∧∀i m σ H,W i m σ H→
      (J.stop i H∧D.nx σ H)∨(J.go i H∧∃N:St→Hp→Prop,(∀σ' H',N σ' H'→∃m',m' < m∧W (i+1) m' σ' H')∧∀x H',J.yld i H x H'→g x σ H' fun σ2 H2=>tb { D with nx:=N,ct:=N,bk:=D.nx } σ2 H2):=by
  refine⟨fun i m σ H=>m=n - i∧i≤n∧Pv i σ H,⟨n,by simp,Nat.zero_le _,h0⟩,?_⟩
  rintro i m σ H ⟨rfl,hi,p⟩
  by_cases hlt:i < n
  · obtain⟨a,b⟩:=hs i σ H hlt p
    exact .inr ⟨a,Pv (i+1),fun σ' H' p'=>⟨n - (i+1),by omega,rfl,hlt,p'⟩,b⟩
  · have e:i=n:=by omega
    subst e
    exact .inl (hd σ H p)
theorem tuple_addW0(l b:Addr)(items items2:Array Value)(n n2:Nat)(dd dd2:Option Addr)(sl sl2:Array (Option Value))(hc0:items.isEmpty=true) :
    Meets (Builtin.«tuple.__add__» ⟨[.ref l,.ref b],[]⟩) (fun _ R s=>s.heap.get? l=some { cls:=.type "tuple",dict:=dd,data:=.seq items n,slots:=sl }∧s.heap.get? b=some { cls:=.type "tuple",dict:=dd2,data:=.seq items2 n2,slots:=sl2 }∧R (.ok (.ret (Value.ref b))) { s with heap:=s.heap,toks:=s.toks }):=
  .of_wp fun prog w A R s h=>by obtain⟨hp,g,d,tk,os⟩:=s;obtain⟨hl,hb,h⟩:=h;have f1:=AutoSeq1.idx_int;have f2:=AutoSeq1.sub_tuple_tuple;wp_walk using AutoSeq1.wpAny_loadPart' hl,AutoSeq1.wpAny_loadPart' hb;exact⟨_,rfl,h⟩
def rCatA:R2:=fun x y H Q=>∃a b xs ys,x=.ref a∧y=.ref b∧H a=some (.tup xs)∧H b=some (.tup ys)∧xs.length+ys.length≤sizeLine∧
  ∀p H',Same H H'→H' p=some (.tup (xs++ys))→Q (.ref p) H'
theorem e0h{X:Cx}:OpR X (binaryOp .Add) rCatA:=by
  intro pins s σ H x y v u Q I rx ry h
  obtain⟨a,b,xs,ys,rfl,rfl,ha,hb,hz,q⟩:=h
  cases rx
  cases ry
  by_cases hx:xs=[]
  · obtain⟨its,r1,p1,_⟩:=I.tuple (SqT.of ha)
    obtain⟨its2,r2,p2,_⟩:=I.tuple (SqT.of hb)
    have e0:its=[]:=r1.nil_iff.mpr hx
    obtain⟨⟨cls,dd,data,sl⟩,ho,hc,n,hd⟩:=id p1
    obtain⟨⟨cls2,dd2,data2,sl2⟩,ho2,hc2,n2,hd2⟩:=id p2
    simp only at hc hd hc2 hd2
    subst hc hd hc2 hd2
    exact concat_meets ⟨_,ho,rfl⟩ ⟨_,ho2,rfl⟩ noFill_tuple_add seq_tuple_add PySem.F.slot_tuple_add PySem.F.entry_tuple_add (PySem.F.args_tuple_add_2 _ _)
      (tuple_addW0 a b its.toArray its2.toArray n n2 dd dd2 sl sl2 (by rw[e0];rfl)) ⟨ho,ho2,⟨.ref b,H,I,rfl,q b H (Same.refl _) (by rw[hx];exact hb)⟩⟩
  · exact op_catT pins s σ H (.ref a) (.ref b) (.ref a) (.ref b) Q I rfl rfl ⟨a,b,xs,ys,rfl,rfl,SqT.of ha,SqT.of hb,hx,hz,fun z=>q a H (Same.refl _) (by rw[z,List.append_nil];exact ha),fun _ p np=>q p _ (a0g np) a0d⟩
end L2
namespace L2
open PySem PySem.Spec PyProof.Rows
def SameT(H H':Hp):Prop:=∀p vs,H p=some (.tup vs)→H' p=some (.tup vs)
theorem SameT.refl(H:Hp):SameT H H:=fun _ _ h=>h
theorem SameT.trans{H H1 H2:Hp}(x:SameT H H1)(y:SameT H1 H2):SameT H H2:=fun p vs h=>y p vs (x p vs h)
theorem Same.t{H H':Hp}(x:Same H H'):SameT H H':=fun p vs h=>x p _ h
def Ents(Pd:Nat→V→Hp→Prop)(ys:List V)(n:Nat)(H:Hp):Prop:=ys.length=n∧∀j,j < n→∃u,ys[j]? = some u∧Pd j u H
section
variable{Pd Pe:Nat→V→Hp→Prop}{ys:List V}{n:Nat}{H H':Hp}{v:V}
theorem Ents.nil:Ents Pd [] 0 H:=⟨rfl,fun j h=>absurd h (Nat.not_lt_zero j)⟩
theorem Ents.mono(h:Ents Pd ys n H)(s:∀j u,j < n→Pd j u H→Pe j u H'):Ents Pe ys n H':=⟨h.1,fun j hj=>by
  obtain⟨u,e,p⟩:=h.2 j hj
  exact⟨u,e,s j u hj p⟩⟩
theorem Ents.snoc(h:Ents Pd ys n H)(p:Pd n v H):Ents Pd (ys++[v]) (n+1) H:=⟨by rw[List.length_append,h.1];rfl,fun j hj=>by
  by_cases hn:j < n
  · obtain⟨u,e,q⟩:=h.2 j hn
    exact⟨u,by rw[List.getElem?_append_left (by rw[h.1];exact hn)];exact e,q⟩
  · have e:j=n:=by omega
    subst e
    exact⟨v,by rw[List.getElem?_append_right (by rw[h.1];exact Nat.le_refl _),h.1,Nat.sub_self];rfl,p⟩⟩
theorem Ents.at(h:Ents Pd ys n H){j:Nat}{u:V}(e:ys[j]? = some u):j < n∧Pd j u H:=by
  have hj:j < n:=by rw[← h.1];exact(List.getElem?_eq_some_iff.mp e).1
  obtain⟨u',e',p⟩:=h.2 j hj
  rw[e]at e'
  cases e'
  exact⟨hj,p⟩
end
def TupOf(Pd:Nat→V→Hp→Prop)(n:Nat)(v:V)(H:Hp):Prop:=∃p vs,v=.ref p∧H p=some (.tup vs)∧Ents Pd vs n H
def SeqOf(K:PySem.W.Frag)(Pd:Nat→V→Hp→Prop)(n:Nat)(v:V)(H:Hp):Prop:=∃S vs,Sr.ofV S v∧S.vals K H vs∧(∀H',Same H H'→S.vals K H' vs∧LenV K v H' vs.length)∧Ents Pd vs n H
theorem TupOf.seq{K:PySem.W.Frag}{Pd:Nat→V→Hp→Prop}{n:Nat}{v:V}{H:Hp}(h:TupOf Pd n v H):SeqOf K Pd n v H:=by
  obtain⟨p,vs,rfl,hp,e⟩:=h
  exact⟨.tup p,vs,rfl,SqT.of hp,fun H' q=>⟨SqT.of (q _ _ hp),.inr ⟨_,SqT.of (q _ _ hp),rfl⟩⟩,e⟩
theorem TupOf.mono{Pd Pe:Nat→V→Hp→Prop}{n:Nat}{v:V}{H H':Hp}(h:TupOf Pd n v H)(s:SameT H H')(m:∀j u,j < n→Pd j u H→Pe j u H'):TupOf Pe n v H':=by
  obtain⟨p,vs,rfl,hp,e⟩:=h
  exact⟨p,vs,rfl,s _ _ hp,e.mono m⟩
theorem SeqOf.mono{K:PySem.W.Frag}{Pd Pe:Nat→V→Hp→Prop}{n:Nat}{v:V}{H H':Hp}(h:SeqOf K Pd n v H)(s:Same H H')(m:∀j u,j < n→Pd j u H→Pe j u H'):SeqOf K Pe n v H':=by
  obtain⟨S,vs,e,hv,hs,he⟩:=h
  exact⟨S,vs,e,(hs _ s).1,fun H2 q=>hs _ (s.trans q),he.mono m⟩
theorem SeqOf.list{K:PySem.W.Frag}{Pd:Nat→V→Hp→Prop}{n:Nat}{p:Addr}{vs:List V}{H:Hp}(hp:H p=some (.lst vs))(e:Ents Pd vs n H):SeqOf K Pd n (.ref p) H:=
  ⟨.lst p,vs,rfl,SqL.of hp,fun H' q=>⟨SqL.of (q _ _ hp),.inl ⟨_,SqL.of (q _ _ hp),rfl⟩⟩,e⟩
theorem TupOf.len{K:PySem.W.Frag}{Pd:Nat→V→Hp→Prop}{n:Nat}{v:V}{H:Hp}(h:TupOf Pd n v H):LenV K v H n:=by
  obtain⟨p,vs,rfl,hp,e⟩:=h
  have e1:=e.1
  subst e1
  exact .inr ⟨_,SqT.of hp,rfl⟩
theorem SeqOf.len{K:PySem.W.Frag}{Pd:Nat→V→Hp→Prop}{n:Nat}{v:V}{H:Hp}(h:SeqOf K Pd n v H):LenV K v H n:=by
  obtain⟨S,vs,_,_,hs,e⟩:=h
  have q:=(hs _ (Same.refl _)).2
  rw[e.1]at q
  exact q
theorem b0i{J:It}{n k:Nat}{g:TG}{te:TE}{σ:St}{Q:VK}{H1:Hp}(Pv:Nat→List V→Hp→Prop)(hn:n≤1000)(h0:Pv 0 [] H1)(hl:∀i ys H,Pv i ys H→ys.length=i)
    (hgo:∀i ys H,i < n→Pv i ys H→J.go i H∧∀x H',J.yld i H x H'→g x (σ++List.replicate k none) H' fun σ2 H2=>(∃zs,σ2=σ++zs∧zs.length=k)∧te σ2 H2 fun v H3=>Pv (i+1) (ys++[v]) H3)
    (hstop:∀ys H,Pv n ys H→J.stop n H) (hend:∀ys H p,Pv n ys H→H p=none→Q (.ref p) (upd H p (.lst ys))) :
    CTail J k g te σ Q H1:=by
  have z:1000 < sizeLine:=by decide
  refine⟨fun i m ys H=>m=n - i∧i≤n∧Pv i ys H,⟨n,rfl,Nat.zero_le _,h0⟩,?_⟩
  rintro i m ys H ⟨rfl,hi,p⟩
  have yl:=hl i ys H p
  by_cases hlt:i < n
  · obtain⟨a,b⟩:=hgo i ys H hlt p
    refine .inr ⟨a,by omega,fun x H' y=>?_⟩
    have c:=b x H' y
    have e:(fun σ2 H2=>(∃zs,σ2=σ++zs∧zs.length=k)∧te σ2 H2 fun v H3=>∃m',m' < n - i∧m'=n - (i+1)∧i+1≤n∧Pv (i+1) (ys++[v]) H3)=fun σ2 H2=>(∃zs,σ2=σ++zs∧zs.length=k)∧te σ2 H2 fun v H3=>Pv (i+1) (ys++[v]) H3:=by
      funext σ2 H2
      congr 2
      funext v H3
      exact propext ⟨fun⟨_,_,_,_,q⟩=>q,fun q=>⟨_,by omega,rfl,hlt,q⟩⟩
    rw[e]
    exact c
  · have e:i=n:=by omega
    subst e
    exact .inl ⟨hstop ys H p,by omega,fun q nq=>hend ys H q p nq⟩
end L2
namespace L2
open PySem Mine
def KAt(C:Addr)(fs:List (Str × V))(H:Hp)(k:V):Prop:=∃p dx,k=.ref p∧H p=some (.ins C dx fs)
theorem KAt.same{C:Addr}{fs:List (Str × V)}{H H':Hp}{k:V}(e:Same H H')(h:KAt C fs H k):KAt C fs H' k:=by
  obtain⟨p,dx,rfl,h⟩:=h
  exact⟨p,dx,rfl,e _ _ h⟩
def l0e(C:Addr)(fs:List (Str × V))(S:SR)(is:Hp→V→S.W→Prop)(f:S.W→S.W→S.W):Sp:=fun vs H Q _=>∃k x y a b m n,vs=[k,x,y]∧
  (KAt C fs H k∧is H x a∧is H y b∧S.sz m a∧S.sz n b∧m+n≤60000000)∧∀v H',Same H H'→is H' v (f a b)→Q v H'
def l0d(C:Addr)(fs:List (Str × V))(S:SR)(is:Hp→V→S.W→Prop)(z:S.W):Sp:=fun vs H Q _=>∃k,vs=[k]∧KAt C fs H k∧∀v H',Same H H'→is H' v z→Q v H'
set_option genInjectivity false in
set_option genSizeOfSpec false in
structure KindR(P:Program)(w:World)(K:PySem.W.Frag)(mg:Str→Option Value)(base:Heap)where
  S:SR
  C:Addr
  fs:List (Str × V)
  cl:Cls K C
  is:Hp→V→S.W→Prop
  same:∀{H H':Hp} {v:V} {x:S.W},SameT H H'→is H v x→is H' v x
  isd:∀{H:Hp} {v:V} {x:S.W},is H v x→Is K H v (S.data x)
  f_plus:Addr
  d_plus:FuncData
  t_plus:Meth K C "plus" f_plus
  b_plus:Binds K d_plus ["self","x","y"] []
  l_plus:fs.lookup ("plus":Str)=none
  G_plus:FnOk P w K mg base CX0 40 f_plus d_plus ["self","x","y"] (l0e C fs S is S.add)
  f_times:Addr
  d_times:FuncData
  t_times:Meth K C "times" f_times
  b_times:Binds K d_times ["self","x","y"] []
  l_times:fs.lookup ("times":Str)=none
  G_times:FnOk P w K mg base CX0 40 f_times d_times ["self","x","y"] (l0e C fs S is S.mul)
  f_nought:Addr
  d_nought:FuncData
  t_nought:Meth K C "nought" f_nought
  b_nought:Binds K d_nought ["self"] []
  l_nought:fs.lookup ("nought":Str)=none
  G_nought:FnOk P w K mg base CX0 40 f_nought d_nought ["self"] (l0d C fs S is S.zero)
  f_one:Addr
  d_one:FuncData
  t_one:Meth K C "one" f_one
  b_one:Binds K d_one ["self"] []
  l_one:fs.lookup ("one":Str)=none
  G_one:FnOk P w K mg base CX0 40 f_one d_one ["self"] (l0d C fs S is S.one)
section
variable{P:Program}{w:World}{K:PySem.W.Frag}{mg:Str→Option Value}{base:Heap}
theorem KindR.neD(R:KindR P w K mg base){H:Hp}{x y:V}{a b:R.S.W}{Q:VK}(hx:R.is H x a)(hy:R.is H y b)(e:a=b)(q:Q (.bl false) H):rNeD K x y H Q:=
  ⟨_,_,R.isd hx,R.isd hy,R.S.sh _,R.S.sh _,R.S.nm _ _,by subst e;rw[R.S.eq];exact q⟩
theorem KindR.neT(R:KindR P w K mg base){H:Hp}{x y:V}{a b:R.S.W}{Q:VK}(hx:R.is H x a)(hy:R.is H y b)(e:a≠b)(q:Q (.bl true) H):rNeD K x y H Q:=
  ⟨_,_,R.isd hx,R.isd hy,R.S.sh _,R.S.sh _,R.S.nm _ _,by rw[R.S.ne _ _ e];exact q⟩
theorem KindR.eqD(R:KindR P w K mg base){H:Hp}{x y:V}{a b:R.S.W}{Q:VK}(hx:R.is H x a)(hy:R.is H y b)(e:a=b)(q:Q (.bl true) H):rEqD K x y H Q:=
  ⟨_,_,R.isd hx,R.isd hy,R.S.sh _,R.S.sh _,R.S.nm _ _,by subst e;rw[R.S.eq];exact q⟩
end
def IsF(H:Hp)(v:V)(a b:Int):Prop:=∃p,v=.ref p∧H p=some (.tup [.int a,.int b])
theorem IsF.same{H H':Hp}{v:V}{a b:Int}(e:SameT H H')(h:IsF H v a b):IsF H' v a b:=by
  obtain⟨p,rfl,h⟩:=h
  exact⟨p,rfl,e _ _ h⟩
theorem IsF.is{K:PySem.W.Frag}{H:Hp}{v:V}{a b:Int}(h:IsF H v a b):Is K H v (.tuple [.int a,.int b]):=by
  obtain⟨p,rfl,h⟩:=h
  exact .tup (SqT.of h) (.cons (.int _) (.cons (.int _) .nil))
theorem IsF.new{H:Hp}{p:Addr}{a b:Int}:IsF (upd H p (.tup [.int a,.int b])) (.ref p) a b:=⟨p,rfl,a0d⟩
def isFr(H:Hp)(v:V)(x:Fr):Prop:=IsF H v x.t x.b
def isRe(p:Int)(_:Hp)(v:V)(x:Re p):Prop:=v=.int x.x
def cV:Option Int→V
  | none=>.non
  | some i=>.int i
def isCo(_:Hp)(v:V)(x:Option Int):Prop:=v=cV x
def isTr(_:Hp)(v:V)(x:Bool):Prop:=v=.bl x
def pfs(p:Int):List (Str × V):=putF "prime" (.int p) []
theorem pfs_prime(p:Int):(pfs p).lookup ("prime":Str)=some (.int p):=by
  unfold pfs
  rw[e0i,if_pos rfl]
theorem pfs_no(p:Int){m:Str}(h:¬m="prime"):(pfs p).lookup m=none:=by
  unfold pfs
  rw[e0i,if_neg h];rfl
theorem g0m{H:Hp}{C x dx:Addr}{fs:List (Str × V)}(n:H x=none)(m:H dx=none):Same H (upd (upd H dx (.own x)) x (.ins C dx fs)):=fun b o e=>by
  rw[b0b (a0v e n),b0b (a0v e m)];exact e
theorem cut_take(xs:List V)(k:Nat):cutV xs none (some (k:Int))=xs.take k:=by
  unfold cutV
  rw[HT.sIx_none,HT.sIx_nat,List.drop_zero,Nat.sub_zero]
  by_cases h:k≤xs.length
  · rw[Nat.min_eq_left h]
  · rw[Nat.min_eq_right (by omega),List.take_length,List.take_of_length_le (by omega)]
theorem sz_bitsG{x:Int}{n:Nat}(h:x.natAbs≤2 ^ n):Builtin.Int.intBits x≤n+1:=intBits_le_iff.mpr (Nat.lt_of_le_of_lt h (Nat.pow_lt_pow_right (by decide) (Nat.lt_succ_self _)))
theorem mulG{x y:Int}{m n:Nat}(h1:x.natAbs≤2 ^ m)(h2:y.natAbs≤2 ^ n)(h:m+n≤60000000):CMulG x y:=by
  have a:=sz_bitsG h1
  have b:=sz_bitsG h2
  show _≤2 ^ 27
  have e:(2:Nat) ^ 27=134217728:=by decide
  omega
def KindR.Wt{P:Program}{w:World}{K:PySem.W.Frag}{mg:Str→Option Value}{base:Heap}(R:KindR P w K mg base)(x:Nat→R.S.W)(m:Nat):Nat→V→Hp→Prop:=fun j u H=>R.is H u (x j)∧R.S.lv m 32 (x j)
abbrev KindR.Row{P:Program}{w:World}{K:PySem.W.Frag}{mg:Str→Option Value}{base:Heap}(R:KindR P w K mg base)(n:Nat)(x:Nat→R.S.W)(m:Nat):V→Hp→Prop:=TupOf (R.Wt x m) n
abbrev KindR.Seq{P:Program}{w:World}{K:PySem.W.Frag}{mg:Str→Option Value}{base:Heap}(R:KindR P w K mg base)(n:Nat)(x:Nat→R.S.W)(m:Nat):V→Hp→Prop:=SeqOf K (R.Wt x m) n
abbrev KindR.Tab{P:Program}{w:World}{K:PySem.W.Frag}{mg:Str→Option Value}{base:Heap}(R:KindR P w K mg base)(h n:Nat)(x:Nat→Nat→R.S.W)(m:Nat):V→Hp→Prop:=TupOf (fun j u H=>R.Row n (x j) m u H) h
section
variable{P:Program}{w:World}{K:PySem.W.Frag}{mg:Str→Option Value}{base:Heap}{R:KindR P w K mg base}{h n m:Nat}{x:Nat→R.S.W}{y:Nat→Nat→R.S.W}{v:V}{H H':Hp}
theorem KindR.Wt.same(s:SameT H H'){j:Nat}(e:R.Wt x m j v H):R.Wt x m j v H':=⟨R.same s e.1,e.2⟩
theorem KindR.Row.same(s:SameT H H')(e:R.Row n x m v H):R.Row n x m v H':=e.mono s fun _ _ _ q=>KindR.Wt.same s q
theorem KindR.Seq.same(s:Same H H')(e:R.Seq n x m v H):R.Seq n x m v H':=e.mono s fun _ _ _ q=>KindR.Wt.same s.t q
theorem KindR.Tab.same(s:SameT H H')(e:R.Tab h n y m v H):R.Tab h n y m v H':=e.mono s fun _ _ _ q=>KindR.Row.same s q
end
end L2
namespace Mine
def sm(S:SR)(f:Nat→S.W):Nat→S.W
  | 0=>S.zero
  | n+1=>S.add (sm S f n) (f n)
section
variable{S:SR}
theorem a0o{f g:Nat→S.W}:∀{n:Nat},(∀i,i < n→f i=g i)→sm S f n=sm S g n
  | 0,_=>rfl
  | n+1,h=>by
    show S.add _ _=S.add _ _
    rw[a0o fun i hi=>h i (Nat.lt_succ_of_lt hi),h n (Nat.lt_succ_self n)]
theorem f0t:∀n:Nat,sm S (fun _=>S.zero) n=S.zero
  | 0=>rfl
  | n+1=>by show S.add _ _=_;rw[f0t n,S.add_zero]
theorem l0w(f g:Nat→S.W):∀n:Nat,sm S (fun i=>S.add (f i) (g i)) n=S.add (sm S f n) (sm S g n)
  | 0=>(S.add_zero S.zero).symm
  | n+1=>by
    show S.add _ _=S.add (S.add _ _) (S.add _ _)
    rw[l0w f g n,S.add_assoc,S.add_assoc]
    congr 1
    rw[← S.add_assoc,S.add_comm (sm S g n) (f n),S.add_assoc]
theorem f0o(c:S.W)(f:Nat→S.W):∀n:Nat,S.mul c (sm S f n)=sm S (fun i=>S.mul c (f i)) n
  | 0=>S.mul_zero c
  | n+1=>by
    show S.mul c (S.add _ _)=S.add _ _
    rw[S.distrib,f0o c f n]
theorem e0n(c:S.W)(f:Nat→S.W)(n:Nat):S.mul (sm S f n) c=sm S (fun i=>S.mul (f i) c) n:=by
  rw[S.mul_comm,f0o]
  exact a0o fun i _=>S.mul_comm _ _
theorem h0l(f:Nat→Nat→S.W)(k:Nat):∀n:Nat,sm S (fun i=>sm S (fun j=>f i j) k) n=sm S (fun j=>sm S (fun i=>f i j) n) k
  | 0=>(f0t k).symm
  | n+1=>by
    show S.add _ _=_
    rw[h0l f k n,← l0w]
    rfl
theorem j0i(r:Nat→S.W)(A:Nat→Nat→S.W)(b:Nat→S.W)(h w:Nat) :
    sm S (fun j=>S.mul (sm S (fun i=>S.mul (r i) (A i j)) h) (b j)) w=sm S (fun i=>S.mul (r i) (sm S (fun j=>S.mul (A i j) (b j)) w)) h:=by
  have e1:∀j,j < w→S.mul (sm S (fun i=>S.mul (r i) (A i j)) h) (b j)=sm S (fun i=>S.mul (r i) (S.mul (A i j) (b j))) h:=fun j _=>by
    rw[e0n]
    exact a0o fun i _=>S.mul_assoc _ _ _
  have e2:∀i,i < h→S.mul (r i) (sm S (fun j=>S.mul (A i j) (b j)) w)=sm S (fun j=>S.mul (r i) (S.mul (A i j) (b j))) w:=fun i _=>f0o _ _ _
  rw[a0o e1,a0o e2,h0l]
end
end Mine
namespace Mine
section
variable{S:SR}{α β:Type}
theorem zero_add(x:S.W):S.add S.zero x=x:=by rw[S.add_comm,S.add_zero]
theorem one_mul(x:S.W):S.mul S.one x=x:=by rw[S.mul_comm,S.mul_one]
theorem zero_mul(x:S.W):S.mul S.zero x=S.zero:=by rw[S.mul_comm,S.mul_zero]
theorem sm_pick(c:S.W)(k:Nat):∀n:Nat,sm S (fun i=>if k=i then c else S.zero) n=if k < n then c else S.zero
  | 0=>by rw[if_neg (Nat.not_lt_zero k)];rfl
  | n+1=>by
    show S.add _ (if k=n then c else S.zero)=_
    rw[sm_pick c k n]
    by_cases h:k < n
    · rw[if_pos h,if_neg (by omega),if_pos (by omega),S.add_zero]
    · by_cases e:k=n
      · rw[if_neg h,if_pos e,if_pos (by omega),zero_add]
      · rw[if_neg h,if_neg e,if_neg (by omega),S.add_zero]
theorem m0j(g:Nat→S.W)(k n:Nat)(h:k < n):sm S (fun i=>if k=i then g i else S.zero) n=g k:=by
  have e:sm S (fun i=>if k=i then g i else S.zero) n=sm S (fun i=>if k=i then g k else S.zero) n:=a0o fun i _=>by
    by_cases e:k=i
    · rw[if_pos e,if_pos e,e]
    · rw[if_neg e,if_neg e]
  rw[e,sm_pick,if_pos h]
end
def hd(w:List Nat):Nat:=w.headD 0
def la(w:List Nat):Nat:=w.getLastD 0
section
variable(S:SR)(n:Nat)(st:Nat→S.W)(tb:Nat→Nat→Nat→S.W)(wd:Nat→Nat)
def ahd:Nat→Nat→S.W
  | 0=>st
  | k+1=>fun j=>sm S (fun i=>S.mul (ahd k i) (tb (wd k) i j)) n
def bhd:Nat→(Nat→S.W)→Nat→S.W
  | 0,c=>c
  | k+1,c=>bhd k fun i=>sm S (fun j=>S.mul (tb (wd k) i j) (c j)) n
variable{S n st tb wd}
end
end Mine
namespace L2
open PySem PySem.Spec PyProof.Rows
def sg1(z:Str)(i:Nat):Str:=⟨#[(z.cps[i]?).getD 0]⟩
def met(z:Str)(i:Nat)(k:Str):Bool:=(List.range i).any fun j=>k == sg1 z j
section
variable{prog:Program}{w:World}{A:Around}{R:Result→Shared→Prop}{I:Addr}{fp wr:List Addr}{G:Array GenState→Array GenState→Prop}{St:Nat→Shared→Prop}
end
section
variable{prog:Program}{w:World}{A:Around}{E:Value→Shared→Prop}{s:Shared}
set_option maxRecDepth 100000 in
end
end L2
namespace L2
open PySem PySem.Spec PyProof.Rows
end L2
namespace L2
open PySem PySem.Spec PyProof.Rows
end L2
set_option maxHeartbeats 0
lay_quick PySem.Challenge.pw_weighwalk_k28_whole_built
namespace H28
open PySem PySem.W
noncomputable section
abbrev q0:=SL.s658472552662922059x5
abbrev q1:=SL.s14018661285674007319x4
abbrev q2:=SL.s6070975301684473832x10
abbrev q3:=SL.s11030030927630378310x26
abbrev q4:=SL.s10062305145149207511x16
abbrev q5:=SL.s17162191345867700912x4
abbrev q6:=SL.s5946037652744460706x9
abbrev q7:=SL.s4278001404047624695x13
abbrev q8:=SL.s2742458400755230247x6
abbrev q9:=SL.s4209523147560561109x18
abbrev q10:=SL.s14755015743595814543x17
abbrev q11:=SL.s4290257624100764138x5
abbrev q12:=SL.s4860613602091757760x24
abbrev q13:=SL.s11443829558043349243x14
def i(n:Int):Value:=.int n 0
def r(n:Addr):Value:=.ref n
def tu(a:Array Value)(n:Nat):Obj:=⟨.type SL.s2766695959194262286x5,none,.seq a n,#[]⟩
def co(a:Array Value):Obj:=⟨.type SL.s5856160107412720595x4,none,.fields a,#[]⟩
def fo(n q:Str)(s:Stmt)(m c:Value):Obj:=⟨.type SL.s7174869446012820540x8,none,.func ⟨n,q,L2.c0n s,.stmts (L2.c0c s),L2.a0h s,3,[],.none,.none,.none,m,none,c,.none,0⟩,#[]⟩
def f0(n q:Str)(s:Stmt):Obj:=⟨.none,none,.func ⟨n,q,L2.c0n s,.stmts (L2.c0c s),L2.a0h s,0,[],.none,.none,.none,.none,none,.none,.none,0⟩,#[]⟩
abbrev nd:=@BT.node
abbrev nl:=BT.nil
abbrev lf(x:Obj):BT:=.node x .nil .nil
abbrev kh:=@PySem.PyData.keyHash
def topT(i:Nat):Stmt:=Fast.tw18033049676167684184.main.body.getD i (.Pass ⟨0,0,0,0⟩)
def s0:Str:=⟨⟨[60,109,111,100,117,108,101,62]⟩⟩
def s1:Str:=⟨⟨[47,99,108,97,105,109,47,99,117,116,46,112,121]⟩⟩
def s2:Str:=⟨⟨[95,95,109,97,105,110,95,95]⟩⟩
def s3:Str:=⟨⟨[95,95,110,97,109,101,95,95]⟩⟩
def s4:Str:=⟨⟨[108,97,119,95,119,101,105,103,104,119,97,108,107,95,107,50,56,95,119,104,111,108,101,95,98,117,105,108,116]⟩⟩
def s5:Str:=⟨⟨[95,95,100,111,99,95,95]⟩⟩
def s6:Str:=⟨⟨[95,95,112,97,99,107,97,103,101,95,95]⟩⟩
def s7:Str:=⟨⟨[95,95,108,111,97,100,101,114,95,95]⟩⟩
def s8:Str:=⟨⟨[95,95,115,112,101,99,95,95]⟩⟩
def s9:Str:=⟨⟨[95,95,97,110,110,111,116,97,116,105,111,110,115,95,95]⟩⟩
def s10:Str:=⟨⟨[95,95,98,117,105,108,116,105,110,115,95,95]⟩⟩
def s11:Str:=⟨⟨[95,95,102,105,108,101,95,95]⟩⟩
def s12:Str:=⟨⟨[95,95,99,97,99,104,101,100,95,95]⟩⟩
def s13:Str:=⟨⟨[95,119,97,108,108]⟩⟩
def s14:Str:=⟨⟨[87,101,105,103,104,69,114,114,111,114]⟩⟩
def s15:Str:=⟨⟨[78,111,75,105,110,100]⟩⟩
def s16:Str:=⟨⟨[78,111,87,101,105,103,104,116]⟩⟩
def s17:Str:=⟨⟨[78,111,87,111,114,100]⟩⟩
def s18:Str:=⟨⟨[85,110,108,105,107,101]⟩⟩
def s19:Str:=⟨⟨[78,111,67,108,111,115,117,114,101]⟩⟩
def s20:Str:=⟨⟨[84,111,111,71,114,101,97,116]⟩⟩
def s21:Str:=⟨⟨[78,111,84,101,120,116]⟩⟩
def s22:Str:=⟨⟨[110,111,117,103,104,116,115]⟩⟩
def s23:Str:=⟨⟨[117,110,105,116]⟩⟩
def s24:Str:=⟨⟨[116,105,109,101,115,95,114,111,119]⟩⟩
def s25:Str:=⟨⟨[99,111,108,117,109,110,95,97,116]⟩⟩
def s26:Str:=⟨⟨[99,111,108,117,109,110,115,95,111,102]⟩⟩
def s27:Str:=⟨⟨[100,111,116]⟩⟩
def s28:Str:=⟨⟨[114,111,119,95,98,121]⟩⟩
def s29:Str:=⟨⟨[98,121,95,99,111,108,117,109,110]⟩⟩
def s30:Str:=⟨⟨[77,79,83,84,95,82,79,79,77,83]⟩⟩
def s31:Str:=⟨⟨[105,115,95,119,111,114,100]⟩⟩
def s32:Str:=⟨⟨[110,101,101,100,95,119,111,114,100]⟩⟩
def s33:Str:=⟨⟨[114,111,111,109,115]⟩⟩
def s34:Str:=⟨⟨[116,97,98,108,101,95,111,102]⟩⟩
def s35:Str:=⟨⟨[97,104,101,97,100]⟩⟩
def s36:Str:=⟨⟨[119,101,105,103,104,116]⟩⟩
def s37:Str:=⟨⟨[110,101,101,100,95,115,97,109,101,95,108,101,116,116,101,114,115]⟩⟩
def s38:Str:=⟨⟨[110,101,101,100,95,102,101,119,95,114,111,111,109,115]⟩⟩
def s39:Str:=⟨⟨[98,101,115,105,100,101]⟩⟩
def s40:Str:=⟨⟨[112,117,116,95,98,101,115,105,100,101]⟩⟩
def s41:Str:=⟨⟨[97,100,100,101,100]⟩⟩
def s42:Str:=⟨⟨[111,117,116,101,114]⟩⟩
def s43:Str:=⟨⟨[106,111,105,110,101,100]⟩⟩
def s44:Str:=⟨⟨[99,114,111,115,115,95,114,111,119]⟩⟩
def s45:Str:=⟨⟨[99,114,111,115,115,95,116,97,98,108,101]⟩⟩
def s46:Str:=⟨⟨[99,114,111,115,115,101,100]⟩⟩
def s47:Str:=⟨⟨[109,105,114,114,111,114,101,100]⟩⟩
def s48:Str:=⟨⟨[116,117,114,110,101,100]⟩⟩
def s49:Str:=⟨⟨[99,108,111,115,101,100,95,116,97,98,108,101]⟩⟩
def s50:Str:=⟨⟨[110,101,101,100,95,99,108,111,115,97,98,108,101]⟩⟩
def s51:Str:=⟨⟨[99,108,111,115,101,100]⟩⟩
def s52:Str:=⟨⟨[115,105,110,103,108,101,95,114,111,119]⟩⟩
def s53:Str:=⟨⟨[115,105,110,103,108,101]⟩⟩
def s54:Str:=⟨⟨[105,115,95,119,104,111,108,101]⟩⟩
def s55:Str:=⟨⟨[100,105,118,105,115,111,114]⟩⟩
def s56:Str:=⟨⟨[102,114,97,99,116,105,111,110]⟩⟩
def s57:Str:=⟨⟨[105,115,95,112,114,105,109,101]⟩⟩
def s58:Str:=⟨⟨[70,73,71,85,82,69,83]⟩⟩
def s59:Str:=⟨⟨[48,49,50,51,52,53,54,55,56,57]⟩⟩
def s60:Str:=⟨⟨[77,79,83,84,95,70,73,71,85,82,69,83]⟩⟩
def s61:Str:=⟨⟨[71,82,69,65,84,69,83,84,95,80,82,73,77,69]⟩⟩
def s62:Str:=⟨⟨[105,115,95,119,114,105,116,116,101,110]⟩⟩
def s63:Str:=⟨⟨[114,101,97,100,95,119,104,111,108,101]⟩⟩
def s64:Str:=⟨⟨[110,101,101,100,95,116,101,120,116]⟩⟩
def s65:Str:=⟨⟨[75,105,110,100]⟩⟩
def s66:Str:=⟨⟨[70,105,101,108,100]⟩⟩
def s67:Str:=⟨⟨[80,105,99,107,105,110,103]⟩⟩
def s68:Str:=⟨⟨[70,114,97,99,116,105,111,110,115]⟩⟩
def s69:Str:=⟨⟨[82,101,115,105,100,117,101,115]⟩⟩
def s70:Str:=⟨⟨[67,111,115,116,115]⟩⟩
def s71:Str:=⟨⟨[84,114,117,116,104,115]⟩⟩
def s72:Str:=⟨⟨[95,108,97,119,95,110,101,120,116]⟩⟩
def s73:Str:=⟨⟨[95,108,97,119,95,115,116,97,116,101]⟩⟩
def s74:Str:=⟨⟨[95,108,97,119,95,108,111,119]⟩⟩
def s75:Str:=⟨⟨[95,108,97,119,95,112,108,117,115]⟩⟩
def s76:Str:=⟨⟨[95,108,97,119,95,116,105,109,101,115]⟩⟩
def s77:Str:=⟨⟨[95,108,97,119,95,110,111,117,103,104,116]⟩⟩
def s78:Str:=⟨⟨[95,108,97,119,95,111,110,101]⟩⟩
def s79:Str:=⟨⟨[95,108,97,119,95,115,111,114,116]⟩⟩
def s80:Str:=⟨⟨[95,108,97,119,95,107,105,110,100]⟩⟩
def s81:Str:=⟨⟨[95,108,97,119,95,119,101,105,103,104,116]⟩⟩
def s82:Str:=⟨⟨[95,108,97,119,95,108,105,110,101]⟩⟩
def s83:Str:=⟨⟨[95,108,97,119,95,116,97,98,108,101]⟩⟩
def s84:Str:=⟨⟨[95,108,97,119,95,108,101,116,116,101,114,115]⟩⟩
def s85:Str:=⟨⟨[95,108,97,119,95,109,97,99,104,105,110,101]⟩⟩
def s86:Str:=⟨⟨[95,108,97,119,95,100,111,116]⟩⟩
def s87:Str:=⟨⟨[95,108,97,119,95,115,116,101,112]⟩⟩
def s88:Str:=⟨⟨[95,108,97,119,95,119,101,105,103,104]⟩⟩
def s89:Str:=⟨⟨[95,108,97,119,95,119,111,114,100,115]⟩⟩
def s90:Str:=⟨⟨[95,108,97,119,95,115,97,109,101]⟩⟩
def s91:Str:=⟨⟨[95,108,97,119,95,101,109,112,116,105,101,100]⟩⟩
def s92:Str:=⟨⟨[95,108,97,119,95,97,108,105,107,101]⟩⟩
def s93:Str:=⟨⟨[95,108,97,119,95,112,97,105,114,115]⟩⟩
def s94:Str:=⟨⟨[95,108,97,119,95,99,117,116,115]⟩⟩
def s95:Str:=⟨⟨[108,97,119]⟩⟩
def s96:Str:=⟨⟨[107]⟩⟩
def s97:Str:=⟨⟨[95,95,109,111,100,117,108,101,95,95]⟩⟩
def s98:Str:=⟨⟨[119,101,105,103,104,119,97,108,107,46,101,114,114,111,114,115]⟩⟩
def s99:Str:=⟨⟨[95,95,113,117,97,108,110,97,109,101,95,95]⟩⟩
def s100:Str:=⟨⟨[95,95,102,105,114,115,116,108,105,110,101,110,111,95,95]⟩⟩
def s101:Str:=⟨⟨[95,95,115,116,97,116,105,99,95,97,116,116,114,105,98,117,116,101,115,95,95]⟩⟩
def s102:Str:=⟨⟨[95,95,119,101,97,107,114,101,102,95,95]⟩⟩
def s103:Str:=⟨⟨[119,101,105,103,104,119,97,108,107,46,116,97,98,108,101,115]⟩⟩
def s104:Str:=⟨⟨[107,105,110,100]⟩⟩
def s105:Str:=⟨⟨[114,111,119]⟩⟩
def s106:Str:=⟨⟨[99,111,108,117,109,110]⟩⟩
def s107:Str:=⟨⟨[116,111,116,97,108]⟩⟩
def s108:Str:=⟨⟨[120]⟩⟩
def s109:Str:=⟨⟨[121]⟩⟩
def s110:Str:=⟨⟨[119,101,105,103,104,119,97,108,107,46,109,97,99,104,105,110,101,115]⟩⟩
def s111:Str:=⟨⟨[108,101,116,116,101,114,115]⟩⟩
def s112:Str:=⟨⟨[116,104,105,110,103]⟩⟩
def s113:Str:=⟨⟨[109,97,99,104,105,110,101]⟩⟩
def s114:Str:=⟨⟨[108,101,116,116,101,114]⟩⟩
def s115:Str:=⟨⟨[119,111,114,100]⟩⟩
def s116:Str:=⟨⟨[111,110,101]⟩⟩
def s117:Str:=⟨⟨[111,116,104,101,114]⟩⟩
def s118:Str:=⟨⟨[119,101,105,103,104,119,97,108,107,46,98,117,105,108,100,105,110,103]⟩⟩
def s119:Str:=⟨⟨[99,111,117,110,116]⟩⟩
def s120:Str:=⟨⟨[115,116,97,114,116]⟩⟩
def s121:Str:=⟨⟨[116,97,98,108,101,115]⟩⟩
def s122:Str:=⟨⟨[102,105,114,115,116]⟩⟩
def s123:Str:=⟨⟨[115,101,99,111,110,100]⟩⟩
def s124:Str:=⟨⟨[115,116,101,112]⟩⟩
def s125:Str:=⟨⟨[116,111,108,100]⟩⟩
def s126:Str:=⟨⟨[101,109,112,116,121,95,119,101,105,103,104,116]⟩⟩
def s127:Str:=⟨⟨[112,108,97,99,101]⟩⟩
def s128:Str:=⟨⟨[119,101,105,103,104,119,97,108,107,46,114,97,116,105,111,115]⟩⟩
def s129:Str:=⟨⟨[103,114,101,97,116,101,115,116]⟩⟩
def s130:Str:=⟨⟨[114,101,115,116]⟩⟩
def s131:Str:=⟨⟨[108,101,102,116]⟩⟩
def s132:Str:=⟨⟨[116,111,112]⟩⟩
def s133:Str:=⟨⟨[98,111,116,116,111,109]⟩⟩
def s134:Str:=⟨⟨[115,104,97,114,101,100]⟩⟩
def s135:Str:=⟨⟨[110,117,109,98,101,114]⟩⟩
def s136:Str:=⟨⟨[102,97,99,116,111,114]⟩⟩
def s137:Str:=⟨⟨[119,101,105,103,104,119,97,108,107,46,107,105,110,100,115]⟩⟩
def s138:Str:=⟨⟨[116,101,120,116]⟩⟩
def s139:Str:=⟨⟨[95,95,100,105,99,116,95,95]⟩⟩
def s140:Str:=⟨⟨[105,115,95,102,105,101,108,100]⟩⟩
def s141:Str:=⟨⟨[112,105,99,107,115]⟩⟩
def s142:Str:=⟨⟨[115,101,108,102]⟩⟩
def s143:Str:=⟨⟨[70,105,101,108,100,46,105,115,95,102,105,101,108,100]⟩⟩
def s144:Str:=⟨⟨[70,105,101,108,100,46,112,105,99,107,115]⟩⟩
def s145:Str:=⟨⟨[109,105,110,117,115]⟩⟩
def s146:Str:=⟨⟨[105,110,118,101,114,115,101]⟩⟩
def s147:Str:=⟨⟨[80,105,99,107,105,110,103,46,105,115,95,102,105,101,108,100]⟩⟩
def s148:Str:=⟨⟨[80,105,99,107,105,110,103,46,112,105,99,107,115]⟩⟩
def s149:Str:=⟨⟨[80,105,99,107,105,110,103,46,109,105,110,117,115]⟩⟩
def s150:Str:=⟨⟨[80,105,99,107,105,110,103,46,105,110,118,101,114,115,101]⟩⟩
def s151:Str:=⟨⟨[110,111,117,103,104,116]⟩⟩
def s152:Str:=⟨⟨[112,108,117,115]⟩⟩
def s153:Str:=⟨⟨[116,105,109,101,115]⟩⟩
def s154:Str:=⟨⟨[105,115,95,119,101,105,103,104,116]⟩⟩
def s155:Str:=⟨⟨[115,104,111,119,110]⟩⟩
def s156:Str:=⟨⟨[114,101,97,100]⟩⟩
def s157:Str:=⟨⟨[70,114,97,99,116,105,111,110,115,46,116,111,108,100]⟩⟩
def s158:Str:=⟨⟨[70,114,97,99,116,105,111,110,115,46,110,111,117,103,104,116]⟩⟩
def s159:Str:=⟨⟨[70,114,97,99,116,105,111,110,115,46,111,110,101]⟩⟩
def s160:Str:=⟨⟨[70,114,97,99,116,105,111,110,115,46,112,108,117,115]⟩⟩
def s161:Str:=⟨⟨[70,114,97,99,116,105,111,110,115,46,116,105,109,101,115]⟩⟩
def s162:Str:=⟨⟨[70,114,97,99,116,105,111,110,115,46,109,105,110,117,115]⟩⟩
def s163:Str:=⟨⟨[70,114,97,99,116,105,111,110,115,46,105,110,118,101,114,115,101]⟩⟩
def s164:Str:=⟨⟨[70,114,97,99,116,105,111,110,115,46,105,115,95,119,101,105,103,104,116]⟩⟩
def s165:Str:=⟨⟨[70,114,97,99,116,105,111,110,115,46,115,104,111,119,110]⟩⟩
def s166:Str:=⟨⟨[112,105,101,99,101,115]⟩⟩
def s167:Str:=⟨⟨[70,114,97,99,116,105,111,110,115,46,114,101,97,100]⟩⟩
def s168:Str:=⟨⟨[95,95,105,110,105,116,95,95]⟩⟩
def s169:Str:=⟨⟨[112,114,105,109,101]⟩⟩
def s170:Str:=⟨⟨[82,101,115,105,100,117,101,115,46,95,95,105,110,105,116,95,95]⟩⟩
def s171:Str:=⟨⟨[82,101,115,105,100,117,101,115,46,116,111,108,100]⟩⟩
def s172:Str:=⟨⟨[82,101,115,105,100,117,101,115,46,110,111,117,103,104,116]⟩⟩
def s173:Str:=⟨⟨[82,101,115,105,100,117,101,115,46,111,110,101]⟩⟩
def s174:Str:=⟨⟨[82,101,115,105,100,117,101,115,46,112,108,117,115]⟩⟩
def s175:Str:=⟨⟨[82,101,115,105,100,117,101,115,46,116,105,109,101,115]⟩⟩
def s176:Str:=⟨⟨[82,101,115,105,100,117,101,115,46,109,105,110,117,115]⟩⟩
def s177:Str:=⟨⟨[82,101,115,105,100,117,101,115,46,105,110,118,101,114,115,101]⟩⟩
def s178:Str:=⟨⟨[82,101,115,105,100,117,101,115,46,105,115,95,119,101,105,103,104,116]⟩⟩
def s179:Str:=⟨⟨[82,101,115,105,100,117,101,115,46,115,104,111,119,110]⟩⟩
def s180:Str:=⟨⟨[82,101,115,105,100,117,101,115,46,114,101,97,100]⟩⟩
def s181:Str:=⟨⟨[67,111,115,116,115,46,116,111,108,100]⟩⟩
def s182:Str:=⟨⟨[67,111,115,116,115,46,110,111,117,103,104,116]⟩⟩
def s183:Str:=⟨⟨[67,111,115,116,115,46,111,110,101]⟩⟩
def s184:Str:=⟨⟨[67,111,115,116,115,46,112,108,117,115]⟩⟩
def s185:Str:=⟨⟨[67,111,115,116,115,46,116,105,109,101,115]⟩⟩
def s186:Str:=⟨⟨[67,111,115,116,115,46,105,115,95,119,101,105,103,104,116]⟩⟩
def s187:Str:=⟨⟨[67,111,115,116,115,46,115,104,111,119,110]⟩⟩
def s188:Str:=⟨⟨[67,111,115,116,115,46,114,101,97,100]⟩⟩
def s189:Str:=⟨⟨[84,114,117,116,104,115,46,116,111,108,100]⟩⟩
def s190:Str:=⟨⟨[84,114,117,116,104,115,46,110,111,117,103,104,116]⟩⟩
def s191:Str:=⟨⟨[84,114,117,116,104,115,46,111,110,101]⟩⟩
def s192:Str:=⟨⟨[84,114,117,116,104,115,46,112,108,117,115]⟩⟩
def s193:Str:=⟨⟨[84,114,117,116,104,115,46,116,105,109,101,115]⟩⟩
def s194:Str:=⟨⟨[84,114,117,116,104,115,46,105,115,95,119,101,105,103,104,116]⟩⟩
def s195:Str:=⟨⟨[84,114,117,116,104,115,46,115,104,111,119,110]⟩⟩
def s196:Str:=⟨⟨[84,114,117,116,104,115,46,114,101,97,100]⟩⟩
def s197:Str:=⟨⟨[95,108,97,119,95,115,116,97,116,101,95,104,101,114,101]⟩⟩
def s198:Str:=⟨⟨[95,108,97,119,95,109,97,110,121]⟩⟩
def s199:Str:=⟨⟨[95,108,97,119,95,102,111,117,110,100]⟩⟩
def s200:Str:=⟨⟨[95,108,97,119,95,115,99,114,105,112,116]⟩⟩
def s201:Str:=⟨⟨[95,108,97,119,95,115,101,101,100]⟩⟩
def s202:Str:=⟨⟨[95,108,97,119,95,99,101,108,108]⟩⟩
def s203:Str:=⟨⟨[95,108,97,119,95,116,111,112]⟩⟩
def s204:Str:=⟨⟨[95,108,97,119,95,98,111,116,116,111,109]⟩⟩
def s205:Str:=⟨⟨[95,108,97,119,95,111,110,101,95,104,101,114,101]⟩⟩
def s206:Str:=⟨⟨[95,108,97,119,95,98,121]⟩⟩
def s207:Str:=⟨⟨[95,108,97,119,95,115,111,114,116,95,104,101,114,101]⟩⟩
def s208:Str:=⟨⟨[95,108,97,119,95,120]⟩⟩
def s209:Str:=⟨⟨[95,108,97,119,95,121]⟩⟩
def s210:Str:=⟨⟨[95,108,97,119,95,119,97,121]⟩⟩
def s211:Str:=⟨⟨[95,108,97,119,95,112,114,105,109,101]⟩⟩
def s212:Str:=⟨⟨[95,108,97,119,95,103,114,101,97,116]⟩⟩
def s213:Str:=⟨⟨[95,108,97,119,95,102,97,114]⟩⟩
def s214:Str:=⟨⟨[95,108,97,119,95,112,111,111,108]⟩⟩
def s215:Str:=⟨⟨[95,108,97,119,95,108,101,116,116,101,114,115,95,104,101,114,101]⟩⟩
def s216:Str:=⟨⟨[95,108,97,119,95,107]⟩⟩
def s217:Str:=⟨⟨[95,108,97,119,95,97,116]⟩⟩
def s218:Str:=⟨⟨[95,108,97,119,95,114,111,119]⟩⟩
def s219:Str:=⟨⟨[95,108,97,119,95,99,111,108,117,109,110]⟩⟩
def s220:Str:=⟨⟨[95,108,97,119,95,116,111,116,97,108]⟩⟩
def s221:Str:=⟨⟨[95,108,97,119,95,109,97,99,104,105,110,101,95,104,101,114,101]⟩⟩
def s222:Str:=⟨⟨[95,108,97,119,95,119,111,114,100]⟩⟩
def s223:Str:=⟨⟨[95,108,97,119,95,108,101,116,116,101,114]⟩⟩
def s224:Str:=⟨⟨[95,108,97,119,95,109,111,115,116]⟩⟩
def s225:Str:=⟨⟨[95,108,97,119,95,108,101,118,101,108]⟩⟩
def s226:Str:=⟨⟨[95,108,97,119,95,103,114,111,119,110]⟩⟩
def s227:Str:=⟨⟨[95,108,97,119,95,100,117,101]⟩⟩
def s228:Str:=⟨⟨[95,108,97,119,95,115,116,97,114,116]⟩⟩
def s229:Str:=⟨⟨[95,108,97,119,95,101,110,100,115]⟩⟩
def s230:Str:=⟨⟨[95,108,97,119,95,111,116,104,101,114]⟩⟩
def s231:Str:=⟨⟨[95,108,97,119,95,107,105,110,100,95,104,101,114,101]⟩⟩
def s232:Str:=⟨⟨[95,108,97,119,95,97]⟩⟩
def s233:Str:=⟨⟨[95,108,97,119,95,98]⟩⟩
def s234:Str:=⟨⟨[95,108,97,119,95,99]⟩⟩
def s235:Str:=⟨⟨[95,108,97,119,95,98,111,116,104]⟩⟩
def s236:Str:=⟨⟨[95,108,97,119,95,112,97,105,114,115,95,104,101,114,101]⟩⟩
def s237:Str:=⟨⟨[95,108,97,119,95,102,105,114,115,116]⟩⟩
def o11a:Obj:=tu #[] 0
def o12a:Obj:=⟨.none,none,.fields #[],#[]⟩
def o13a:Obj:=co #[.str s0 182,.str s0 183,.str s1 184,i 1,i 0,i 0,i 0,i 0,r 11,.bool false,i 181,r 12,.none,.none,.none,.none,i 185,i 1,.str s1 186]
def o14a:Obj:=⟨.type q0,none,.plain,#[some (r 13),some (r 3),some (r 3),none,some (.str s2 164),none,some (r 0)]⟩
def o3(P:Params):Obj:=⟨.type q1,none,.dict #[⟨kh P s3,.str s3 165,.str s4 1089⟩,⟨kh P s5,.str s5 166,.none⟩,⟨kh P s6,.str s6 167,.none⟩,⟨kh P s7,.str s7 168,.builtin SL.s7097527257260152453x26⟩,⟨kh P s8,.str s8 169,.none⟩,⟨kh P s9,.str s9 170,r 6⟩,⟨kh P s10,.str s10 171,r 4⟩,⟨kh P s11,.str s11 173,.str s1 172⟩,⟨kh P s12,.str s12 174,.none⟩,⟨kh P s13,.str s13 193,r 21⟩,⟨kh P s14,.str s14 213,r 31⟩,⟨kh P s15,.str s15 229,r 44⟩,⟨kh P s16,.str s16 245,r 56⟩,⟨kh P s17,.str s17 261,r 68⟩,⟨kh P s18,.str s18 277,r 80⟩,⟨kh P s19,.str s19 293,r 92⟩,⟨kh P s20,.str s20 309,r 104⟩,⟨kh P s21,.str s21 325,r 116⟩,⟨kh P s22,.str s22 333,r 123⟩,⟨kh P s23,.str s23 339,r 128⟩,⟨kh P s24,.str s24 345,r 133⟩,⟨kh P s25,.str s25 351,r 138⟩,⟨kh P s26,.str s26 357,r 143⟩,⟨kh P s27,.str s27 369,r 150⟩,⟨kh P s28,.str s28 375,r 155⟩,⟨kh P s29,.str s29 381,r 160⟩,⟨kh P s30,.str s30 385,.int 20 384⟩,⟨kh P s31,.str s31 391,r 165⟩,⟨kh P s32,.str s32 399,r 172⟩,⟨kh P s33,.str s33 406,r 179⟩,⟨kh P s34,.str s34 414,r 186⟩,⟨kh P s35,.str s35 425,r 193⟩,⟨kh P s36,.str s36 434,r 200⟩,⟨kh P s37,.str s37 444,r 207⟩,⟨kh P s38,.str s38 451,r 214⟩,⟨kh P s39,.str s39 457,r 219⟩,⟨kh P s40,.str s40 463,r 224⟩,⟨kh P s41,.str s41 472,r 231⟩,⟨kh P s42,.str s42 478,r 236⟩,⟨kh P s43,.str s43 492,r 243⟩,⟨kh P s44,.str s44 503,r 250⟩,⟨kh P s45,.str s45 509,r 255⟩,⟨kh P s46,.str s46 515,r 260⟩,⟨kh P s47,.str s47 521,r 265⟩,⟨kh P s48,.str s48 529,r 272⟩,⟨kh P s49,.str s49 535,r 277⟩,⟨kh P s50,.str s50 543,r 284⟩,⟨kh P s51,.str s51 549,r 289⟩,⟨kh P s52,.str s52 559,r 296⟩,⟨kh P s53,.str s53 565,r 301⟩,⟨kh P s54,.str s54 574,r 308⟩,⟨kh P s55,.str s55 585,r 315⟩,⟨kh P s56,.str s56 594,r 322⟩,⟨kh P s57,.str s57 602,r 329⟩,⟨kh P s58,.str s58 606,.str s59 605⟩,⟨kh P s60,.str s60 608,.int 30 607⟩,⟨kh P s61,.str s61 610,.int 1000000 609⟩,⟨kh P s62,.str s62 616,r 334⟩,⟨kh P s63,.str s63 623,r 341⟩,⟨kh P s64,.str s64 630,r 348⟩,⟨kh P s65,.str s65 650,r 358⟩,⟨kh P s66,.str s66 680,r 386⟩,⟨kh P s67,.str s67 726,r 426⟩,⟨kh P s68,.str s68 824,r 508⟩,⟨kh P s69,.str s69 930,r 597⟩,⟨kh P s70,.str s70 1009,r 665⟩,⟨kh P s71,.str s71 1088,r 733⟩,⟨kh P s72,.str s72 1099,r 742⟩,⟨kh P s73,.str s73 1108,r 749⟩,⟨kh P s74,.str s74 1118,r 756⟩,⟨kh P s75,.str s75 1127,r 763⟩,⟨kh P s76,.str s76 1136,r 770⟩,⟨kh P s77,.str s77 1143,r 777⟩,⟨kh P s78,.str s78 1150,r 784⟩,⟨kh P s79,.str s79 1159,r 791⟩,⟨kh P s80,.str s80 1166,r 798⟩,⟨kh P s81,.str s81 1176,r 805⟩,⟨kh P s82,.str s82 1182,r 810⟩,⟨kh P s83,.str s83 1188,r 815⟩,⟨kh P s84,.str s84 1199,r 822⟩,⟨kh P s85,.str s85 1205,r 827⟩,⟨kh P s86,.str s86 1217,r 834⟩,⟨kh P s87,.str s87 1223,r 839⟩,⟨kh P s88,.str s88 1234,r 846⟩,⟨kh P s89,.str s89 1248,r 853⟩,⟨kh P s90,.str s90 1257,r 860⟩,⟨kh P s91,.str s91 1270,r 867⟩,⟨kh P s92,.str s92 1281,r 874⟩,⟨kh P s93,.str s93 1293,r 881⟩,⟨kh P s94,.str s94 1307,r 888⟩,⟨kh P s95,.str s95 1313,r 893⟩] 91,#[]⟩
def o12:Obj:=⟨.none,none,.fields #[i 1,i 0,r 20,i 5,i 0,r 27,i 7,i 0,r 40,i 9,i 0,r 52,i 11,i 0,r 64,i 13,i 0,r 76,i 15,i 0,r 88,i 17,i 0,r 100,i 19,i 0,r 112,i 22,i 0,r 122,i 24,i 0,r 127,i 26,i 0,r 132,i 28,i 0,r 137,i 30,i 0,r 142,i 34,i 0,r 149,i 39,i 0,r 154,i 41,i 0,r 159,i 45,i 0,r 164,i 47,i 0,r 171,i 50,i 0,r 178,i 52,i 0,r 185,i 54,i 0,r 192,i 60,i 0,r 199,i 63,i 0,r 206,i 66,i 0,r 213,i 69,i 0,r 218,i 73,i 0,r 223,i 77,i 0,r 230,i 81,i 0,r 235,i 83,i 0,r 242,i 92,i 0,r 249,i 97,i 0,r 254,i 102,i 0,r 259,i 108,i 0,r 264,i 111,i 0,r 271,i 114,i 0,r 276,i 119,i 0,r 283,i 122,i 0,r 288,i 129,i 0,r 295,i 133,i 0,r 300,i 143,i 0,r 307,i 145,i 0,r 314,i 153,i 0,r 321,i 162,i 0,r 328,i 175,i 0,r 333,i 184,i 0,r 340,i 188,i 0,r 347,i 191,i 0,r 354,i 193,i 0,r 368,i 200,i 0,r 394,i 213,i 0,r 434,i 256,i 0,r 516,i 296,i 0,r 605,i 330,i 0,r 673,i 361,i 0,r 741,i 370,i 0,r 748,i 377,i 0,r 755,i 384,i 0,r 762,i 394,i 0,r 769,i 404,i 0,r 776,i 406,i 0,r 783,i 408,i 0,r 790,i 411,i 0,r 797,i 419,i 0,r 804,i 432,i 0,r 809,i 434,i 0,r 814,i 436,i 0,r 821,i 444,i 0,r 826,i 448,i 0,r 833,i 453,i 0,r 838,i 458,i 0,r 845,i 463,i 0,r 852,i 474,i 0,r 859,i 484,i 0,r 866,i 499,i 0,r 873,i 506,i 0,r 880,i 515,i 0,r 887,i 521,i 0,r 892],#[]⟩
def o15:Obj:=tu #[] 0
def o16:Obj:=⟨.none,none,.fields #[],#[]⟩
def o17:Obj:=tu #[.str s96 190] 0
def o18:Obj:=tu #[] 0
def o19:Obj:=f0 s13 s13 (topT 0)
def o20:Obj:=co #[.str s13 187,.str s13 188,.str s1 189,i 1,i 1,i 0,i 0,i 3,r 15,.bool true,i 181,r 16,.none,r 17,r 18,r 19,i 191,i 1,.str s1 192]
def o21:Obj:=fo s13 s13 (topT 0) (.str s2 164) (r 20)
def o22:Obj:=tu #[.type q2] 0
def o23:Obj:=⟨.type q3,none,.fields #[.builtin q4,.type q5],#[]⟩
def o24(P:Params):Obj:=⟨.type q1,none,.dict #[⟨kh P s97,.str s97 203,.str s98 194⟩,⟨kh P s99,.str s99 205,.str s14 204⟩,⟨kh P s100,.str s100 207,.int 5 206⟩,⟨kh P s101,.str s101 208,r 29⟩] 4,#[]⟩
def o25:Obj:=tu #[] 0
def o26:Obj:=⟨.none,none,.fields #[],#[]⟩
def o27:Obj:=co #[.str s14 198,.str s14 199,.str s1 200,i 5,i 0,i 0,i 0,i 0,r 25,.bool false,i 181,r 26,.none,.none,.none,.none,i 201,i 5,.str s1 202]
def o28:Obj:=⟨.type q0,none,.plain,#[some (r 27),some (r 3),some (r 24),none,some (.str s98 194),none,some (r 0)]⟩
def o29:Obj:=tu #[] 0
def o30(P:Params):Obj:=⟨.type q1,none,.dict #[⟨kh P s97,.str s97 203,.str s98 194⟩,⟨kh P s100,.str s100 207,.int 5 206⟩,⟨kh P s101,.str s101 208,r 29⟩,⟨kh P s102,.str s102 210,r 32⟩,⟨kh P s5,.str s5 211,.none⟩] 3,#[]⟩
def o31:Obj:=⟨.type q5,none,.cls ⟨s14,[.type q2],[r 31,.type q2,.type q6,.type q7,.type q8],30,s14,true,[],[r 44,r 56,r 68,r 80,r 92,r 104,r 116],false,none,false⟩,#[some (r 22),none,some (.str s14 196),some (.str s14 204),some (.builtin q9),some (.bool true)]⟩
def o32:Obj:=⟨.type q10,none,.fields #[.str s102 209,r 31,.builtin SL.s10220274742760427390x26,.none],#[]⟩
def o33:Obj:=⟨.type q11,none,.fields #[r 31,r 31,r 31],#[]⟩
def o34:Obj:=⟨.type q3,none,.fields #[.builtin q12,r 31],#[]⟩
def o35:Obj:=tu #[r 31] 0
def o36:Obj:=⟨.type q3,none,.fields #[.builtin q4,.type q5],#[]⟩
def o37(P:Params):Obj:=⟨.type q1,none,.dict #[⟨kh P s97,.str s97 221,.str s98 194⟩,⟨kh P s99,.str s99 223,.str s15 222⟩,⟨kh P s100,.str s100 225,.int 7 224⟩,⟨kh P s101,.str s101 226,r 42⟩] 4,#[]⟩
def o38:Obj:=tu #[] 0
def o39:Obj:=⟨.none,none,.fields #[],#[]⟩
def o40:Obj:=co #[.str s15 216,.str s15 217,.str s1 218,i 7,i 0,i 0,i 0,i 0,r 38,.bool false,i 181,r 39,.none,.none,.none,.none,i 219,i 7,.str s1 220]
def o41:Obj:=⟨.type q0,none,.plain,#[some (r 40),some (r 3),some (r 37),none,some (.str s98 194),none,some (r 0)]⟩
def o42:Obj:=tu #[] 0
def o43(P:Params):Obj:=⟨.type q1,none,.dict #[⟨kh P s97,.str s97 221,.str s98 194⟩,⟨kh P s100,.str s100 225,.int 7 224⟩,⟨kh P s101,.str s101 226,r 42⟩,⟨kh P s5,.str s5 227,.none⟩] 2,#[]⟩
def o44:Obj:=⟨.type q5,none,.cls ⟨s15,[r 31],[r 44,r 31,.type q2,.type q6,.type q7,.type q8],43,s15,true,[],[],false,none,false⟩,#[some (r 35),none,some (.str s15 214),some (.str s15 222),some (.builtin q9),some (.bool true)]⟩
def o45:Obj:=⟨.type q11,none,.fields #[r 44,r 44,r 44],#[]⟩
def o46:Obj:=⟨.type q3,none,.fields #[.builtin q12,r 44],#[]⟩
def o47:Obj:=tu #[r 31] 0
def o48:Obj:=⟨.type q3,none,.fields #[.builtin q4,.type q5],#[]⟩
def o49(P:Params):Obj:=⟨.type q1,none,.dict #[⟨kh P s97,.str s97 237,.str s98 194⟩,⟨kh P s99,.str s99 239,.str s16 238⟩,⟨kh P s100,.str s100 241,.int 9 240⟩,⟨kh P s101,.str s101 242,r 54⟩] 4,#[]⟩
def o50:Obj:=tu #[] 0
def o51:Obj:=⟨.none,none,.fields #[],#[]⟩
def o52:Obj:=co #[.str s16 232,.str s16 233,.str s1 234,i 9,i 0,i 0,i 0,i 0,r 50,.bool false,i 181,r 51,.none,.none,.none,.none,i 235,i 9,.str s1 236]
def o53:Obj:=⟨.type q0,none,.plain,#[some (r 52),some (r 3),some (r 49),none,some (.str s98 194),none,some (r 0)]⟩
def o54:Obj:=tu #[] 0
def o55(P:Params):Obj:=⟨.type q1,none,.dict #[⟨kh P s97,.str s97 237,.str s98 194⟩,⟨kh P s100,.str s100 241,.int 9 240⟩,⟨kh P s101,.str s101 242,r 54⟩,⟨kh P s5,.str s5 243,.none⟩] 2,#[]⟩
def o56:Obj:=⟨.type q5,none,.cls ⟨s16,[r 31],[r 56,r 31,.type q2,.type q6,.type q7,.type q8],55,s16,true,[],[],false,none,false⟩,#[some (r 47),none,some (.str s16 230),some (.str s16 238),some (.builtin q9),some (.bool true)]⟩
def o57:Obj:=⟨.type q11,none,.fields #[r 56,r 56,r 56],#[]⟩
def o58:Obj:=⟨.type q3,none,.fields #[.builtin q12,r 56],#[]⟩
def o59:Obj:=tu #[r 31] 0
def o60:Obj:=⟨.type q3,none,.fields #[.builtin q4,.type q5],#[]⟩
def o61(P:Params):Obj:=⟨.type q1,none,.dict #[⟨kh P s97,.str s97 253,.str s98 194⟩,⟨kh P s99,.str s99 255,.str s17 254⟩,⟨kh P s100,.str s100 257,.int 11 256⟩,⟨kh P s101,.str s101 258,r 66⟩] 4,#[]⟩
def o62:Obj:=tu #[] 0
def o63:Obj:=⟨.none,none,.fields #[],#[]⟩
def o64:Obj:=co #[.str s17 248,.str s17 249,.str s1 250,i 11,i 0,i 0,i 0,i 0,r 62,.bool false,i 181,r 63,.none,.none,.none,.none,i 251,i 11,.str s1 252]
def o65:Obj:=⟨.type q0,none,.plain,#[some (r 64),some (r 3),some (r 61),none,some (.str s98 194),none,some (r 0)]⟩
def o66:Obj:=tu #[] 0
def o67(P:Params):Obj:=⟨.type q1,none,.dict #[⟨kh P s97,.str s97 253,.str s98 194⟩,⟨kh P s100,.str s100 257,.int 11 256⟩,⟨kh P s101,.str s101 258,r 66⟩,⟨kh P s5,.str s5 259,.none⟩] 2,#[]⟩
def o68:Obj:=⟨.type q5,none,.cls ⟨s17,[r 31],[r 68,r 31,.type q2,.type q6,.type q7,.type q8],67,s17,true,[],[],false,none,false⟩,#[some (r 59),none,some (.str s17 246),some (.str s17 254),some (.builtin q9),some (.bool true)]⟩
def o69:Obj:=⟨.type q11,none,.fields #[r 68,r 68,r 68],#[]⟩
def o70:Obj:=⟨.type q3,none,.fields #[.builtin q12,r 68],#[]⟩
def o71:Obj:=tu #[r 31] 0
def o72:Obj:=⟨.type q3,none,.fields #[.builtin q4,.type q5],#[]⟩
def o73(P:Params):Obj:=⟨.type q1,none,.dict #[⟨kh P s97,.str s97 269,.str s98 194⟩,⟨kh P s99,.str s99 271,.str s18 270⟩,⟨kh P s100,.str s100 273,.int 13 272⟩,⟨kh P s101,.str s101 274,r 78⟩] 4,#[]⟩
def o74:Obj:=tu #[] 0
def o75:Obj:=⟨.none,none,.fields #[],#[]⟩
def o76:Obj:=co #[.str s18 264,.str s18 265,.str s1 266,i 13,i 0,i 0,i 0,i 0,r 74,.bool false,i 181,r 75,.none,.none,.none,.none,i 267,i 13,.str s1 268]
def o77:Obj:=⟨.type q0,none,.plain,#[some (r 76),some (r 3),some (r 73),none,some (.str s98 194),none,some (r 0)]⟩
def o78:Obj:=tu #[] 0
def o79(P:Params):Obj:=⟨.type q1,none,.dict #[⟨kh P s97,.str s97 269,.str s98 194⟩,⟨kh P s100,.str s100 273,.int 13 272⟩,⟨kh P s101,.str s101 274,r 78⟩,⟨kh P s5,.str s5 275,.none⟩] 2,#[]⟩
def o80:Obj:=⟨.type q5,none,.cls ⟨s18,[r 31],[r 80,r 31,.type q2,.type q6,.type q7,.type q8],79,s18,true,[],[],false,none,false⟩,#[some (r 71),none,some (.str s18 262),some (.str s18 270),some (.builtin q9),some (.bool true)]⟩
def o81:Obj:=⟨.type q11,none,.fields #[r 80,r 80,r 80],#[]⟩
def o82:Obj:=⟨.type q3,none,.fields #[.builtin q12,r 80],#[]⟩
def o83:Obj:=tu #[r 31] 0
def o84:Obj:=⟨.type q3,none,.fields #[.builtin q4,.type q5],#[]⟩
def o85(P:Params):Obj:=⟨.type q1,none,.dict #[⟨kh P s97,.str s97 285,.str s98 194⟩,⟨kh P s99,.str s99 287,.str s19 286⟩,⟨kh P s100,.str s100 289,.int 15 288⟩,⟨kh P s101,.str s101 290,r 90⟩] 4,#[]⟩
def o86:Obj:=tu #[] 0
def o87:Obj:=⟨.none,none,.fields #[],#[]⟩
def o88:Obj:=co #[.str s19 280,.str s19 281,.str s1 282,i 15,i 0,i 0,i 0,i 0,r 86,.bool false,i 181,r 87,.none,.none,.none,.none,i 283,i 15,.str s1 284]
def o89:Obj:=⟨.type q0,none,.plain,#[some (r 88),some (r 3),some (r 85),none,some (.str s98 194),none,some (r 0)]⟩
def o90:Obj:=tu #[] 0
def o91(P:Params):Obj:=⟨.type q1,none,.dict #[⟨kh P s97,.str s97 285,.str s98 194⟩,⟨kh P s100,.str s100 289,.int 15 288⟩,⟨kh P s101,.str s101 290,r 90⟩,⟨kh P s5,.str s5 291,.none⟩] 2,#[]⟩
def o92:Obj:=⟨.type q5,none,.cls ⟨s19,[r 31],[r 92,r 31,.type q2,.type q6,.type q7,.type q8],91,s19,true,[],[],false,none,false⟩,#[some (r 83),none,some (.str s19 278),some (.str s19 286),some (.builtin q9),some (.bool true)]⟩
def o93:Obj:=⟨.type q11,none,.fields #[r 92,r 92,r 92],#[]⟩
def o94:Obj:=⟨.type q3,none,.fields #[.builtin q12,r 92],#[]⟩
def o95:Obj:=tu #[r 31] 0
def o96:Obj:=⟨.type q3,none,.fields #[.builtin q4,.type q5],#[]⟩
def o97(P:Params):Obj:=⟨.type q1,none,.dict #[⟨kh P s97,.str s97 301,.str s98 194⟩,⟨kh P s99,.str s99 303,.str s20 302⟩,⟨kh P s100,.str s100 305,.int 17 304⟩,⟨kh P s101,.str s101 306,r 102⟩] 4,#[]⟩
def o98:Obj:=tu #[] 0
def o99:Obj:=⟨.none,none,.fields #[],#[]⟩
def o100:Obj:=co #[.str s20 296,.str s20 297,.str s1 298,i 17,i 0,i 0,i 0,i 0,r 98,.bool false,i 181,r 99,.none,.none,.none,.none,i 299,i 17,.str s1 300]
def o101:Obj:=⟨.type q0,none,.plain,#[some (r 100),some (r 3),some (r 97),none,some (.str s98 194),none,some (r 0)]⟩
def o102:Obj:=tu #[] 0
def o103(P:Params):Obj:=⟨.type q1,none,.dict #[⟨kh P s97,.str s97 301,.str s98 194⟩,⟨kh P s100,.str s100 305,.int 17 304⟩,⟨kh P s101,.str s101 306,r 102⟩,⟨kh P s5,.str s5 307,.none⟩] 2,#[]⟩
def o104:Obj:=⟨.type q5,none,.cls ⟨s20,[r 31],[r 104,r 31,.type q2,.type q6,.type q7,.type q8],103,s20,true,[],[],false,none,false⟩,#[some (r 95),none,some (.str s20 294),some (.str s20 302),some (.builtin q9),some (.bool true)]⟩
def o105:Obj:=⟨.type q11,none,.fields #[r 104,r 104,r 104],#[]⟩
def o106:Obj:=⟨.type q3,none,.fields #[.builtin q12,r 104],#[]⟩
def o107:Obj:=tu #[r 31] 0
def o108:Obj:=⟨.type q3,none,.fields #[.builtin q4,.type q5],#[]⟩
def o109(P:Params):Obj:=⟨.type q1,none,.dict #[⟨kh P s97,.str s97 317,.str s98 194⟩,⟨kh P s99,.str s99 319,.str s21 318⟩,⟨kh P s100,.str s100 321,.int 19 320⟩,⟨kh P s101,.str s101 322,r 114⟩] 4,#[]⟩
def o110:Obj:=tu #[] 0
def o111:Obj:=⟨.none,none,.fields #[],#[]⟩
def o112:Obj:=co #[.str s21 312,.str s21 313,.str s1 314,i 19,i 0,i 0,i 0,i 0,r 110,.bool false,i 181,r 111,.none,.none,.none,.none,i 315,i 19,.str s1 316]
def o113:Obj:=⟨.type q0,none,.plain,#[some (r 112),some (r 3),some (r 109),none,some (.str s98 194),none,some (r 0)]⟩
def o114:Obj:=tu #[] 0
def o115(P:Params):Obj:=⟨.type q1,none,.dict #[⟨kh P s97,.str s97 317,.str s98 194⟩,⟨kh P s100,.str s100 321,.int 19 320⟩,⟨kh P s101,.str s101 322,r 114⟩,⟨kh P s5,.str s5 323,.none⟩] 2,#[]⟩
def o116:Obj:=⟨.type q5,none,.cls ⟨s21,[r 31],[r 116,r 31,.type q2,.type q6,.type q7,.type q8],115,s21,true,[],[],false,none,false⟩,#[some (r 107),none,some (.str s21 310),some (.str s21 318),some (.builtin q9),some (.bool true)]⟩
def o117:Obj:=⟨.type q11,none,.fields #[r 116,r 116,r 116],#[]⟩
def o118:Obj:=⟨.type q3,none,.fields #[.builtin q12,r 116],#[]⟩
def o119:Obj:=tu #[] 0
def o120:Obj:=⟨.none,none,.fields #[],#[]⟩
def o121:Obj:=f0 s22 s22 (topT 11)
def o122:Obj:=co #[.str s22 328,.str s22 329,.str s1 330,i 22,i 2,i 0,i 0,i 3,r 119,.bool true,i 181,r 120,.none,.none,.none,r 121,i 331,i 22,.str s1 332]
def o123:Obj:=fo s22 s22 (topT 11) (.str s103 326) (r 122)
def o124:Obj:=tu #[] 0
def o125:Obj:=⟨.none,none,.fields #[],#[]⟩
def o126:Obj:=f0 s23 s23 (topT 12)
def o127:Obj:=co #[.str s23 334,.str s23 335,.str s1 336,i 24,i 3,i 0,i 0,i 3,r 124,.bool true,i 181,r 125,.none,.none,.none,r 126,i 337,i 24,.str s1 338]
def o128:Obj:=fo s23 s23 (topT 12) (.str s103 326) (r 127)
def o129:Obj:=tu #[] 0
def o130:Obj:=⟨.none,none,.fields #[],#[]⟩
def o131:Obj:=f0 s24 s24 (topT 13)
def o132:Obj:=co #[.str s24 340,.str s24 341,.str s1 342,i 26,i 3,i 0,i 0,i 3,r 129,.bool true,i 181,r 130,.none,.none,.none,r 131,i 343,i 26,.str s1 344]
def o133:Obj:=fo s24 s24 (topT 13) (.str s103 326) (r 132)
def o134:Obj:=tu #[] 0
def o135:Obj:=⟨.none,none,.fields #[],#[]⟩
def o136:Obj:=f0 s25 s25 (topT 14)
def o137:Obj:=co #[.str s25 346,.str s25 347,.str s1 348,i 28,i 2,i 0,i 0,i 3,r 134,.bool true,i 181,r 135,.none,.none,.none,r 136,i 349,i 28,.str s1 350]
def o138:Obj:=fo s25 s25 (topT 14) (.str s103 326) (r 137)
def o139:Obj:=tu #[] 0
def o140:Obj:=⟨.none,none,.fields #[],#[]⟩
def o141:Obj:=f0 s26 s26 (topT 15)
def o142:Obj:=co #[.str s26 352,.str s26 353,.str s1 354,i 30,i 1,i 0,i 0,i 3,r 139,.bool true,i 181,r 140,.none,.none,.none,r 141,i 355,i 30,.str s1 356]
def o143:Obj:=fo s26 s26 (topT 15) (.str s103 326) (r 142)
def o144:Obj:=tu #[] 0
def o145:Obj:=⟨.none,none,.fields #[],#[]⟩
def o146:Obj:=tu #[.str s104 361,.str s105 362,.str s106 363,.str s107 364,.str s108 365,.str s109 366] 0
def o147:Obj:=tu #[] 0
def o148:Obj:=f0 s27 s27 (topT 16)
def o149:Obj:=co #[.str s27 358,.str s27 359,.str s1 360,i 34,i 3,i 0,i 0,i 3,r 144,.bool true,i 181,r 145,.none,r 146,r 147,r 148,i 367,i 34,.str s1 368]
def o150:Obj:=fo s27 s27 (topT 16) (.str s103 326) (r 149)
def o151:Obj:=tu #[] 0
def o152:Obj:=⟨.none,none,.fields #[],#[]⟩
def o153:Obj:=f0 s28 s28 (topT 17)
def o154:Obj:=co #[.str s28 370,.str s28 371,.str s1 372,i 39,i 3,i 0,i 0,i 3,r 151,.bool true,i 181,r 152,.none,.none,.none,r 153,i 373,i 39,.str s1 374]
def o155:Obj:=fo s28 s28 (topT 17) (.str s103 326) (r 154)
def o156:Obj:=tu #[] 0
def o157:Obj:=⟨.none,none,.fields #[],#[]⟩
def o158:Obj:=f0 s29 s29 (topT 18)
def o159:Obj:=co #[.str s29 376,.str s29 377,.str s1 378,i 41,i 3,i 0,i 0,i 3,r 156,.bool true,i 181,r 157,.none,.none,.none,r 158,i 379,i 41,.str s1 380]
def o160:Obj:=fo s29 s29 (topT 18) (.str s103 326) (r 159)
def o161:Obj:=tu #[] 0
def o162:Obj:=⟨.none,none,.fields #[],#[]⟩
def o163:Obj:=f0 s31 s31 (topT 21)
def o164:Obj:=co #[.str s31 386,.str s31 387,.str s1 388,i 45,i 2,i 0,i 0,i 3,r 161,.bool true,i 181,r 162,.none,.none,.none,r 163,i 389,i 45,.str s1 390]
def o165:Obj:=fo s31 s31 (topT 21) (.str s110 382) (r 164)
def o166:Obj:=tu #[] 0
def o167:Obj:=⟨.none,none,.fields #[],#[]⟩
def o168:Obj:=tu #[.str s111 395,.str s112 396] 0
def o169:Obj:=tu #[] 0
def o170:Obj:=f0 s32 s32 (topT 22)
def o171:Obj:=co #[.str s32 392,.str s32 393,.str s1 394,i 47,i 2,i 0,i 0,i 3,r 166,.bool true,i 181,r 167,.none,r 168,r 169,r 170,i 397,i 47,.str s1 398]
def o172:Obj:=fo s32 s32 (topT 22) (.str s110 382) (r 171)
def o173:Obj:=tu #[] 0
def o174:Obj:=⟨.none,none,.fields #[],#[]⟩
def o175:Obj:=tu #[.str s113 403] 0
def o176:Obj:=tu #[] 0
def o177:Obj:=f0 s33 s33 (topT 23)
def o178:Obj:=co #[.str s33 400,.str s33 401,.str s1 402,i 50,i 1,i 0,i 0,i 3,r 173,.bool true,i 181,r 174,.none,r 175,r 176,r 177,i 404,i 50,.str s1 405]
def o179:Obj:=fo s33 s33 (topT 23) (.str s110 382) (r 178)
def o180:Obj:=tu #[] 0
def o181:Obj:=⟨.none,none,.fields #[],#[]⟩
def o182:Obj:=tu #[.str s113 410,.str s114 411] 0
def o183:Obj:=tu #[] 0
def o184:Obj:=f0 s34 s34 (topT 24)
def o185:Obj:=co #[.str s34 407,.str s34 408,.str s1 409,i 52,i 2,i 0,i 0,i 3,r 180,.bool true,i 181,r 181,.none,r 182,r 183,r 184,i 412,i 52,.str s1 413]
def o186:Obj:=fo s34 s34 (topT 24) (.str s110 382) (r 185)
def o187:Obj:=tu #[] 0
def o188:Obj:=⟨.none,none,.fields #[],#[]⟩
def o189:Obj:=tu #[.str s104 418,.str s113 419,.str s115 420,.str s105 421,.str s114 422] 0
def o190:Obj:=tu #[] 0
def o191:Obj:=f0 s35 s35 (topT 25)
def o192:Obj:=co #[.str s35 415,.str s35 416,.str s1 417,i 54,i 3,i 0,i 0,i 3,r 187,.bool true,i 181,r 188,.none,r 189,r 190,r 191,i 423,i 54,.str s1 424]
def o193:Obj:=fo s35 s35 (topT 25) (.str s110 382) (r 192)
def o194:Obj:=tu #[] 0
def o195:Obj:=⟨.none,none,.fields #[],#[]⟩
def o196:Obj:=tu #[.str s104 429,.str s113 430,.str s115 431] 0
def o197:Obj:=tu #[] 0
def o198:Obj:=f0 s36 s36 (topT 26)
def o199:Obj:=co #[.str s36 426,.str s36 427,.str s1 428,i 60,i 3,i 0,i 0,i 3,r 194,.bool true,i 181,r 195,.none,r 196,r 197,r 198,i 432,i 60,.str s1 433]
def o200:Obj:=fo s36 s36 (topT 26) (.str s110 382) (r 199)
def o201:Obj:=tu #[] 0
def o202:Obj:=⟨.none,none,.fields #[],#[]⟩
def o203:Obj:=tu #[.str s116 440,.str s117 441] 0
def o204:Obj:=tu #[] 0
def o205:Obj:=f0 s37 s37 (topT 28)
def o206:Obj:=co #[.str s37 437,.str s37 438,.str s1 439,i 63,i 2,i 0,i 0,i 3,r 201,.bool true,i 181,r 202,.none,r 203,r 204,r 205,i 442,i 63,.str s1 443]
def o207:Obj:=fo s37 s37 (topT 28) (.str s118 435) (r 206)
def o208:Obj:=tu #[] 0
def o209:Obj:=⟨.none,none,.fields #[],#[]⟩
def o210:Obj:=tu #[.str s119 448] 0
def o211:Obj:=tu #[] 0
def o212:Obj:=f0 s38 s38 (topT 29)
def o213:Obj:=co #[.str s38 445,.str s38 446,.str s1 447,i 66,i 1,i 0,i 0,i 3,r 208,.bool true,i 181,r 209,.none,r 210,r 211,r 212,i 449,i 66,.str s1 450]
def o214:Obj:=fo s38 s38 (topT 29) (.str s118 435) (r 213)
def o215:Obj:=tu #[] 0
def o216:Obj:=⟨.none,none,.fields #[],#[]⟩
def o217:Obj:=f0 s39 s39 (topT 30)
def o218:Obj:=co #[.str s39 452,.str s39 453,.str s1 454,i 69,i 4,i 0,i 0,i 3,r 215,.bool true,i 181,r 216,.none,.none,.none,r 217,i 455,i 69,.str s1 456]
def o219:Obj:=fo s39 s39 (topT 30) (.str s118 435) (r 218)
def o220:Obj:=tu #[] 0
def o221:Obj:=⟨.none,none,.fields #[],#[]⟩
def o222:Obj:=f0 s40 s40 (topT 31)
def o223:Obj:=co #[.str s40 458,.str s40 459,.str s1 460,i 73,i 3,i 0,i 0,i 3,r 220,.bool true,i 181,r 221,.none,.none,.none,r 222,i 461,i 73,.str s1 462]
def o224:Obj:=fo s40 s40 (topT 31) (.str s118 435) (r 223)
def o225:Obj:=tu #[] 0
def o226:Obj:=⟨.none,none,.fields #[],#[]⟩
def o227:Obj:=tu #[.str s104 467,.str s116 468,.str s117 469] 0
def o228:Obj:=tu #[] 0
def o229:Obj:=f0 s41 s41 (topT 32)
def o230:Obj:=co #[.str s41 464,.str s41 465,.str s1 466,i 77,i 3,i 0,i 0,i 3,r 225,.bool true,i 181,r 226,.none,r 227,r 228,r 229,i 470,i 77,.str s1 471]
def o231:Obj:=fo s41 s41 (topT 32) (.str s118 435) (r 230)
def o232:Obj:=tu #[] 0
def o233:Obj:=⟨.none,none,.fields #[],#[]⟩
def o234:Obj:=f0 s42 s42 (topT 33)
def o235:Obj:=co #[.str s42 473,.str s42 474,.str s1 475,i 81,i 3,i 0,i 0,i 3,r 232,.bool true,i 181,r 233,.none,.none,.none,r 234,i 476,i 81,.str s1 477]
def o236:Obj:=fo s42 s42 (topT 33) (.str s118 435) (r 235)
def o237:Obj:=tu #[] 0
def o238:Obj:=⟨.none,none,.fields #[],#[]⟩
def o239:Obj:=tu #[.str s104 482,.str s116 483,.str s117 484,.str s120 485,.str s121 486,.str s122 487,.str s123 488,.str s124 489] 0
def o240:Obj:=tu #[] 0
def o241:Obj:=f0 s43 s43 (topT 34)
def o242:Obj:=co #[.str s43 479,.str s43 480,.str s1 481,i 83,i 3,i 0,i 0,i 3,r 237,.bool true,i 181,r 238,.none,r 239,r 240,r 241,i 490,i 83,.str s1 491]
def o243:Obj:=fo s43 s43 (topT 34) (.str s118 435) (r 242)
def o244:Obj:=tu #[] 0
def o245:Obj:=⟨.none,none,.fields #[],#[]⟩
def o246:Obj:=tu #[.str s104 496,.str s116 497,.str s117 498,.str s125 499,.str s108 500] 0
def o247:Obj:=tu #[] 0
def o248:Obj:=f0 s44 s44 (topT 35)
def o249:Obj:=co #[.str s44 493,.str s44 494,.str s1 495,i 92,i 3,i 0,i 0,i 3,r 244,.bool true,i 181,r 245,.none,r 246,r 247,r 248,i 501,i 92,.str s1 502]
def o250:Obj:=fo s44 s44 (topT 35) (.str s118 435) (r 249)
def o251:Obj:=tu #[] 0
def o252:Obj:=⟨.none,none,.fields #[],#[]⟩
def o253:Obj:=f0 s45 s45 (topT 36)
def o254:Obj:=co #[.str s45 504,.str s45 505,.str s1 506,i 97,i 3,i 0,i 0,i 3,r 251,.bool true,i 181,r 252,.none,.none,.none,r 253,i 507,i 97,.str s1 508]
def o255:Obj:=fo s45 s45 (topT 36) (.str s118 435) (r 254)
def o256:Obj:=tu #[] 0
def o257:Obj:=⟨.none,none,.fields #[],#[]⟩
def o258:Obj:=f0 s46 s46 (topT 37)
def o259:Obj:=co #[.str s46 510,.str s46 511,.str s1 512,i 102,i 3,i 0,i 0,i 3,r 256,.bool true,i 181,r 257,.none,.none,.none,r 258,i 513,i 102,.str s1 514]
def o260:Obj:=fo s46 s46 (topT 37) (.str s118 435) (r 259)
def o261:Obj:=tu #[] 0
def o262:Obj:=⟨.none,none,.fields #[],#[]⟩
def o263:Obj:=f0 s47 s47 (topT 38)
def o264:Obj:=co #[.str s47 516,.str s47 517,.str s1 518,i 108,i 1,i 0,i 0,i 3,r 261,.bool true,i 181,r 262,.none,.none,.none,r 263,i 519,i 108,.str s1 520]
def o265:Obj:=fo s47 s47 (topT 38) (.str s118 435) (r 264)
def o266:Obj:=tu #[] 0
def o267:Obj:=⟨.none,none,.fields #[],#[]⟩
def o268:Obj:=tu #[.str s104 525,.str s113 526] 0
def o269:Obj:=tu #[] 0
def o270:Obj:=f0 s48 s48 (topT 39)
def o271:Obj:=co #[.str s48 522,.str s48 523,.str s1 524,i 111,i 2,i 0,i 0,i 3,r 266,.bool true,i 181,r 267,.none,r 268,r 269,r 270,i 527,i 111,.str s1 528]
def o272:Obj:=fo s48 s48 (topT 39) (.str s118 435) (r 271)
def o273:Obj:=tu #[] 0
def o274:Obj:=⟨.none,none,.fields #[],#[]⟩
def o275:Obj:=f0 s49 s49 (topT 40)
def o276:Obj:=co #[.str s49 530,.str s49 531,.str s1 532,i 114,i 3,i 0,i 0,i 3,r 273,.bool true,i 181,r 274,.none,.none,.none,r 275,i 533,i 114,.str s1 534]
def o277:Obj:=fo s49 s49 (topT 40) (.str s118 435) (r 276)
def o278:Obj:=tu #[] 0
def o279:Obj:=⟨.none,none,.fields #[],#[]⟩
def o280:Obj:=tu #[.str s104 539,.str s126 540] 0
def o281:Obj:=tu #[] 0
def o282:Obj:=f0 s50 s50 (topT 41)
def o283:Obj:=co #[.str s50 536,.str s50 537,.str s1 538,i 119,i 2,i 0,i 0,i 3,r 278,.bool true,i 181,r 279,.none,r 280,r 281,r 282,i 541,i 119,.str s1 542]
def o284:Obj:=fo s50 s50 (topT 41) (.str s118 435) (r 283)
def o285:Obj:=tu #[] 0
def o286:Obj:=⟨.none,none,.fields #[],#[]⟩
def o287:Obj:=f0 s51 s51 (topT 42)
def o288:Obj:=co #[.str s51 544,.str s51 545,.str s1 546,i 122,i 2,i 0,i 0,i 3,r 285,.bool true,i 181,r 286,.none,.none,.none,r 287,i 547,i 122,.str s1 548]
def o289:Obj:=fo s51 s51 (topT 42) (.str s118 435) (r 288)
def o290:Obj:=tu #[] 0
def o291:Obj:=⟨.none,none,.fields #[],#[]⟩
def o292:Obj:=tu #[.str s104 553,.str s114 554,.str s115 555,.str s127 556] 0
def o293:Obj:=tu #[] 0
def o294:Obj:=f0 s52 s52 (topT 43)
def o295:Obj:=co #[.str s52 550,.str s52 551,.str s1 552,i 129,i 4,i 0,i 0,i 3,r 290,.bool true,i 181,r 291,.none,r 292,r 293,r 294,i 557,i 129,.str s1 558]
def o296:Obj:=fo s52 s52 (topT 43) (.str s118 435) (r 295)
def o297:Obj:=tu #[] 0
def o298:Obj:=⟨.none,none,.fields #[],#[]⟩
def o299:Obj:=f0 s53 s53 (topT 44)
def o300:Obj:=co #[.str s53 560,.str s53 561,.str s1 562,i 133,i 4,i 0,i 0,i 3,r 297,.bool true,i 181,r 298,.none,.none,.none,r 299,i 563,i 133,.str s1 564]
def o301:Obj:=fo s53 s53 (topT 44) (.str s118 435) (r 300)
def o302:Obj:=tu #[] 0
def o303:Obj:=⟨.none,none,.fields #[],#[]⟩
def o304:Obj:=tu #[.str s112 571] 0
def o305:Obj:=tu #[] 0
def o306:Obj:=f0 s54 s54 (topT 46)
def o307:Obj:=co #[.str s54 568,.str s54 569,.str s1 570,i 143,i 1,i 0,i 0,i 3,r 302,.bool true,i 181,r 303,.none,r 304,r 305,r 306,i 572,i 143,.str s1 573]
def o308:Obj:=fo s54 s54 (topT 46) (.str s128 566) (r 307)
def o309:Obj:=tu #[] 0
def o310:Obj:=⟨.none,none,.fields #[],#[]⟩
def o311:Obj:=tu #[.str s116 578,.str s117 579,.str s129 580,.str s130 581,.str s131 582] 0
def o312:Obj:=tu #[] 0
def o313:Obj:=f0 s55 s55 (topT 47)
def o314:Obj:=co #[.str s55 575,.str s55 576,.str s1 577,i 145,i 2,i 0,i 0,i 3,r 309,.bool true,i 181,r 310,.none,r 311,r 312,r 313,i 583,i 145,.str s1 584]
def o315:Obj:=fo s55 s55 (topT 47) (.str s128 566) (r 314)
def o316:Obj:=tu #[] 0
def o317:Obj:=⟨.none,none,.fields #[],#[]⟩
def o318:Obj:=tu #[.str s132 589,.str s133 590,.str s134 591] 0
def o319:Obj:=tu #[] 0
def o320:Obj:=f0 s56 s56 (topT 48)
def o321:Obj:=co #[.str s56 586,.str s56 587,.str s1 588,i 153,i 2,i 0,i 0,i 3,r 316,.bool true,i 181,r 317,.none,r 318,r 319,r 320,i 592,i 153,.str s1 593]
def o322:Obj:=fo s56 s56 (topT 48) (.str s128 566) (r 321)
def o323:Obj:=tu #[] 0
def o324:Obj:=⟨.none,none,.fields #[],#[]⟩
def o325:Obj:=tu #[.str s135 598,.str s136 599] 0
def o326:Obj:=tu #[] 0
def o327:Obj:=f0 s57 s57 (topT 49)
def o328:Obj:=co #[.str s57 595,.str s57 596,.str s1 597,i 162,i 1,i 0,i 0,i 3,r 323,.bool true,i 181,r 324,.none,r 325,r 326,r 327,i 600,i 162,.str s1 601]
def o329:Obj:=fo s57 s57 (topT 49) (.str s128 566) (r 328)
def o330:Obj:=tu #[] 0
def o331:Obj:=⟨.none,none,.fields #[],#[]⟩
def o332:Obj:=f0 s62 s62 (topT 54)
def o333:Obj:=co #[.str s62 611,.str s62 612,.str s1 613,i 175,i 1,i 0,i 0,i 3,r 330,.bool true,i 181,r 331,.none,.none,.none,r 332,i 614,i 175,.str s1 615]
def o334:Obj:=fo s62 s62 (topT 54) (.str s137 603) (r 333)
def o335:Obj:=tu #[] 0
def o336:Obj:=⟨.none,none,.fields #[],#[]⟩
def o337:Obj:=tu #[.str s138 620] 0
def o338:Obj:=tu #[] 0
def o339:Obj:=f0 s63 s63 (topT 55)
def o340:Obj:=co #[.str s63 617,.str s63 618,.str s1 619,i 184,i 1,i 0,i 0,i 3,r 335,.bool true,i 181,r 336,.none,r 337,r 338,r 339,i 621,i 184,.str s1 622]
def o341:Obj:=fo s63 s63 (topT 55) (.str s137 603) (r 340)
def o342:Obj:=tu #[] 0
def o343:Obj:=⟨.none,none,.fields #[],#[]⟩
def o344:Obj:=tu #[.str s138 627] 0
def o345:Obj:=tu #[] 0
def o346:Obj:=f0 s64 s64 (topT 56)
def o347:Obj:=co #[.str s64 624,.str s64 625,.str s1 626,i 188,i 1,i 0,i 0,i 3,r 342,.bool true,i 181,r 343,.none,r 344,r 345,r 346,i 628,i 188,.str s1 629]
def o348:Obj:=fo s64 s64 (topT 56) (.str s137 603) (r 347)
def o349:Obj:=tu #[] 0
def o350:Obj:=⟨.type q3,none,.fields #[.builtin q4,.type q5],#[]⟩
def o351(P:Params):Obj:=⟨.type q1,none,.dict #[⟨kh P s97,.str s97 638,.str s137 603⟩,⟨kh P s99,.str s99 640,.str s65 639⟩,⟨kh P s100,.str s100 642,.int 191 641⟩,⟨kh P s101,.str s101 643,r 356⟩] 4,#[]⟩
def o352:Obj:=tu #[] 0
def o353:Obj:=⟨.none,none,.fields #[],#[]⟩
def o354:Obj:=co #[.str s65 633,.str s65 634,.str s1 635,i 191,i 0,i 0,i 0,i 0,r 352,.bool false,i 181,r 353,.none,.none,.none,.none,i 636,i 191,.str s1 637]
def o355:Obj:=⟨.type q0,none,.plain,#[some (r 354),some (r 3),some (r 351),none,some (.str s137 603),none,some (r 0)]⟩
def o356:Obj:=tu #[] 0
def o357(P:Params):Obj:=⟨.type q1,none,.dict #[⟨kh P s97,.str s97 638,.str s137 603⟩,⟨kh P s100,.str s100 642,.int 191 641⟩,⟨kh P s101,.str s101 643,r 356⟩,⟨kh P s139,.str s139 645,r 359⟩,⟨kh P s102,.str s102 647,r 360⟩,⟨kh P s5,.str s5 648,.none⟩] 4,#[]⟩
def o358:Obj:=⟨.type q5,none,.cls ⟨s65,[.type q8],[r 358,.type q8],357,s65,true,[],[r 386,r 426],false,none,false⟩,#[none,none,some (.str s65 631),some (.str s65 639),some (.builtin q13),some (.bool true)]⟩
def o359:Obj:=⟨.type q10,none,.fields #[.str s139 644,r 358,.builtin SL.s6511155373996960695x17,.builtin SL.s12411053484034534018x21],#[]⟩
def o360:Obj:=⟨.type q10,none,.fields #[.str s102 646,r 358,.builtin SL.s10220274742760427390x26,.none],#[]⟩
def o361:Obj:=⟨.type q11,none,.fields #[r 358,r 358,r 358],#[]⟩
def o362:Obj:=⟨.type q3,none,.fields #[.builtin q12,r 358],#[]⟩
def o363:Obj:=tu #[r 358] 0
def o364:Obj:=⟨.type q3,none,.fields #[.builtin q4,.type q5],#[]⟩
def o365(P:Params):Obj:=⟨.type q1,none,.dict #[⟨kh P s97,.str s97 658,.str s137 603⟩,⟨kh P s99,.str s99 660,.str s66 659⟩,⟨kh P s100,.str s100 662,.int 193 661⟩,⟨kh P s140,.str s140 669,r 376⟩,⟨kh P s141,.str s141 676,r 383⟩,⟨kh P s101,.str s101 677,r 384⟩] 6,#[]⟩
def o366:Obj:=tu #[] 0
def o367:Obj:=⟨.none,none,.fields #[i 195,i 4,r 375,i 198,i 4,r 382],#[]⟩
def o368:Obj:=co #[.str s66 653,.str s66 654,.str s1 655,i 193,i 0,i 0,i 0,i 0,r 366,.bool false,i 181,r 367,.none,.none,.none,.none,i 656,i 193,.str s1 657]
def o369:Obj:=⟨.type q0,none,.plain,#[some (r 368),some (r 3),some (r 365),none,some (.str s137 603),none,some (r 0)]⟩
def o370:Obj:=tu #[] 0
def o371:Obj:=⟨.none,none,.fields #[],#[]⟩
def o372:Obj:=tu #[.str s142 666] 0
def o373:Obj:=tu #[] 0
def o374:Obj:=f0 s140 s143 (L2.a0j (topT 58) 0)
def o375:Obj:=co #[.str s140 663,.str s143 664,.str s1 665,i 195,i 1,i 0,i 0,i 3,r 370,.bool true,i 181,r 371,.none,r 372,r 373,r 374,i 667,i 195,.str s1 668]
def o376:Obj:=fo s140 s143 (L2.a0j (topT 58) 0) (.str s137 603) (r 375)
def o377:Obj:=tu #[] 0
def o378:Obj:=⟨.none,none,.fields #[],#[]⟩
def o379:Obj:=tu #[.str s142 673] 0
def o380:Obj:=tu #[] 0
def o381:Obj:=f0 s141 s144 (L2.a0j (topT 58) 1)
def o382:Obj:=co #[.str s141 670,.str s144 671,.str s1 672,i 198,i 1,i 0,i 0,i 3,r 377,.bool true,i 181,r 378,.none,r 379,r 380,r 381,i 674,i 198,.str s1 675]
def o383:Obj:=fo s141 s144 (L2.a0j (topT 58) 1) (.str s137 603) (r 382)
def o384:Obj:=tu #[] 0
def o385(P:Params):Obj:=⟨.type q1,none,.dict #[⟨kh P s97,.str s97 658,.str s137 603⟩,⟨kh P s100,.str s100 662,.int 193 661⟩,⟨kh P s140,.str s140 669,r 376⟩,⟨kh P s141,.str s141 676,r 383⟩,⟨kh P s101,.str s101 677,r 384⟩,⟨kh P s5,.str s5 678,.none⟩] 2,#[]⟩
def o386:Obj:=⟨.type q5,none,.cls ⟨s66,[r 358],[r 386,r 358,.type q8],385,s66,true,[],[r 508,r 597],false,none,false⟩,#[some (r 363),none,some (.str s66 651),some (.str s66 659),some (.builtin q13),some (.bool true)]⟩
def o387:Obj:=⟨.type q11,none,.fields #[r 386,r 386,r 386],#[]⟩
def o388:Obj:=⟨.type q3,none,.fields #[.builtin q12,r 386],#[]⟩
def o389:Obj:=tu #[r 358] 0
def o390:Obj:=⟨.type q3,none,.fields #[.builtin q4,.type q5],#[]⟩
def o391(P:Params):Obj:=⟨.type q1,none,.dict #[⟨kh P s97,.str s97 688,.str s137 603⟩,⟨kh P s99,.str s99 690,.str s67 689⟩,⟨kh P s100,.str s100 692,.int 200 691⟩,⟨kh P s140,.str s140 699,r 402⟩,⟨kh P s141,.str s141 706,r 409⟩,⟨kh P s145,.str s145 714,r 416⟩,⟨kh P s146,.str s146 722,r 423⟩,⟨kh P s101,.str s101 723,r 424⟩] 8,#[]⟩
def o392:Obj:=tu #[] 0
def o393:Obj:=⟨.none,none,.fields #[i 202,i 4,r 401,i 205,i 4,r 408,i 208,i 4,r 415,i 211,i 4,r 422],#[]⟩
def o394:Obj:=co #[.str s67 683,.str s67 684,.str s1 685,i 200,i 0,i 0,i 0,i 0,r 392,.bool false,i 181,r 393,.none,.none,.none,.none,i 686,i 200,.str s1 687]
def o395:Obj:=⟨.type q0,none,.plain,#[some (r 394),some (r 3),some (r 391),none,some (.str s137 603),none,some (r 0)]⟩
def o396:Obj:=tu #[] 0
def o397:Obj:=⟨.none,none,.fields #[],#[]⟩
def o398:Obj:=tu #[.str s142 696] 0
def o399:Obj:=tu #[] 0
def o400:Obj:=f0 s140 s147 (L2.a0j (topT 59) 0)
def o401:Obj:=co #[.str s140 693,.str s147 694,.str s1 695,i 202,i 1,i 0,i 0,i 3,r 396,.bool true,i 181,r 397,.none,r 398,r 399,r 400,i 697,i 202,.str s1 698]
def o402:Obj:=fo s140 s147 (L2.a0j (topT 59) 0) (.str s137 603) (r 401)
def o403:Obj:=tu #[] 0
def o404:Obj:=⟨.none,none,.fields #[],#[]⟩
def o405:Obj:=tu #[.str s142 703] 0
def o406:Obj:=tu #[] 0
def o407:Obj:=f0 s141 s148 (L2.a0j (topT 59) 1)
def o408:Obj:=co #[.str s141 700,.str s148 701,.str s1 702,i 205,i 1,i 0,i 0,i 3,r 403,.bool true,i 181,r 404,.none,r 405,r 406,r 407,i 704,i 205,.str s1 705]
def o409:Obj:=fo s141 s148 (L2.a0j (topT 59) 1) (.str s137 603) (r 408)
def o410:Obj:=tu #[] 0
def o411:Obj:=⟨.none,none,.fields #[],#[]⟩
def o412:Obj:=tu #[.str s142 710,.str s108 711] 0
def o413:Obj:=tu #[] 0
def o414:Obj:=f0 s145 s149 (L2.a0j (topT 59) 2)
def o415:Obj:=co #[.str s145 707,.str s149 708,.str s1 709,i 208,i 2,i 0,i 0,i 3,r 410,.bool true,i 181,r 411,.none,r 412,r 413,r 414,i 712,i 208,.str s1 713]
def o416:Obj:=fo s145 s149 (L2.a0j (topT 59) 2) (.str s137 603) (r 415)
def o417:Obj:=tu #[] 0
def o418:Obj:=⟨.none,none,.fields #[],#[]⟩
def o419:Obj:=tu #[.str s142 718,.str s108 719] 0
def o420:Obj:=tu #[] 0
def o421:Obj:=f0 s146 s150 (L2.a0j (topT 59) 3)
def o422:Obj:=co #[.str s146 715,.str s150 716,.str s1 717,i 211,i 2,i 0,i 0,i 3,r 417,.bool true,i 181,r 418,.none,r 419,r 420,r 421,i 720,i 211,.str s1 721]
def o423:Obj:=fo s146 s150 (L2.a0j (topT 59) 3) (.str s137 603) (r 422)
def o424:Obj:=tu #[] 0
def o425(P:Params):Obj:=⟨.type q1,none,.dict #[⟨kh P s97,.str s97 688,.str s137 603⟩,⟨kh P s100,.str s100 692,.int 200 691⟩,⟨kh P s140,.str s140 699,r 402⟩,⟨kh P s141,.str s141 706,r 409⟩,⟨kh P s145,.str s145 714,r 416⟩,⟨kh P s146,.str s146 722,r 423⟩,⟨kh P s101,.str s101 723,r 424⟩,⟨kh P s5,.str s5 724,.none⟩] 2,#[]⟩
def o426:Obj:=⟨.type q5,none,.cls ⟨s67,[r 358],[r 426,r 358,.type q8],425,s67,true,[],[r 665,r 733],false,none,false⟩,#[some (r 389),none,some (.str s67 681),some (.str s67 689),some (.builtin q13),some (.bool true)]⟩
def o427:Obj:=⟨.type q11,none,.fields #[r 426,r 426,r 426],#[]⟩
def o428:Obj:=⟨.type q3,none,.fields #[.builtin q12,r 426],#[]⟩
def o429:Obj:=tu #[r 386] 0
def o430:Obj:=⟨.type q3,none,.fields #[.builtin q4,.type q5],#[]⟩
def o431(P:Params):Obj:=⟨.type q1,none,.dict #[⟨kh P s97,.str s97 734,.str s137 603⟩,⟨kh P s99,.str s99 736,.str s68 735⟩,⟨kh P s100,.str s100 738,.int 213 737⟩,⟨kh P s125,.str s125 745,r 442⟩,⟨kh P s151,.str s151 752,r 449⟩,⟨kh P s116,.str s116 759,r 456⟩,⟨kh P s152,.str s152 768,r 463⟩,⟨kh P s153,.str s153 777,r 470⟩,⟨kh P s145,.str s145 785,r 477⟩,⟨kh P s146,.str s146 793,r 484⟩,⟨kh P s154,.str s154 801,r 491⟩,⟨kh P s155,.str s155 809,r 498⟩,⟨kh P s156,.str s156 820,r 505⟩,⟨kh P s101,.str s101 821,r 506⟩] 14,#[]⟩
def o432:Obj:=tu #[] 0
def o433:Obj:=⟨.none,none,.fields #[i 215,i 4,r 441,i 218,i 4,r 448,i 221,i 4,r 455,i 224,i 4,r 462,i 227,i 4,r 469,i 230,i 4,r 476,i 233,i 4,r 483,i 236,i 4,r 490,i 243,i 4,r 497,i 246,i 4,r 504],#[]⟩
def o434:Obj:=co #[.str s68 729,.str s68 730,.str s1 731,i 213,i 0,i 0,i 0,i 0,r 432,.bool false,i 181,r 433,.none,.none,.none,.none,i 732,i 213,.str s1 733]
def o435:Obj:=⟨.type q0,none,.plain,#[some (r 434),some (r 3),some (r 431),none,some (.str s137 603),none,some (r 0)]⟩
def o436:Obj:=tu #[] 0
def o437:Obj:=⟨.none,none,.fields #[],#[]⟩
def o438:Obj:=tu #[.str s142 742] 0
def o439:Obj:=tu #[] 0
def o440:Obj:=f0 s125 s157 (L2.a0j (topT 60) 0)
def o441:Obj:=co #[.str s125 739,.str s157 740,.str s1 741,i 215,i 1,i 0,i 0,i 3,r 436,.bool true,i 181,r 437,.none,r 438,r 439,r 440,i 743,i 215,.str s1 744]
def o442:Obj:=fo s125 s157 (L2.a0j (topT 60) 0) (.str s137 603) (r 441)
def o443:Obj:=tu #[] 0
def o444:Obj:=⟨.none,none,.fields #[],#[]⟩
def o445:Obj:=tu #[.str s142 749] 0
def o446:Obj:=tu #[] 0
def o447:Obj:=f0 s151 s158 (L2.a0j (topT 60) 1)
def o448:Obj:=co #[.str s151 746,.str s158 747,.str s1 748,i 218,i 1,i 0,i 0,i 3,r 443,.bool true,i 181,r 444,.none,r 445,r 446,r 447,i 750,i 218,.str s1 751]
def o449:Obj:=fo s151 s158 (L2.a0j (topT 60) 1) (.str s137 603) (r 448)
def o450:Obj:=tu #[] 0
def o451:Obj:=⟨.none,none,.fields #[],#[]⟩
def o452:Obj:=tu #[.str s142 756] 0
def o453:Obj:=tu #[] 0
def o454:Obj:=f0 s116 s159 (L2.a0j (topT 60) 2)
def o455:Obj:=co #[.str s116 753,.str s159 754,.str s1 755,i 221,i 1,i 0,i 0,i 3,r 450,.bool true,i 181,r 451,.none,r 452,r 453,r 454,i 757,i 221,.str s1 758]
def o456:Obj:=fo s116 s159 (L2.a0j (topT 60) 2) (.str s137 603) (r 455)
def o457:Obj:=tu #[] 0
def o458:Obj:=⟨.none,none,.fields #[],#[]⟩
def o459:Obj:=tu #[.str s142 763,.str s108 764,.str s109 765] 0
def o460:Obj:=tu #[] 0
def o461:Obj:=f0 s152 s160 (L2.a0j (topT 60) 3)
def o462:Obj:=co #[.str s152 760,.str s160 761,.str s1 762,i 224,i 3,i 0,i 0,i 3,r 457,.bool true,i 181,r 458,.none,r 459,r 460,r 461,i 766,i 224,.str s1 767]
def o463:Obj:=fo s152 s160 (L2.a0j (topT 60) 3) (.str s137 603) (r 462)
def o464:Obj:=tu #[] 0
def o465:Obj:=⟨.none,none,.fields #[],#[]⟩
def o466:Obj:=tu #[.str s142 772,.str s108 773,.str s109 774] 0
def o467:Obj:=tu #[] 0
def o468:Obj:=f0 s153 s161 (L2.a0j (topT 60) 4)
def o469:Obj:=co #[.str s153 769,.str s161 770,.str s1 771,i 227,i 3,i 0,i 0,i 3,r 464,.bool true,i 181,r 465,.none,r 466,r 467,r 468,i 775,i 227,.str s1 776]
def o470:Obj:=fo s153 s161 (L2.a0j (topT 60) 4) (.str s137 603) (r 469)
def o471:Obj:=tu #[] 0
def o472:Obj:=⟨.none,none,.fields #[],#[]⟩
def o473:Obj:=tu #[.str s142 781,.str s108 782] 0
def o474:Obj:=tu #[] 0
def o475:Obj:=f0 s145 s162 (L2.a0j (topT 60) 5)
def o476:Obj:=co #[.str s145 778,.str s162 779,.str s1 780,i 230,i 2,i 0,i 0,i 3,r 471,.bool true,i 181,r 472,.none,r 473,r 474,r 475,i 783,i 230,.str s1 784]
def o477:Obj:=fo s145 s162 (L2.a0j (topT 60) 5) (.str s137 603) (r 476)
def o478:Obj:=tu #[] 0
def o479:Obj:=⟨.none,none,.fields #[],#[]⟩
def o480:Obj:=tu #[.str s142 789,.str s108 790] 0
def o481:Obj:=tu #[] 0
def o482:Obj:=f0 s146 s163 (L2.a0j (topT 60) 6)
def o483:Obj:=co #[.str s146 786,.str s163 787,.str s1 788,i 233,i 2,i 0,i 0,i 3,r 478,.bool true,i 181,r 479,.none,r 480,r 481,r 482,i 791,i 233,.str s1 792]
def o484:Obj:=fo s146 s163 (L2.a0j (topT 60) 6) (.str s137 603) (r 483)
def o485:Obj:=tu #[] 0
def o486:Obj:=⟨.none,none,.fields #[],#[]⟩
def o487:Obj:=tu #[.str s142 797,.str s112 798] 0
def o488:Obj:=tu #[] 0
def o489:Obj:=f0 s154 s164 (L2.a0j (topT 60) 7)
def o490:Obj:=co #[.str s154 794,.str s164 795,.str s1 796,i 236,i 2,i 0,i 0,i 3,r 485,.bool true,i 181,r 486,.none,r 487,r 488,r 489,i 799,i 236,.str s1 800]
def o491:Obj:=fo s154 s164 (L2.a0j (topT 60) 7) (.str s137 603) (r 490)
def o492:Obj:=tu #[] 0
def o493:Obj:=⟨.none,none,.fields #[],#[]⟩
def o494:Obj:=tu #[.str s142 805,.str s108 806] 0
def o495:Obj:=tu #[] 0
def o496:Obj:=f0 s155 s165 (L2.a0j (topT 60) 8)
def o497:Obj:=co #[.str s155 802,.str s165 803,.str s1 804,i 243,i 2,i 0,i 0,i 3,r 492,.bool true,i 181,r 493,.none,r 494,r 495,r 496,i 807,i 243,.str s1 808]
def o498:Obj:=fo s155 s165 (L2.a0j (topT 60) 8) (.str s137 603) (r 497)
def o499:Obj:=tu #[] 0
def o500:Obj:=⟨.none,none,.fields #[],#[]⟩
def o501:Obj:=tu #[.str s142 813,.str s138 814,.str s166 815,.str s132 816,.str s133 817] 0
def o502:Obj:=tu #[] 0
def o503:Obj:=f0 s156 s167 (L2.a0j (topT 60) 9)
def o504:Obj:=co #[.str s156 810,.str s167 811,.str s1 812,i 246,i 2,i 0,i 0,i 3,r 499,.bool true,i 181,r 500,.none,r 501,r 502,r 503,i 818,i 246,.str s1 819]
def o505:Obj:=fo s156 s167 (L2.a0j (topT 60) 9) (.str s137 603) (r 504)
def o506:Obj:=tu #[] 0
def o507(P:Params):Obj:=⟨.type q1,none,.dict #[⟨kh P s97,.str s97 734,.str s137 603⟩,⟨kh P s100,.str s100 738,.int 213 737⟩,⟨kh P s125,.str s125 745,r 442⟩,⟨kh P s151,.str s151 752,r 449⟩,⟨kh P s116,.str s116 759,r 456⟩,⟨kh P s152,.str s152 768,r 463⟩,⟨kh P s153,.str s153 777,r 470⟩,⟨kh P s145,.str s145 785,r 477⟩,⟨kh P s146,.str s146 793,r 484⟩,⟨kh P s154,.str s154 801,r 491⟩,⟨kh P s155,.str s155 809,r 498⟩,⟨kh P s156,.str s156 820,r 505⟩,⟨kh P s101,.str s101 821,r 506⟩,⟨kh P s5,.str s5 822,.none⟩] 2,#[]⟩
def o508:Obj:=⟨.type q5,none,.cls ⟨s68,[r 386],[r 508,r 386,r 358,.type q8],507,s68,true,[],[],false,none,false⟩,#[some (r 429),none,some (.str s68 727),some (.str s68 735),some (.builtin q13),some (.bool true)]⟩
def o509:Obj:=⟨.type q11,none,.fields #[r 508,r 508,r 508],#[]⟩
def o510:Obj:=⟨.type q3,none,.fields #[.builtin q12,r 508],#[]⟩
def o511:Obj:=tu #[r 386] 0
def o512:Obj:=⟨.type q3,none,.fields #[.builtin q4,.type q5],#[]⟩
def o513(P:Params):Obj:=⟨.type q1,none,.dict #[⟨kh P s97,.str s97 832,.str s137 603⟩,⟨kh P s99,.str s99 834,.str s69 833⟩,⟨kh P s100,.str s100 836,.int 256 835⟩,⟨kh P s168,.str s168 844,r 524⟩,⟨kh P s125,.str s125 852,r 531⟩,⟨kh P s151,.str s151 859,r 538⟩,⟨kh P s116,.str s116 866,r 545⟩,⟨kh P s152,.str s152 875,r 552⟩,⟨kh P s153,.str s153 884,r 559⟩,⟨kh P s145,.str s145 892,r 566⟩,⟨kh P s146,.str s146 900,r 573⟩,⟨kh P s154,.str s154 908,r 580⟩,⟨kh P s155,.str s155 916,r 587⟩,⟨kh P s156,.str s156 925,r 594⟩,⟨kh P s101,.str s101 927,r 595⟩] 15,#[]⟩
def o514:Obj:=tu #[] 0
def o515:Obj:=⟨.none,none,.fields #[i 258,i 4,r 523,i 263,i 4,r 530,i 267,i 4,r 537,i 270,i 4,r 544,i 273,i 4,r 551,i 276,i 4,r 558,i 279,i 4,r 565,i 282,i 4,r 572,i 285,i 4,r 579,i 288,i 4,r 586,i 291,i 4,r 593],#[]⟩
def o516:Obj:=co #[.str s69 827,.str s69 828,.str s1 829,i 256,i 0,i 0,i 0,i 0,r 514,.bool false,i 181,r 515,.none,.none,.none,.none,i 830,i 256,.str s1 831]
def o517:Obj:=⟨.type q0,none,.plain,#[some (r 516),some (r 3),some (r 513),none,some (.str s137 603),none,some (r 0)]⟩
def o518:Obj:=tu #[] 0
def o519:Obj:=⟨.none,none,.fields #[],#[]⟩
def o520:Obj:=tu #[.str s142 840,.str s169 841] 0
def o521:Obj:=tu #[] 0
def o522:Obj:=f0 s168 s170 (L2.a0j (topT 61) 0)
def o523:Obj:=co #[.str s168 837,.str s170 838,.str s1 839,i 258,i 2,i 0,i 0,i 3,r 518,.bool true,i 181,r 519,.none,r 520,r 521,r 522,i 842,i 258,.str s1 843]
def o524:Obj:=fo s168 s170 (L2.a0j (topT 61) 0) (.str s137 603) (r 523)
def o525:Obj:=tu #[] 0
def o526:Obj:=⟨.none,none,.fields #[],#[]⟩
def o527:Obj:=tu #[.str s142 848,.str s169 849] 0
def o528:Obj:=tu #[] 0
def o529:Obj:=f0 s125 s171 (L2.a0j (topT 61) 1)
def o530:Obj:=co #[.str s125 845,.str s171 846,.str s1 847,i 263,i 1,i 0,i 0,i 3,r 525,.bool true,i 181,r 526,.none,r 527,r 528,r 529,i 850,i 263,.str s1 851]
def o531:Obj:=fo s125 s171 (L2.a0j (topT 61) 1) (.str s137 603) (r 530)
def o532:Obj:=tu #[] 0
def o533:Obj:=⟨.none,none,.fields #[],#[]⟩
def o534:Obj:=tu #[.str s142 856] 0
def o535:Obj:=tu #[] 0
def o536:Obj:=f0 s151 s172 (L2.a0j (topT 61) 2)
def o537:Obj:=co #[.str s151 853,.str s172 854,.str s1 855,i 267,i 1,i 0,i 0,i 3,r 532,.bool true,i 181,r 533,.none,r 534,r 535,r 536,i 857,i 267,.str s1 858]
def o538:Obj:=fo s151 s172 (L2.a0j (topT 61) 2) (.str s137 603) (r 537)
def o539:Obj:=tu #[] 0
def o540:Obj:=⟨.none,none,.fields #[],#[]⟩
def o541:Obj:=tu #[.str s142 863] 0
def o542:Obj:=tu #[] 0
def o543:Obj:=f0 s116 s173 (L2.a0j (topT 61) 3)
def o544:Obj:=co #[.str s116 860,.str s173 861,.str s1 862,i 270,i 1,i 0,i 0,i 3,r 539,.bool true,i 181,r 540,.none,r 541,r 542,r 543,i 864,i 270,.str s1 865]
def o545:Obj:=fo s116 s173 (L2.a0j (topT 61) 3) (.str s137 603) (r 544)
def o546:Obj:=tu #[] 0
def o547:Obj:=⟨.none,none,.fields #[],#[]⟩
def o548:Obj:=tu #[.str s142 870,.str s108 871,.str s109 872] 0
def o549:Obj:=tu #[] 0
def o550:Obj:=f0 s152 s174 (L2.a0j (topT 61) 4)
def o551:Obj:=co #[.str s152 867,.str s174 868,.str s1 869,i 273,i 3,i 0,i 0,i 3,r 546,.bool true,i 181,r 547,.none,r 548,r 549,r 550,i 873,i 273,.str s1 874]
def o552:Obj:=fo s152 s174 (L2.a0j (topT 61) 4) (.str s137 603) (r 551)
def o553:Obj:=tu #[] 0
def o554:Obj:=⟨.none,none,.fields #[],#[]⟩
def o555:Obj:=tu #[.str s142 879,.str s108 880,.str s109 881] 0
def o556:Obj:=tu #[] 0
def o557:Obj:=f0 s153 s175 (L2.a0j (topT 61) 5)
def o558:Obj:=co #[.str s153 876,.str s175 877,.str s1 878,i 276,i 3,i 0,i 0,i 3,r 553,.bool true,i 181,r 554,.none,r 555,r 556,r 557,i 882,i 276,.str s1 883]
def o559:Obj:=fo s153 s175 (L2.a0j (topT 61) 5) (.str s137 603) (r 558)
def o560:Obj:=tu #[] 0
def o561:Obj:=⟨.none,none,.fields #[],#[]⟩
def o562:Obj:=tu #[.str s142 888,.str s108 889] 0
def o563:Obj:=tu #[] 0
def o564:Obj:=f0 s145 s176 (L2.a0j (topT 61) 6)
def o565:Obj:=co #[.str s145 885,.str s176 886,.str s1 887,i 279,i 2,i 0,i 0,i 3,r 560,.bool true,i 181,r 561,.none,r 562,r 563,r 564,i 890,i 279,.str s1 891]
def o566:Obj:=fo s145 s176 (L2.a0j (topT 61) 6) (.str s137 603) (r 565)
def o567:Obj:=tu #[] 0
def o568:Obj:=⟨.none,none,.fields #[],#[]⟩
def o569:Obj:=tu #[.str s142 896,.str s108 897] 0
def o570:Obj:=tu #[] 0
def o571:Obj:=f0 s146 s177 (L2.a0j (topT 61) 7)
def o572:Obj:=co #[.str s146 893,.str s177 894,.str s1 895,i 282,i 2,i 0,i 0,i 3,r 567,.bool true,i 181,r 568,.none,r 569,r 570,r 571,i 898,i 282,.str s1 899]
def o573:Obj:=fo s146 s177 (L2.a0j (topT 61) 7) (.str s137 603) (r 572)
def o574:Obj:=tu #[] 0
def o575:Obj:=⟨.none,none,.fields #[],#[]⟩
def o576:Obj:=tu #[.str s142 904,.str s112 905] 0
def o577:Obj:=tu #[] 0
def o578:Obj:=f0 s154 s178 (L2.a0j (topT 61) 8)
def o579:Obj:=co #[.str s154 901,.str s178 902,.str s1 903,i 285,i 2,i 0,i 0,i 3,r 574,.bool true,i 181,r 575,.none,r 576,r 577,r 578,i 906,i 285,.str s1 907]
def o580:Obj:=fo s154 s178 (L2.a0j (topT 61) 8) (.str s137 603) (r 579)
def o581:Obj:=tu #[] 0
def o582:Obj:=⟨.none,none,.fields #[],#[]⟩
def o583:Obj:=tu #[.str s142 912,.str s108 913] 0
def o584:Obj:=tu #[] 0
def o585:Obj:=f0 s155 s179 (L2.a0j (topT 61) 9)
def o586:Obj:=co #[.str s155 909,.str s179 910,.str s1 911,i 288,i 2,i 0,i 0,i 3,r 581,.bool true,i 181,r 582,.none,r 583,r 584,r 585,i 914,i 288,.str s1 915]
def o587:Obj:=fo s155 s179 (L2.a0j (topT 61) 9) (.str s137 603) (r 586)
def o588:Obj:=tu #[] 0
def o589:Obj:=⟨.none,none,.fields #[],#[]⟩
def o590:Obj:=tu #[.str s142 920,.str s138 921,.str s135 922] 0
def o591:Obj:=tu #[] 0
def o592:Obj:=f0 s156 s180 (L2.a0j (topT 61) 10)
def o593:Obj:=co #[.str s156 917,.str s180 918,.str s1 919,i 291,i 2,i 0,i 0,i 3,r 588,.bool true,i 181,r 589,.none,r 590,r 591,r 592,i 923,i 291,.str s1 924]
def o594:Obj:=fo s156 s180 (L2.a0j (topT 61) 10) (.str s137 603) (r 593)
def o595:Obj:=tu #[.str s169 926] 0
def o596(P:Params):Obj:=⟨.type q1,none,.dict #[⟨kh P s97,.str s97 832,.str s137 603⟩,⟨kh P s100,.str s100 836,.int 256 835⟩,⟨kh P s168,.str s168 844,r 524⟩,⟨kh P s125,.str s125 852,r 531⟩,⟨kh P s151,.str s151 859,r 538⟩,⟨kh P s116,.str s116 866,r 545⟩,⟨kh P s152,.str s152 875,r 552⟩,⟨kh P s153,.str s153 884,r 559⟩,⟨kh P s145,.str s145 892,r 566⟩,⟨kh P s146,.str s146 900,r 573⟩,⟨kh P s154,.str s154 908,r 580⟩,⟨kh P s155,.str s155 916,r 587⟩,⟨kh P s156,.str s156 925,r 594⟩,⟨kh P s101,.str s101 927,r 595⟩,⟨kh P s5,.str s5 928,.none⟩] 2,#[]⟩
def o597:Obj:=⟨.type q5,none,.cls ⟨s69,[r 386],[r 597,r 386,r 358,.type q8],596,s69,true,[],[],false,none,false⟩,#[some (r 511),none,some (.str s69 825),some (.str s69 833),some (.builtin q13),some (.bool true)]⟩
def o598:Obj:=⟨.type q11,none,.fields #[r 597,r 597,r 597],#[]⟩
def o599:Obj:=⟨.type q3,none,.fields #[.builtin q12,r 597],#[]⟩
def o600:Obj:=tu #[r 426] 0
def o601:Obj:=⟨.type q3,none,.fields #[.builtin q4,.type q5],#[]⟩
def o602(P:Params):Obj:=⟨.type q1,none,.dict #[⟨kh P s97,.str s97 938,.str s137 603⟩,⟨kh P s99,.str s99 940,.str s70 939⟩,⟨kh P s100,.str s100 942,.int 296 941⟩,⟨kh P s125,.str s125 949,r 613⟩,⟨kh P s151,.str s151 956,r 620⟩,⟨kh P s116,.str s116 963,r 627⟩,⟨kh P s152,.str s152 972,r 634⟩,⟨kh P s153,.str s153 981,r 641⟩,⟨kh P s154,.str s154 989,r 648⟩,⟨kh P s155,.str s155 997,r 655⟩,⟨kh P s156,.str s156 1005,r 662⟩,⟨kh P s101,.str s101 1006,r 663⟩] 12,#[]⟩
def o603:Obj:=tu #[] 0
def o604:Obj:=⟨.none,none,.fields #[i 298,i 4,r 612,i 301,i 4,r 619,i 304,i 4,r 626,i 307,i 4,r 633,i 314,i 4,r 640,i 319,i 4,r 647,i 322,i 4,r 654,i 325,i 4,r 661],#[]⟩
def o605:Obj:=co #[.str s70 933,.str s70 934,.str s1 935,i 296,i 0,i 0,i 0,i 0,r 603,.bool false,i 181,r 604,.none,.none,.none,.none,i 936,i 296,.str s1 937]
def o606:Obj:=⟨.type q0,none,.plain,#[some (r 605),some (r 3),some (r 602),none,some (.str s137 603),none,some (r 0)]⟩
def o607:Obj:=tu #[] 0
def o608:Obj:=⟨.none,none,.fields #[],#[]⟩
def o609:Obj:=tu #[.str s142 946] 0
def o610:Obj:=tu #[] 0
def o611:Obj:=f0 s125 s181 (L2.a0j (topT 62) 0)
def o612:Obj:=co #[.str s125 943,.str s181 944,.str s1 945,i 298,i 1,i 0,i 0,i 3,r 607,.bool true,i 181,r 608,.none,r 609,r 610,r 611,i 947,i 298,.str s1 948]
def o613:Obj:=fo s125 s181 (L2.a0j (topT 62) 0) (.str s137 603) (r 612)
def o614:Obj:=tu #[] 0
def o615:Obj:=⟨.none,none,.fields #[],#[]⟩
def o616:Obj:=tu #[.str s142 953] 0
def o617:Obj:=tu #[] 0
def o618:Obj:=f0 s151 s182 (L2.a0j (topT 62) 1)
def o619:Obj:=co #[.str s151 950,.str s182 951,.str s1 952,i 301,i 1,i 0,i 0,i 3,r 614,.bool true,i 181,r 615,.none,r 616,r 617,r 618,i 954,i 301,.str s1 955]
def o620:Obj:=fo s151 s182 (L2.a0j (topT 62) 1) (.str s137 603) (r 619)
def o621:Obj:=tu #[] 0
def o622:Obj:=⟨.none,none,.fields #[],#[]⟩
def o623:Obj:=tu #[.str s142 960] 0
def o624:Obj:=tu #[] 0
def o625:Obj:=f0 s116 s183 (L2.a0j (topT 62) 2)
def o626:Obj:=co #[.str s116 957,.str s183 958,.str s1 959,i 304,i 1,i 0,i 0,i 3,r 621,.bool true,i 181,r 622,.none,r 623,r 624,r 625,i 961,i 304,.str s1 962]
def o627:Obj:=fo s116 s183 (L2.a0j (topT 62) 2) (.str s137 603) (r 626)
def o628:Obj:=tu #[] 0
def o629:Obj:=⟨.none,none,.fields #[],#[]⟩
def o630:Obj:=tu #[.str s142 967,.str s108 968,.str s109 969] 0
def o631:Obj:=tu #[] 0
def o632:Obj:=f0 s152 s184 (L2.a0j (topT 62) 3)
def o633:Obj:=co #[.str s152 964,.str s184 965,.str s1 966,i 307,i 3,i 0,i 0,i 3,r 628,.bool true,i 181,r 629,.none,r 630,r 631,r 632,i 970,i 307,.str s1 971]
def o634:Obj:=fo s152 s184 (L2.a0j (topT 62) 3) (.str s137 603) (r 633)
def o635:Obj:=tu #[] 0
def o636:Obj:=⟨.none,none,.fields #[],#[]⟩
def o637:Obj:=tu #[.str s142 976,.str s108 977,.str s109 978] 0
def o638:Obj:=tu #[] 0
def o639:Obj:=f0 s153 s185 (L2.a0j (topT 62) 4)
def o640:Obj:=co #[.str s153 973,.str s185 974,.str s1 975,i 314,i 3,i 0,i 0,i 3,r 635,.bool true,i 181,r 636,.none,r 637,r 638,r 639,i 979,i 314,.str s1 980]
def o641:Obj:=fo s153 s185 (L2.a0j (topT 62) 4) (.str s137 603) (r 640)
def o642:Obj:=tu #[] 0
def o643:Obj:=⟨.none,none,.fields #[],#[]⟩
def o644:Obj:=tu #[.str s142 985,.str s112 986] 0
def o645:Obj:=tu #[] 0
def o646:Obj:=f0 s154 s186 (L2.a0j (topT 62) 5)
def o647:Obj:=co #[.str s154 982,.str s186 983,.str s1 984,i 319,i 2,i 0,i 0,i 3,r 642,.bool true,i 181,r 643,.none,r 644,r 645,r 646,i 987,i 319,.str s1 988]
def o648:Obj:=fo s154 s186 (L2.a0j (topT 62) 5) (.str s137 603) (r 647)
def o649:Obj:=tu #[] 0
def o650:Obj:=⟨.none,none,.fields #[],#[]⟩
def o651:Obj:=tu #[.str s142 993,.str s108 994] 0
def o652:Obj:=tu #[] 0
def o653:Obj:=f0 s155 s187 (L2.a0j (topT 62) 6)
def o654:Obj:=co #[.str s155 990,.str s187 991,.str s1 992,i 322,i 2,i 0,i 0,i 3,r 649,.bool true,i 181,r 650,.none,r 651,r 652,r 653,i 995,i 322,.str s1 996]
def o655:Obj:=fo s155 s187 (L2.a0j (topT 62) 6) (.str s137 603) (r 654)
def o656:Obj:=tu #[] 0
def o657:Obj:=⟨.none,none,.fields #[],#[]⟩
def o658:Obj:=tu #[.str s142 1001,.str s138 1002] 0
def o659:Obj:=tu #[] 0
def o660:Obj:=f0 s156 s188 (L2.a0j (topT 62) 7)
def o661:Obj:=co #[.str s156 998,.str s188 999,.str s1 1000,i 325,i 2,i 0,i 0,i 3,r 656,.bool true,i 181,r 657,.none,r 658,r 659,r 660,i 1003,i 325,.str s1 1004]
def o662:Obj:=fo s156 s188 (L2.a0j (topT 62) 7) (.str s137 603) (r 661)
def o663:Obj:=tu #[] 0
def o664(P:Params):Obj:=⟨.type q1,none,.dict #[⟨kh P s97,.str s97 938,.str s137 603⟩,⟨kh P s100,.str s100 942,.int 296 941⟩,⟨kh P s125,.str s125 949,r 613⟩,⟨kh P s151,.str s151 956,r 620⟩,⟨kh P s116,.str s116 963,r 627⟩,⟨kh P s152,.str s152 972,r 634⟩,⟨kh P s153,.str s153 981,r 641⟩,⟨kh P s154,.str s154 989,r 648⟩,⟨kh P s155,.str s155 997,r 655⟩,⟨kh P s156,.str s156 1005,r 662⟩,⟨kh P s101,.str s101 1006,r 663⟩,⟨kh P s5,.str s5 1007,.none⟩] 2,#[]⟩
def o665:Obj:=⟨.type q5,none,.cls ⟨s70,[r 426],[r 665,r 426,r 358,.type q8],664,s70,true,[],[],false,none,false⟩,#[some (r 600),none,some (.str s70 931),some (.str s70 939),some (.builtin q13),some (.bool true)]⟩
def o666:Obj:=⟨.type q11,none,.fields #[r 665,r 665,r 665],#[]⟩
def o667:Obj:=⟨.type q3,none,.fields #[.builtin q12,r 665],#[]⟩
def o668:Obj:=tu #[r 426] 0
def o669:Obj:=⟨.type q3,none,.fields #[.builtin q4,.type q5],#[]⟩
def o670(P:Params):Obj:=⟨.type q1,none,.dict #[⟨kh P s97,.str s97 1017,.str s137 603⟩,⟨kh P s99,.str s99 1019,.str s71 1018⟩,⟨kh P s100,.str s100 1021,.int 330 1020⟩,⟨kh P s125,.str s125 1028,r 681⟩,⟨kh P s151,.str s151 1035,r 688⟩,⟨kh P s116,.str s116 1042,r 695⟩,⟨kh P s152,.str s152 1051,r 702⟩,⟨kh P s153,.str s153 1060,r 709⟩,⟨kh P s154,.str s154 1068,r 716⟩,⟨kh P s155,.str s155 1076,r 723⟩,⟨kh P s156,.str s156 1084,r 730⟩,⟨kh P s101,.str s101 1085,r 731⟩] 12,#[]⟩
def o671:Obj:=tu #[] 0
def o672:Obj:=⟨.none,none,.fields #[i 332,i 4,r 680,i 335,i 4,r 687,i 338,i 4,r 694,i 341,i 4,r 701,i 344,i 4,r 708,i 347,i 4,r 715,i 350,i 4,r 722,i 353,i 4,r 729],#[]⟩
def o673:Obj:=co #[.str s71 1012,.str s71 1013,.str s1 1014,i 330,i 0,i 0,i 0,i 0,r 671,.bool false,i 181,r 672,.none,.none,.none,.none,i 1015,i 330,.str s1 1016]
def o674:Obj:=⟨.type q0,none,.plain,#[some (r 673),some (r 3),some (r 670),none,some (.str s137 603),none,some (r 0)]⟩
def o675:Obj:=tu #[] 0
def o676:Obj:=⟨.none,none,.fields #[],#[]⟩
def o677:Obj:=tu #[.str s142 1025] 0
def o678:Obj:=tu #[] 0
def o679:Obj:=f0 s125 s189 (L2.a0j (topT 63) 0)
def o680:Obj:=co #[.str s125 1022,.str s189 1023,.str s1 1024,i 332,i 1,i 0,i 0,i 3,r 675,.bool true,i 181,r 676,.none,r 677,r 678,r 679,i 1026,i 332,.str s1 1027]
def o681:Obj:=fo s125 s189 (L2.a0j (topT 63) 0) (.str s137 603) (r 680)
def o682:Obj:=tu #[] 0
def o683:Obj:=⟨.none,none,.fields #[],#[]⟩
def o684:Obj:=tu #[.str s142 1032] 0
def o685:Obj:=tu #[] 0
def o686:Obj:=f0 s151 s190 (L2.a0j (topT 63) 1)
def o687:Obj:=co #[.str s151 1029,.str s190 1030,.str s1 1031,i 335,i 1,i 0,i 0,i 3,r 682,.bool true,i 181,r 683,.none,r 684,r 685,r 686,i 1033,i 335,.str s1 1034]
def o688:Obj:=fo s151 s190 (L2.a0j (topT 63) 1) (.str s137 603) (r 687)
def o689:Obj:=tu #[] 0
def o690:Obj:=⟨.none,none,.fields #[],#[]⟩
def o691:Obj:=tu #[.str s142 1039] 0
def o692:Obj:=tu #[] 0
def o693:Obj:=f0 s116 s191 (L2.a0j (topT 63) 2)
def o694:Obj:=co #[.str s116 1036,.str s191 1037,.str s1 1038,i 338,i 1,i 0,i 0,i 3,r 689,.bool true,i 181,r 690,.none,r 691,r 692,r 693,i 1040,i 338,.str s1 1041]
def o695:Obj:=fo s116 s191 (L2.a0j (topT 63) 2) (.str s137 603) (r 694)
def o696:Obj:=tu #[] 0
def o697:Obj:=⟨.none,none,.fields #[],#[]⟩
def o698:Obj:=tu #[.str s142 1046,.str s108 1047,.str s109 1048] 0
def o699:Obj:=tu #[] 0
def o700:Obj:=f0 s152 s192 (L2.a0j (topT 63) 3)
def o701:Obj:=co #[.str s152 1043,.str s192 1044,.str s1 1045,i 341,i 3,i 0,i 0,i 3,r 696,.bool true,i 181,r 697,.none,r 698,r 699,r 700,i 1049,i 341,.str s1 1050]
def o702:Obj:=fo s152 s192 (L2.a0j (topT 63) 3) (.str s137 603) (r 701)
def o703:Obj:=tu #[] 0
def o704:Obj:=⟨.none,none,.fields #[],#[]⟩
def o705:Obj:=tu #[.str s142 1055,.str s108 1056,.str s109 1057] 0
def o706:Obj:=tu #[] 0
def o707:Obj:=f0 s153 s193 (L2.a0j (topT 63) 4)
def o708:Obj:=co #[.str s153 1052,.str s193 1053,.str s1 1054,i 344,i 3,i 0,i 0,i 3,r 703,.bool true,i 181,r 704,.none,r 705,r 706,r 707,i 1058,i 344,.str s1 1059]
def o709:Obj:=fo s153 s193 (L2.a0j (topT 63) 4) (.str s137 603) (r 708)
def o710:Obj:=tu #[] 0
def o711:Obj:=⟨.none,none,.fields #[],#[]⟩
def o712:Obj:=tu #[.str s142 1064,.str s112 1065] 0
def o713:Obj:=tu #[] 0
def o714:Obj:=f0 s154 s194 (L2.a0j (topT 63) 5)
def o715:Obj:=co #[.str s154 1061,.str s194 1062,.str s1 1063,i 347,i 2,i 0,i 0,i 3,r 710,.bool true,i 181,r 711,.none,r 712,r 713,r 714,i 1066,i 347,.str s1 1067]
def o716:Obj:=fo s154 s194 (L2.a0j (topT 63) 5) (.str s137 603) (r 715)
def o717:Obj:=tu #[] 0
def o718:Obj:=⟨.none,none,.fields #[],#[]⟩
def o719:Obj:=tu #[.str s142 1072,.str s108 1073] 0
def o720:Obj:=tu #[] 0
def o721:Obj:=f0 s155 s195 (L2.a0j (topT 63) 6)
def o722:Obj:=co #[.str s155 1069,.str s195 1070,.str s1 1071,i 350,i 2,i 0,i 0,i 3,r 717,.bool true,i 181,r 718,.none,r 719,r 720,r 721,i 1074,i 350,.str s1 1075]
def o723:Obj:=fo s155 s195 (L2.a0j (topT 63) 6) (.str s137 603) (r 722)
def o724:Obj:=tu #[] 0
def o725:Obj:=⟨.none,none,.fields #[],#[]⟩
def o726:Obj:=tu #[.str s142 1080,.str s138 1081] 0
def o727:Obj:=tu #[] 0
def o728:Obj:=f0 s156 s196 (L2.a0j (topT 63) 7)
def o729:Obj:=co #[.str s156 1077,.str s196 1078,.str s1 1079,i 353,i 2,i 0,i 0,i 3,r 724,.bool true,i 181,r 725,.none,r 726,r 727,r 728,i 1082,i 353,.str s1 1083]
def o730:Obj:=fo s156 s196 (L2.a0j (topT 63) 7) (.str s137 603) (r 729)
def o731:Obj:=tu #[] 0
def o732(P:Params):Obj:=⟨.type q1,none,.dict #[⟨kh P s97,.str s97 1017,.str s137 603⟩,⟨kh P s100,.str s100 1021,.int 330 1020⟩,⟨kh P s125,.str s125 1028,r 681⟩,⟨kh P s151,.str s151 1035,r 688⟩,⟨kh P s116,.str s116 1042,r 695⟩,⟨kh P s152,.str s152 1051,r 702⟩,⟨kh P s153,.str s153 1060,r 709⟩,⟨kh P s154,.str s154 1068,r 716⟩,⟨kh P s155,.str s155 1076,r 723⟩,⟨kh P s156,.str s156 1084,r 730⟩,⟨kh P s101,.str s101 1085,r 731⟩,⟨kh P s5,.str s5 1086,.none⟩] 2,#[]⟩
def o733:Obj:=⟨.type q5,none,.cls ⟨s71,[r 426],[r 733,r 426,r 358,.type q8],732,s71,true,[],[],false,none,false⟩,#[some (r 668),none,some (.str s71 1010),some (.str s71 1018),some (.builtin q13),some (.bool true)]⟩
def o734:Obj:=⟨.type q11,none,.fields #[r 733,r 733,r 733],#[]⟩
def o735:Obj:=⟨.type q3,none,.fields #[.builtin q12,r 733],#[]⟩
def o736:Obj:=tu #[] 0
def o737:Obj:=⟨.none,none,.fields #[],#[]⟩
def o738:Obj:=tu #[.str s197 1094,.str s198 1095,.str s199 1096] 0
def o739:Obj:=tu #[] 0
def o740:Obj:=f0 s72 s72 (topT 65)
def o741:Obj:=co #[.str s72 1091,.str s72 1092,.str s1 1093,i 361,i 2,i 0,i 0,i 3,r 736,.bool true,i 181,r 737,.none,r 738,r 739,r 740,i 1097,i 361,.str s1 1098]
def o742:Obj:=fo s72 s72 (topT 65) (.str s4 1089) (r 741)
def o743:Obj:=tu #[] 0
def o744:Obj:=⟨.none,none,.fields #[],#[]⟩
def o745:Obj:=tu #[.str s200 1103,.str s201 1104,.str s202 1105] 0
def o746:Obj:=tu #[] 0
def o747:Obj:=f0 s73 s73 (topT 66)
def o748:Obj:=co #[.str s73 1100,.str s73 1101,.str s1 1102,i 370,i 1,i 0,i 0,i 3,r 743,.bool true,i 181,r 744,.none,r 745,r 746,r 747,i 1106,i 370,.str s1 1107]
def o749:Obj:=fo s73 s73 (topT 66) (.str s4 1089) (r 748)
def o750:Obj:=tu #[] 0
def o751:Obj:=⟨.none,none,.fields #[],#[]⟩
def o752:Obj:=tu #[.str s203 1112,.str s204 1113,.str s205 1114,.str s206 1115] 0
def o753:Obj:=tu #[] 0
def o754:Obj:=f0 s74 s74 (topT 67)
def o755:Obj:=co #[.str s74 1109,.str s74 1110,.str s1 1111,i 377,i 2,i 0,i 0,i 3,r 750,.bool true,i 181,r 751,.none,r 752,r 753,r 754,i 1116,i 377,.str s1 1117]
def o756:Obj:=fo s74 s74 (topT 67) (.str s4 1089) (r 755)
def o757:Obj:=tu #[] 0
def o758:Obj:=⟨.none,none,.fields #[],#[]⟩
def o759:Obj:=tu #[.str s207 1122,.str s208 1123,.str s209 1124] 0
def o760:Obj:=tu #[] 0
def o761:Obj:=f0 s75 s75 (topT 68)
def o762:Obj:=co #[.str s75 1119,.str s75 1120,.str s1 1121,i 384,i 3,i 0,i 0,i 3,r 757,.bool true,i 181,r 758,.none,r 759,r 760,r 761,i 1125,i 384,.str s1 1126]
def o763:Obj:=fo s75 s75 (topT 68) (.str s4 1089) (r 762)
def o764:Obj:=tu #[] 0
def o765:Obj:=⟨.none,none,.fields #[],#[]⟩
def o766:Obj:=tu #[.str s207 1131,.str s208 1132,.str s209 1133] 0
def o767:Obj:=tu #[] 0
def o768:Obj:=f0 s76 s76 (topT 69)
def o769:Obj:=co #[.str s76 1128,.str s76 1129,.str s1 1130,i 394,i 3,i 0,i 0,i 3,r 764,.bool true,i 181,r 765,.none,r 766,r 767,r 768,i 1134,i 394,.str s1 1135]
def o770:Obj:=fo s76 s76 (topT 69) (.str s4 1089) (r 769)
def o771:Obj:=tu #[] 0
def o772:Obj:=⟨.none,none,.fields #[],#[]⟩
def o773:Obj:=tu #[.str s207 1140] 0
def o774:Obj:=tu #[] 0
def o775:Obj:=f0 s77 s77 (topT 70)
def o776:Obj:=co #[.str s77 1137,.str s77 1138,.str s1 1139,i 404,i 1,i 0,i 0,i 3,r 771,.bool true,i 181,r 772,.none,r 773,r 774,r 775,i 1141,i 404,.str s1 1142]
def o777:Obj:=fo s77 s77 (topT 70) (.str s4 1089) (r 776)
def o778:Obj:=tu #[] 0
def o779:Obj:=⟨.none,none,.fields #[],#[]⟩
def o780:Obj:=tu #[.str s207 1147] 0
def o781:Obj:=tu #[] 0
def o782:Obj:=f0 s78 s78 (topT 71)
def o783:Obj:=co #[.str s78 1144,.str s78 1145,.str s1 1146,i 406,i 1,i 0,i 0,i 3,r 778,.bool true,i 181,r 779,.none,r 780,r 781,r 782,i 1148,i 406,.str s1 1149]
def o784:Obj:=fo s78 s78 (topT 71) (.str s4 1089) (r 783)
def o785:Obj:=tu #[] 0
def o786:Obj:=⟨.none,none,.fields #[],#[]⟩
def o787:Obj:=tu #[.str s197 1154,.str s210 1155,.str s211 1156] 0
def o788:Obj:=tu #[] 0
def o789:Obj:=f0 s79 s79 (topT 72)
def o790:Obj:=co #[.str s79 1151,.str s79 1152,.str s1 1153,i 408,i 2,i 0,i 0,i 3,r 785,.bool true,i 181,r 786,.none,r 787,r 788,r 789,i 1157,i 408,.str s1 1158]
def o791:Obj:=fo s79 s79 (topT 72) (.str s4 1089) (r 790)
def o792:Obj:=tu #[] 0
def o793:Obj:=⟨.none,none,.fields #[],#[]⟩
def o794:Obj:=tu #[.str s207 1163] 0
def o795:Obj:=tu #[] 0
def o796:Obj:=f0 s80 s80 (topT 73)
def o797:Obj:=co #[.str s80 1160,.str s80 1161,.str s1 1162,i 411,i 1,i 0,i 0,i 3,r 792,.bool true,i 181,r 793,.none,r 794,r 795,r 796,i 1164,i 411,.str s1 1165]
def o798:Obj:=fo s80 s80 (topT 73) (.str s4 1089) (r 797)
def o799:Obj:=tu #[] 0
def o800:Obj:=⟨.none,none,.fields #[],#[]⟩
def o801:Obj:=tu #[.str s197 1170,.str s207 1171,.str s212 1172,.str s213 1173] 0
def o802:Obj:=tu #[] 0
def o803:Obj:=f0 s81 s81 (topT 74)
def o804:Obj:=co #[.str s81 1167,.str s81 1168,.str s1 1169,i 419,i 3,i 0,i 0,i 3,r 799,.bool true,i 181,r 800,.none,r 801,r 802,r 803,i 1174,i 419,.str s1 1175]
def o805:Obj:=fo s81 s81 (topT 74) (.str s4 1089) (r 804)
def o806:Obj:=tu #[] 0
def o807:Obj:=⟨.none,none,.fields #[],#[]⟩
def o808:Obj:=f0 s82 s82 (topT 75)
def o809:Obj:=co #[.str s82 1177,.str s82 1178,.str s1 1179,i 432,i 4,i 0,i 0,i 3,r 806,.bool true,i 181,r 807,.none,.none,.none,r 808,i 1180,i 432,.str s1 1181]
def o810:Obj:=fo s82 s82 (topT 75) (.str s4 1089) (r 809)
def o811:Obj:=tu #[] 0
def o812:Obj:=⟨.none,none,.fields #[],#[]⟩
def o813:Obj:=f0 s83 s83 (topT 76)
def o814:Obj:=co #[.str s83 1183,.str s83 1184,.str s1 1185,i 434,i 5,i 0,i 0,i 3,r 811,.bool true,i 181,r 812,.none,.none,.none,r 813,i 1186,i 434,.str s1 1187]
def o815:Obj:=fo s83 s83 (topT 76) (.str s4 1089) (r 814)
def o816:Obj:=tu #[] 0
def o817:Obj:=⟨.none,none,.fields #[],#[]⟩
def o818:Obj:=tu #[.str s197 1192,.str s214 1193,.str s215 1194,.str s216 1195,.str s217 1196] 0
def o819:Obj:=tu #[] 0
def o820:Obj:=f0 s84 s84 (topT 77)
def o821:Obj:=co #[.str s84 1189,.str s84 1190,.str s1 1191,i 436,i 1,i 0,i 0,i 3,r 816,.bool true,i 181,r 817,.none,r 818,r 819,r 820,i 1197,i 436,.str s1 1198]
def o822:Obj:=fo s84 s84 (topT 77) (.str s4 1089) (r 821)
def o823:Obj:=tu #[] 0
def o824:Obj:=⟨.none,none,.fields #[],#[]⟩
def o825:Obj:=f0 s85 s85 (topT 78)
def o826:Obj:=co #[.str s85 1200,.str s85 1201,.str s1 1202,i 444,i 5,i 0,i 0,i 3,r 823,.bool true,i 181,r 824,.none,.none,.none,r 825,i 1203,i 444,.str s1 1204]
def o827:Obj:=fo s85 s85 (topT 78) (.str s4 1089) (r 826)
def o828:Obj:=tu #[] 0
def o829:Obj:=⟨.none,none,.fields #[],#[]⟩
def o830:Obj:=tu #[.str s207 1209,.str s218 1210,.str s219 1211,.str s220 1212,.str s208 1213,.str s209 1214] 0
def o831:Obj:=tu #[] 0
def o832:Obj:=f0 s86 s86 (topT 79)
def o833:Obj:=co #[.str s86 1206,.str s86 1207,.str s1 1208,i 448,i 3,i 0,i 0,i 3,r 828,.bool true,i 181,r 829,.none,r 830,r 831,r 832,i 1215,i 448,.str s1 1216]
def o834:Obj:=fo s86 s86 (topT 79) (.str s4 1089) (r 833)
def o835:Obj:=tu #[] 0
def o836:Obj:=⟨.none,none,.fields #[],#[]⟩
def o837:Obj:=f0 s87 s87 (topT 80)
def o838:Obj:=co #[.str s87 1218,.str s87 1219,.str s1 1220,i 453,i 3,i 0,i 0,i 3,r 835,.bool true,i 181,r 836,.none,.none,.none,r 837,i 1221,i 453,.str s1 1222]
def o839:Obj:=fo s87 s87 (topT 80) (.str s4 1089) (r 838)
def o840:Obj:=tu #[] 0
def o841:Obj:=⟨.none,none,.fields #[],#[]⟩
def o842:Obj:=tu #[.str s207 1227,.str s221 1228,.str s222 1229,.str s218 1230,.str s223 1231] 0
def o843:Obj:=tu #[] 0
def o844:Obj:=f0 s88 s88 (topT 81)
def o845:Obj:=co #[.str s88 1224,.str s88 1225,.str s1 1226,i 458,i 3,i 0,i 0,i 3,r 840,.bool true,i 181,r 841,.none,r 842,r 843,r 844,i 1232,i 458,.str s1 1233]
def o846:Obj:=fo s88 s88 (topT 81) (.str s4 1089) (r 845)
def o847:Obj:=tu #[] 0
def o848:Obj:=⟨.none,none,.fields #[],#[]⟩
def o849:Obj:=tu #[.str s215 1238,.str s224 1239,.str s199 1240,.str s225 1241,.str s216 1242,.str s226 1243,.str s222 1244,.str s223 1245] 0
def o850:Obj:=tu #[] 0
def o851:Obj:=f0 s89 s89 (topT 82)
def o852:Obj:=co #[.str s89 1235,.str s89 1236,.str s1 1237,i 463,i 2,i 0,i 0,i 3,r 847,.bool true,i 181,r 848,.none,r 849,r 850,r 851,i 1246,i 463,.str s1 1247]
def o853:Obj:=fo s89 s89 (topT 82) (.str s4 1089) (r 852)
def o854:Obj:=tu #[] 0
def o855:Obj:=⟨.none,none,.fields #[],#[]⟩
def o856:Obj:=tu #[.str s207 1252,.str s199 1253,.str s227 1254] 0
def o857:Obj:=tu #[] 0
def o858:Obj:=f0 s90 s90 (topT 83)
def o859:Obj:=co #[.str s90 1249,.str s90 1250,.str s1 1251,i 474,i 3,i 0,i 0,i 3,r 854,.bool true,i 181,r 855,.none,r 856,r 857,r 858,i 1255,i 474,.str s1 1256]
def o860:Obj:=fo s90 s90 (topT 83) (.str s4 1089) (r 859)
def o861:Obj:=tu #[] 0
def o862:Obj:=⟨.none,none,.fields #[],#[]⟩
def o863:Obj:=tu #[.str s197 1261,.str s207 1262,.str s221 1263,.str s228 1264,.str s229 1265,.str s208 1266,.str s209 1267] 0
def o864:Obj:=tu #[] 0
def o865:Obj:=f0 s91 s91 (topT 84)
def o866:Obj:=co #[.str s91 1258,.str s91 1259,.str s1 1260,i 484,i 3,i 0,i 0,i 3,r 861,.bool true,i 181,r 862,.none,r 863,r 864,r 865,i 1268,i 484,.str s1 1269]
def o867:Obj:=fo s91 s91 (topT 84) (.str s4 1089) (r 866)
def o868:Obj:=tu #[] 0
def o869:Obj:=⟨.none,none,.fields #[],#[]⟩
def o870:Obj:=tu #[.str s207 1274,.str s215 1275,.str s205 1276,.str s230 1277,.str s222 1278] 0
def o871:Obj:=tu #[] 0
def o872:Obj:=f0 s92 s92 (topT 85)
def o873:Obj:=co #[.str s92 1271,.str s92 1272,.str s1 1273,i 499,i 4,i 0,i 0,i 3,r 868,.bool true,i 181,r 869,.none,r 870,r 871,r 872,i 1279,i 499,.str s1 1280]
def o874:Obj:=fo s92 s92 (topT 85) (.str s4 1089) (r 873)
def o875:Obj:=tu #[] 0
def o876:Obj:=⟨.none,none,.fields #[],#[]⟩
def o877:Obj:=tu #[.str s231 1285,.str s232 1286,.str s233 1287,.str s234 1288,.str s235 1289,.str s236 1290] 0
def o878:Obj:=tu #[] 0
def o879:Obj:=f0 s93 s93 (topT 86)
def o880:Obj:=co #[.str s93 1282,.str s93 1283,.str s1 1284,i 506,i 4,i 0,i 0,i 3,r 875,.bool true,i 181,r 876,.none,r 877,r 878,r 879,i 1291,i 506,.str s1 1292]
def o881:Obj:=fo s93 s93 (topT 86) (.str s4 1089) (r 880)
def o882:Obj:=tu #[] 0
def o883:Obj:=⟨.none,none,.fields #[],#[]⟩
def o884:Obj:=tu #[.str s207 1297,.str s231 1298,.str s232 1299,.str s233 1300,.str s222 1301,.str s220 1302,.str s217 1303,.str s237 1304] 0
def o885:Obj:=tu #[] 0
def o886:Obj:=f0 s94 s94 (topT 87)
def o887:Obj:=co #[.str s94 1294,.str s94 1295,.str s1 1296,i 515,i 5,i 0,i 0,i 3,r 882,.bool true,i 181,r 883,.none,r 884,r 885,r 886,i 1305,i 515,.str s1 1306]
def o888:Obj:=fo s94 s94 (topT 87) (.str s4 1089) (r 887)
def o889:Obj:=tu #[] 0
def o890:Obj:=⟨.none,none,.fields #[],#[]⟩
def o891:Obj:=f0 s95 s95 (topT 88)
def o892:Obj:=co #[.str s95 1308,.str s95 1309,.str s1 1310,i 521,i 1,i 0,i 0,i 3,r 889,.bool true,i 181,r 890,.none,.none,.none,r 891,i 1311,i 521,.str s1 1312]
def o893:Obj:=fo s95 s95 (topT 88) (.str s4 1089) (r 892)
def envT:Env:={ scope:=Fast.tw18033049676167684184.main.scope,locals:=mainNs,globals:=mainNs,cells:=[],code:=(r 13),frame:=some 14 }
def cT:Code:=.body (behindTheImports Fast.tw18033049676167684184) envT
def qP:Pos:=⟨0,0,0,0⟩
def Ha(P:Params):Heap:=⟨⟨[boot_o_0 P,boot_o_1 P,boot_o_2 P,boot_o_3 P,boot_o_4 P,boot_o_5 P,boot_o_6 P,boot_o_7 P,boot_o_8 P,boot_o_9 P,boot_o_10 P,o11a,o12a,o13a,o14a]⟩,PySem.Life.mk [] [] [] 0 [] [] false #[] [] 0 false false false 0 [2000,10,10] false 0 true [] [] 0 false⟩
def Sa(w:World)(os:OsState):Shared:=⟨Ha w.params,⟨[]⟩,PySem.Drawn.mk 0 0 0 0,187,os⟩
def Tb(P:Params):BT:=(nd (boot_o_0 P) (nd (boot_o_1 P) (nd (boot_o_3 P) (lf (boot_o_7 P)) (lf o11a)) (nd (boot_o_5 P) (lf (boot_o_9 P)) (lf o13a))) (nd (boot_o_2 P) (nd (boot_o_4 P) (lf (boot_o_8 P)) (lf o12a)) (nd (boot_o_6 P) (lf (boot_o_10 P)) (lf o14a))))
def Sb(w:World)(os:OsState):SharedT:=⟨Tb w.params,15,PySem.Life.mk [] [] [] 0 [] [] false #[] [] 0 false false false 0 [2000,10,10] false 0 true [] [] 0 false,⟨[]⟩,PySem.Drawn.mk 0 0 0 0,187,os⟩
def T0(P:Params):BT:=(nd (boot_o_0 P) (nd (boot_o_1 P) (nd (o3 P) (nd (boot_o_7 P) (nd o15 (nd o31 (nd o63 (nd o127 (nd o255 (lf o511) (lf o767)) (nd o383 (lf o639) nl)) (nd o191 (nd o319 (lf o575) (lf o831)) (nd o447 (lf o703) nl))) (nd o95 (nd o159 (nd o287 (lf o543) (lf o799)) (nd o415 (lf o671) nl)) (nd o223 (nd (o351 P) (lf o607) (lf o863)) (nd o479 (lf o735) nl)))) (nd o47 (nd (o79 P) (nd o143 (nd o271 (lf o527) (lf o783)) (nd o399 (lf o655) nl)) (nd o207 (nd o335 (lf o591) (lf o847)) (nd o463 (lf o719) nl))) (nd o111 (nd o175 (nd o303 (lf o559) (lf o815)) (nd (o431 P) (lf o687) nl)) (nd o239 (nd o367 (lf o623) (lf o879)) (nd o495 (lf o751) nl))))) (nd o23 (nd o39 (nd o71 (nd o135 (nd o263 (lf o519) (lf o775)) (nd (o391 P) (lf o647) nl)) (nd o199 (nd o327 (lf o583) (lf o839)) (nd o455 (lf o711) nl))) (nd (o103 P) (nd o167 (nd o295 (lf o551) (lf o807)) (nd o423 (lf o679) nl)) (nd o231 (nd o359 (lf o615) (lf o871)) (nd o487 (lf o743) nl)))) (nd (o55 P) (nd o87 (nd o151 (nd o279 (lf o535) (lf o791)) (nd o407 (lf o663) nl)) (nd o215 (nd o343 (lf o599) (lf o855)) (nd o471 (lf o727) nl))) (nd o119 (nd o183 (nd o311 (lf o567) (lf o823)) (nd o439 (lf o695) nl)) (nd o247 (nd o375 (lf o631) (lf o887)) (nd o503 (lf o759) nl)))))) (nd o11a (nd o19 (nd o35 (nd (o67 P) (nd o131 (nd o259 (lf o515) (lf o771)) (nd o387 (lf o643) nl)) (nd o195 (nd o323 (lf o579) (lf o835)) (nd o451 (lf o707) nl))) (nd o99 (nd o163 (nd o291 (lf o547) (lf o803)) (nd o419 (lf o675) nl)) (nd o227 (nd o355 (lf o611) (lf o867)) (nd o483 (lf o739) nl)))) (nd o51 (nd o83 (nd o147 (nd o275 (lf o531) (lf o787)) (nd o403 (lf o659) nl)) (nd o211 (nd o339 (lf o595) (lf o851)) (nd o467 (lf o723) nl))) (nd (o115 P) (nd o179 (nd o307 (lf o563) (lf o819)) (nd o435 (lf o691) nl)) (nd o243 (nd o371 (lf o627) (lf o883)) (nd o499 (lf o755) nl))))) (nd o27 (nd (o43 P) (nd o75 (nd o139 (nd o267 (lf o523) (lf o779)) (nd o395 (lf o651) nl)) (nd o203 (nd o331 (lf o587) (lf o843)) (nd o459 (lf o715) nl))) (nd o107 (nd o171 (nd o299 (lf o555) (lf o811)) (nd o427 (lf o683) nl)) (nd o235 (nd o363 (lf o619) (lf o875)) (nd o491 (lf o747) nl)))) (nd o59 (nd (o91 P) (nd o155 (nd o283 (lf o539) (lf o795)) (nd o411 (lf o667) nl)) (nd o219 (nd o347 (lf o603) (lf o859)) (nd o475 (lf o731) nl))) (nd o123 (nd o187 (nd o315 (lf o571) (lf o827)) (nd o443 (lf o699) nl)) (nd o251 (nd o379 (lf o635) (lf o891)) (nd (o507 P) (lf o763) nl))))))) (nd (boot_o_5 P) (nd (boot_o_9 P) (nd o17 (nd o33 (nd o65 (nd o129 (nd o257 (lf (o513 P)) (lf o769)) (nd (o385 P) (lf o641) nl)) (nd o193 (nd o321 (lf o577) (lf o833)) (nd o449 (lf o705) nl))) (nd (o97 P) (nd o161 (nd o289 (lf o545) (lf o801)) (nd o417 (lf o673) nl)) (nd o225 (nd o353 (lf o609) (lf o865)) (nd o481 (lf o737) nl)))) (nd (o49 P) (nd o81 (nd o145 (nd o273 (lf o529) (lf o785)) (nd o401 (lf o657) nl)) (nd o209 (nd o337 (lf o593) (lf o849)) (nd o465 (lf o721) nl))) (nd o113 (nd o177 (nd o305 (lf o561) (lf o817)) (nd o433 (lf o689) nl)) (nd o241 (nd o369 (lf o625) (lf o881)) (nd o497 (lf o753) nl))))) (nd o25 (nd o41 (nd (o73 P) (nd o137 (nd o265 (lf o521) (lf o777)) (nd o393 (lf o649) nl)) (nd o201 (nd o329 (lf o585) (lf o841)) (nd o457 (lf o713) nl))) (nd o105 (nd o169 (nd o297 (lf o553) (lf o809)) (nd (o425 P) (lf o681) nl)) (nd o233 (nd o361 (lf o617) (lf o873)) (nd o489 (lf o745) nl)))) (nd o57 (nd o89 (nd o153 (nd o281 (lf o537) (lf o793)) (nd o409 (lf o665) nl)) (nd o217 (nd o345 (lf o601) (lf o857)) (nd o473 (lf o729) nl))) (nd o121 (nd o185 (nd o313 (lf o569) (lf o825)) (nd o441 (lf o697) nl)) (nd o249 (nd o377 (lf o633) (lf o889)) (nd o505 (lf o761) nl)))))) (nd o13a (nd o21 (nd (o37 P) (nd o69 (nd o133 (nd o261 (lf o517) (lf o773)) (nd o389 (lf o645) nl)) (nd o197 (nd o325 (lf o581) (lf o837)) (nd o453 (lf o709) nl))) (nd o101 (nd o165 (nd o293 (lf o549) (lf o805)) (nd o421 (lf o677) nl)) (nd o229 (nd (o357 P) (lf o613) (lf o869)) (nd o485 (lf o741) nl)))) (nd o53 (nd (o85 P) (nd o149 (nd o277 (lf o533) (lf o789)) (nd o405 (lf o661) nl)) (nd o213 (nd o341 (lf o597) (lf o853)) (nd o469 (lf o725) nl))) (nd o117 (nd o181 (nd o309 (lf o565) (lf o821)) (nd o437 (lf o693) nl)) (nd o245 (nd o373 (lf o629) (lf o885)) (nd o501 (lf o757) nl))))) (nd o29 (nd o45 (nd o77 (nd o141 (nd o269 (lf o525) (lf o781)) (nd o397 (lf o653) nl)) (nd o205 (nd o333 (lf o589) (lf o845)) (nd o461 (lf o717) nl))) (nd (o109 P) (nd o173 (nd o301 (lf o557) (lf o813)) (nd o429 (lf o685) nl)) (nd o237 (nd (o365 P) (lf o621) (lf o877)) (nd o493 (lf o749) nl)))) (nd (o61 P) (nd o93 (nd o157 (nd o285 (lf o541) (lf o797)) (nd o413 (lf o669) nl)) (nd o221 (nd o349 (lf o605) (lf o861)) (nd o477 (lf o733) nl))) (nd o125 (nd o189 (nd o317 (lf o573) (lf o829)) (nd o445 (lf o701) nl)) (nd o253 (nd o381 (lf o637) (lf o893)) (nd o509 (lf o765) nl)))))))) (nd (boot_o_2 P) (nd (boot_o_4 P) (nd (boot_o_8 P) (nd o16 (nd o32 (nd o64 (nd o128 (nd o256 (lf o512) (lf o768)) (nd o384 (lf o640) nl)) (nd o192 (nd o320 (lf o576) (lf o832)) (nd o448 (lf o704) nl))) (nd o96 (nd o160 (nd o288 (lf o544) (lf o800)) (nd o416 (lf o672) nl)) (nd o224 (nd o352 (lf o608) (lf o864)) (nd o480 (lf o736) nl)))) (nd o48 (nd o80 (nd o144 (nd o272 (lf o528) (lf o784)) (nd o400 (lf o656) nl)) (nd o208 (nd o336 (lf o592) (lf o848)) (nd o464 (lf o720) nl))) (nd o112 (nd o176 (nd o304 (lf o560) (lf o816)) (nd o432 (lf o688) nl)) (nd o240 (nd o368 (lf o624) (lf o880)) (nd o496 (lf o752) nl))))) (nd (o24 P) (nd o40 (nd o72 (nd o136 (nd o264 (lf o520) (lf o776)) (nd o392 (lf o648) nl)) (nd o200 (nd o328 (lf o584) (lf o840)) (nd o456 (lf o712) nl))) (nd o104 (nd o168 (nd o296 (lf o552) (lf o808)) (nd o424 (lf o680) nl)) (nd o232 (nd o360 (lf o616) (lf o872)) (nd o488 (lf o744) nl)))) (nd o56 (nd o88 (nd o152 (nd o280 (lf o536) (lf o792)) (nd o408 (lf (o664 P)) nl)) (nd o216 (nd o344 (lf o600) (lf o856)) (nd o472 (lf o728) nl))) (nd o120 (nd o184 (nd o312 (lf o568) (lf o824)) (nd o440 (lf o696) nl)) (nd o248 (nd o376 (lf o632) (lf o888)) (nd o504 (lf o760) nl)))))) (nd o12 (nd o20 (nd o36 (nd o68 (nd o132 (nd o260 (lf o516) (lf o772)) (nd o388 (lf o644) nl)) (nd o196 (nd o324 (lf o580) (lf o836)) (nd o452 (lf o708) nl))) (nd o100 (nd o164 (nd o292 (lf o548) (lf o804)) (nd o420 (lf o676) nl)) (nd o228 (nd o356 (lf o612) (lf o868)) (nd o484 (lf o740) nl)))) (nd o52 (nd o84 (nd o148 (nd o276 (lf o532) (lf o788)) (nd o404 (lf o660) nl)) (nd o212 (nd o340 (lf (o596 P)) (lf o852)) (nd o468 (lf o724) nl))) (nd o116 (nd o180 (nd o308 (lf o564) (lf o820)) (nd o436 (lf o692) nl)) (nd o244 (nd o372 (lf o628) (lf o884)) (nd o500 (lf o756) nl))))) (nd o28 (nd o44 (nd o76 (nd o140 (nd o268 (lf o524) (lf o780)) (nd o396 (lf o652) nl)) (nd o204 (nd o332 (lf o588) (lf o844)) (nd o460 (lf o716) nl))) (nd o108 (nd o172 (nd o300 (lf o556) (lf o812)) (nd o428 (lf o684) nl)) (nd o236 (nd o364 (lf o620) (lf o876)) (nd o492 (lf o748) nl)))) (nd o60 (nd o92 (nd o156 (nd o284 (lf o540) (lf o796)) (nd o412 (lf o668) nl)) (nd o220 (nd o348 (lf o604) (lf o860)) (nd o476 (lf (o732 P)) nl))) (nd o124 (nd o188 (nd o316 (lf o572) (lf o828)) (nd o444 (lf o700) nl)) (nd o252 (nd o380 (lf o636) (lf o892)) (nd o508 (lf o764) nl))))))) (nd (boot_o_6 P) (nd (boot_o_10 P) (nd o18 (nd o34 (nd o66 (nd o130 (nd o258 (lf o514) (lf o770)) (nd o386 (lf o642) nl)) (nd o194 (nd o322 (lf o578) (lf o834)) (nd o450 (lf o706) nl))) (nd o98 (nd o162 (nd o290 (lf o546) (lf o802)) (nd o418 (lf o674) nl)) (nd o226 (nd o354 (lf o610) (lf o866)) (nd o482 (lf o738) nl)))) (nd o50 (nd o82 (nd o146 (nd o274 (lf o530) (lf o786)) (nd o402 (lf o658) nl)) (nd o210 (nd o338 (lf o594) (lf o850)) (nd o466 (lf o722) nl))) (nd o114 (nd o178 (nd o306 (lf o562) (lf o818)) (nd o434 (lf o690) nl)) (nd o242 (nd o370 (lf o626) (lf o882)) (nd o498 (lf o754) nl))))) (nd o26 (nd o42 (nd o74 (nd o138 (nd o266 (lf o522) (lf o778)) (nd o394 (lf o650) nl)) (nd o202 (nd o330 (lf o586) (lf o842)) (nd o458 (lf o714) nl))) (nd o106 (nd o170 (nd o298 (lf o554) (lf o810)) (nd o426 (lf o682) nl)) (nd o234 (nd o362 (lf o618) (lf o874)) (nd o490 (lf o746) nl)))) (nd o58 (nd o90 (nd o154 (nd o282 (lf o538) (lf o794)) (nd o410 (lf o666) nl)) (nd o218 (nd o346 (lf (o602 P)) (lf o858)) (nd o474 (lf o730) nl))) (nd o122 (nd o186 (nd o314 (lf o570) (lf o826)) (nd o442 (lf o698) nl)) (nd o250 (nd o378 (lf o634) (lf o890)) (nd o506 (lf o762) nl)))))) (nd o14a (nd o22 (nd o38 (nd o70 (nd o134 (nd o262 (lf o518) (lf o774)) (nd o390 (lf o646) nl)) (nd o198 (nd o326 (lf o582) (lf o838)) (nd o454 (lf o710) nl))) (nd o102 (nd o166 (nd o294 (lf o550) (lf o806)) (nd o422 (lf o678) nl)) (nd o230 (nd o358 (lf o614) (lf o870)) (nd o486 (lf o742) nl)))) (nd o54 (nd o86 (nd o150 (nd o278 (lf o534) (lf o790)) (nd o406 (lf o662) nl)) (nd o214 (nd o342 (lf o598) (lf o854)) (nd o470 (lf o726) nl))) (nd o118 (nd o182 (nd o310 (lf o566) (lf o822)) (nd o438 (lf o694) nl)) (nd o246 (nd o374 (lf o630) (lf o886)) (nd o502 (lf o758) nl))))) (nd (o30 P) (nd o46 (nd o78 (nd o142 (nd o270 (lf o526) (lf o782)) (nd o398 (lf o654) nl)) (nd o206 (nd o334 (lf o590) (lf o846)) (nd o462 (lf o718) nl))) (nd o110 (nd o174 (nd o302 (lf o558) (lf o814)) (nd o430 (lf o686) nl)) (nd o238 (nd o366 (lf o622) (lf o878)) (nd o494 (lf o750) nl)))) (nd o62 (nd o94 (nd o158 (nd o286 (lf o542) (lf o798)) (nd o414 (lf (o670 P)) nl)) (nd o222 (nd o350 (lf o606) (lf o862)) (nd o478 (lf o734) nl))) (nd o126 (nd o190 (nd o318 (lf o574) (lf o830)) (nd o446 (lf o702) nl)) (nd o254 (nd o382 (lf o638) nl) (nd o510 (lf o766) nl)))))))))
def S0(w:World)(os:OsState):SharedT:=⟨T0 w.params,894,PySem.Life.mk [] [] [] 0 [] [] false #[] [] 0 false false false 0 [2000,10,10] false 0 true [] [] 0 false,⟨[]⟩,PySem.Drawn.mk 0 0 0 0,1314,os⟩
def Hf(P:Params):Heap:=⟨⟨[boot_o_0 P,boot_o_1 P,boot_o_2 P,o3 P,boot_o_4 P,boot_o_5 P,boot_o_6 P,boot_o_7 P,boot_o_8 P,boot_o_9 P,boot_o_10 P,o11a,o12,o13a,o14a,o15,o16,o17,o18,o19,o20,o21,o22,o23,o24 P,o25,o26,o27,o28,o29,o30 P,o31,o32,o33,o34,o35,o36,o37 P,o38,o39,o40,o41,o42,o43 P,o44,o45,o46,o47,o48,o49 P,o50,o51,o52,o53,o54,o55 P,o56,o57,o58,o59,o60,o61 P,o62,o63,o64,o65,o66,o67 P,o68,o69,o70,o71,o72,o73 P,o74,o75,o76,o77,o78,o79 P,o80,o81,o82,o83,o84,o85 P,o86,o87,o88,o89,o90,o91 P,o92,o93,o94,o95,o96,o97 P,o98,o99,o100,o101,o102,o103 P,o104,o105,o106,o107,o108,o109 P,o110,o111,o112,o113,o114,o115 P,o116,o117,o118,o119,o120,o121,o122,o123,o124,o125,o126,o127,o128,o129,o130,o131,o132,o133,o134,o135,o136,o137,o138,o139,o140,o141,o142,o143,o144,o145,o146,o147,o148,o149,o150,o151,o152,o153,o154,o155,o156,o157,o158,o159,o160,o161,o162,o163,o164,o165,o166,o167,o168,o169,o170,o171,o172,o173,o174,o175,o176,o177,o178,o179,o180,o181,o182,o183,o184,o185,o186,o187,o188,o189,o190,o191,o192,o193,o194,o195,o196,o197,o198,o199,o200,o201,o202,o203,o204,o205,o206,o207,o208,o209,o210,o211,o212,o213,o214,o215,o216,o217,o218,o219,o220,o221,o222,o223,o224,o225,o226,o227,o228,o229,o230,o231,o232,o233,o234,o235,o236,o237,o238,o239,o240,o241,o242,o243,o244,o245,o246,o247,o248,o249,o250,o251,o252,o253,o254,o255,o256,o257,o258,o259,o260,o261,o262,o263,o264,o265,o266,o267,o268,o269,o270,o271,o272,o273,o274,o275,o276,o277,o278,o279,o280,o281,o282,o283,o284,o285,o286,o287,o288,o289,o290,o291,o292,o293,o294,o295,o296,o297,o298,o299,o300,o301,o302,o303,o304,o305,o306,o307,o308,o309,o310,o311,o312,o313,o314,o315,o316,o317,o318,o319,o320,o321,o322,o323,o324,o325,o326,o327,o328,o329,o330,o331,o332,o333,o334,o335,o336,o337,o338,o339,o340,o341,o342,o343,o344,o345,o346,o347,o348,o349,o350,o351 P,o352,o353,o354,o355,o356,o357 P,o358,o359,o360,o361,o362,o363,o364,o365 P,o366,o367,o368,o369,o370,o371,o372,o373,o374,o375,o376,o377,o378,o379,o380,o381,o382,o383,o384,o385 P,o386,o387,o388,o389,o390,o391 P,o392,o393,o394,o395,o396,o397,o398,o399,o400,o401,o402,o403,o404,o405,o406,o407,o408,o409,o410,o411,o412,o413,o414,o415,o416,o417,o418,o419,o420,o421,o422,o423,o424,o425 P,o426,o427,o428,o429,o430,o431 P,o432,o433,o434,o435,o436,o437,o438,o439,o440,o441,o442,o443,o444,o445,o446,o447,o448,o449,o450,o451,o452,o453,o454,o455,o456,o457,o458,o459,o460,o461,o462,o463,o464,o465,o466,o467,o468,o469,o470,o471,o472,o473,o474,o475,o476,o477,o478,o479,o480,o481,o482,o483,o484,o485,o486,o487,o488,o489,o490,o491,o492,o493,o494,o495,o496,o497,o498,o499,o500,o501,o502,o503,o504,o505,o506,o507 P,o508,o509,o510,o511,o512,o513 P,o514,o515,o516,o517,o518,o519,o520,o521,o522,o523,o524,o525,o526,o527,o528,o529,o530,o531,o532,o533,o534,o535,o536,o537,o538,o539,o540,o541,o542,o543,o544,o545,o546,o547,o548,o549,o550,o551,o552,o553,o554,o555,o556,o557,o558,o559,o560,o561,o562,o563,o564,o565,o566,o567,o568,o569,o570,o571,o572,o573,o574,o575,o576,o577,o578,o579,o580,o581,o582,o583,o584,o585,o586,o587,o588,o589,o590,o591,o592,o593,o594,o595,o596 P,o597,o598,o599,o600,o601,o602 P,o603,o604,o605,o606,o607,o608,o609,o610,o611,o612,o613,o614,o615,o616,o617,o618,o619,o620,o621,o622,o623,o624,o625,o626,o627,o628,o629,o630,o631,o632,o633,o634,o635,o636,o637,o638,o639,o640,o641,o642,o643,o644,o645,o646,o647,o648,o649,o650,o651,o652,o653,o654,o655,o656,o657,o658,o659,o660,o661,o662,o663,o664 P,o665,o666,o667,o668,o669,o670 P,o671,o672,o673,o674,o675,o676,o677,o678,o679,o680,o681,o682,o683,o684,o685,o686,o687,o688,o689,o690,o691,o692,o693,o694,o695,o696,o697,o698,o699,o700,o701,o702,o703,o704,o705,o706,o707,o708,o709,o710,o711,o712,o713,o714,o715,o716,o717,o718,o719,o720,o721,o722,o723,o724,o725,o726,o727,o728,o729,o730,o731,o732 P,o733,o734,o735,o736,o737,o738,o739,o740,o741,o742,o743,o744,o745,o746,o747,o748,o749,o750,o751,o752,o753,o754,o755,o756,o757,o758,o759,o760,o761,o762,o763,o764,o765,o766,o767,o768,o769,o770,o771,o772,o773,o774,o775,o776,o777,o778,o779,o780,o781,o782,o783,o784,o785,o786,o787,o788,o789,o790,o791,o792,o793,o794,o795,o796,o797,o798,o799,o800,o801,o802,o803,o804,o805,o806,o807,o808,o809,o810,o811,o812,o813,o814,o815,o816,o817,o818,o819,o820,o821,o822,o823,o824,o825,o826,o827,o828,o829,o830,o831,o832,o833,o834,o835,o836,o837,o838,o839,o840,o841,o842,o843,o844,o845,o846,o847,o848,o849,o850,o851,o852,o853,o854,o855,o856,o857,o858,o859,o860,o861,o862,o863,o864,o865,o866,o867,o868,o869,o870,o871,o872,o873,o874,o875,o876,o877,o878,o879,o880,o881,o882,o883,o884,o885,o886,o887,o888,o889,o890,o891,o892,o893]⟩,PySem.Life.mk [] [] [] 0 [] [] false #[] [] 0 false false false 0 [2000,10,10] false 0 true [] [] 0 false⟩
def Sf(w:World)(os:OsState):Shared:=⟨Hf w.params,⟨[]⟩,PySem.Drawn.mk 0 0 0 0,1314,os⟩
theorem pre_(w:World)(os:OsState):topGo treeTable Fast.tw18033049676167684184 w 11 ((some (r 6))) 12 ⟨boot_heap w.params,⟨[]⟩,boot_drawn,boot_toks,os⟩ (topStub Fast.tw18033049676167684184)=some (Sa w os,⟨denote treeTable cT,cT,⟨0,0,0,0⟩,[topFrame qP]⟩):=by(try rw[Fast.te15667345088766844465]);(try rw[Fast.te14082659384304107361]);(try rw[Fast.te14374325043358763698]);(try rw[Fast.te10110043849684766642]);(try rw[Fast.te14364793385576792824]);(try rw[Fast.te11892475500146522536]);(try rw[Fast.te4187177175401517315]);(try rw[Fast.te5923862056798008813]);(try rw[Fast.te8920871248978507458]);kernel_rfl
theorem block_(w:World)(os:OsState):segRun treeTable Fast.tw18033049676167684184 w 11 ((some (r 6))) 1 1 (Sa w os) (blockOf (behindTheImports Fast.tw18033049676167684184) envT cT ⟨0,0,0,0⟩ [topFrame qP])=some (.next,(Sb w os).abs,cT,⟨0,0,0,0⟩):=by(try rw[Fast.te15667345088766844465]);(try rw[Fast.te14082659384304107361]);(try rw[Fast.te14374325043358763698]);(try rw[Fast.te10110043849684766642]);(try rw[Fast.te14364793385576792824]);(try rw[Fast.te11892475500146522536]);(try rw[Fast.te4187177175401517315]);(try rw[Fast.te5923862056798008813]);(try rw[Fast.te8920871248978507458]);kernel_rfl
def sts0:List Stmt:=[topT 0,topT 1,topT 2,topT 3,topT 4,topT 5,topT 6,topT 7,topT 8,topT 9,topT 10,topT 11,topT 12,topT 13,topT 14,topT 15,topT 16,topT 17,topT 18,topT 19,topT 20,topT 21,topT 22,topT 23,topT 24,topT 25,topT 26,topT 27,topT 28,topT 29,topT 30,topT 31,topT 32,topT 33,topT 34,topT 35,topT 36,topT 37,topT 38,topT 39,topT 40,topT 41,topT 42,topT 43,topT 44,topT 45,topT 46,topT 47,topT 48,topT 49,topT 50,topT 51,topT 52,topT 53,topT 54,topT 55,topT 56,topT 57,topT 58,topT 59,topT 60,topT 61,topT 62,topT 63,topT 64,topT 65,topT 66,topT 67,topT 68,topT 69,topT 70,topT 71,topT 72,topT 73,topT 74,topT 75,topT 76,topT 77,topT 78,topT 79,topT 80,topT 81,topT 82,topT 83,topT 84,topT 85,topT 86,topT 87,topT 88]
theorem pc0(w:World)(os:OsState):segRunT treeTable Fast.tw18033049676167684184 w 11 ((some (r 6))) 1 6526 (Sb w os) (piecesOf sts0 envT cT ⟨0,0,0,0⟩ [topFrame qP])=some (.next,S0 w os,cT,⟨521,0,539,93⟩):=by(try rw[Fast.te15667345088766844465]);(try rw[Fast.te14082659384304107361]);(try rw[Fast.te14374325043358763698]);(try rw[Fast.te10110043849684766642]);(try rw[Fast.te14364793385576792824]);(try rw[Fast.te11892475500146522536]);(try rw[Fast.te4187177175401517315]);(try rw[Fast.te5923862056798008813]);(try rw[Fast.te8920871248978507458]);kernel_rfl
theorem fin_(w:World)(os:OsState):topRun treeTable Fast.tw18033049676167684184 w 11 ((some (r 6))) 2 (S0 w os).abs ⟨doneF .next,cT,⟨521,0,539,93⟩,[topFrame qP]⟩=some (Sf w os):=by(try rw[Fast.te15667345088766844465]);(try rw[Fast.te14082659384304107361]);(try rw[Fast.te14374325043358763698]);(try rw[Fast.te10110043849684766642]);(try rw[Fast.te14364793385576792824]);(try rw[Fast.te11892475500146522536]);(try rw[Fast.te4187177175401517315]);(try rw[Fast.te5923862056798008813]);(try rw[Fast.te8920871248978507458]);kernel_rfl
theorem body_eq:behindTheImports Fast.tw18033049676167684184=(sts0++[]):=by kernel_rfl
theorem run_(w:World)(os:OsState):topRun treeTable Fast.tw18033049676167684184 w 11 ((some (r 6))) (12+(1+(6526+2))) ⟨boot_heap w.params,⟨[]⟩,boot_drawn,boot_toks,os⟩ (topStub Fast.tw18033049676167684184)=some (Sf w os):=by
  have h:=(piece_app (segRun_of (pc0 w os)) (piece_nil (fin_ w os)))
  rw[← body_eq]at h
  exact go_top (pre_ w os) (piece_block (block_ w os) h)
def K(P:Params):Frag:=(nat_lit 2,boot_o_2 P)::(nat_lit 3,o3 P)::(nat_lit 15,o15)::(nat_lit 17,o17)::(nat_lit 18,o18)::(nat_lit 20,o20)::(nat_lit 21,o21)::(nat_lit 22,o22)::(nat_lit 29,o29)::(nat_lit 30,o30 P)::(nat_lit 31,o31)::(nat_lit 32,o32)::(nat_lit 35,o35)::(nat_lit 42,o42)::(nat_lit 43,o43 P)::(nat_lit 44,o44)::(nat_lit 47,o47)::(nat_lit 54,o54)::(nat_lit 55,o55 P)::(nat_lit 56,o56)::(nat_lit 59,o59)::(nat_lit 66,o66)::(nat_lit 67,o67 P)::(nat_lit 68,o68)::(nat_lit 71,o71)::(nat_lit 78,o78)::(nat_lit 79,o79 P)::(nat_lit 80,o80)::(nat_lit 83,o83)::(nat_lit 90,o90)::(nat_lit 91,o91 P)::(nat_lit 92,o92)::(nat_lit 95,o95)::(nat_lit 102,o102)::(nat_lit 103,o103 P)::(nat_lit 104,o104)::(nat_lit 107,o107)::(nat_lit 114,o114)::(nat_lit 115,o115 P)::(nat_lit 116,o116)::(nat_lit 119,o119)::(nat_lit 122,o122)::(nat_lit 123,o123)::(nat_lit 124,o124)::(nat_lit 127,o127)::(nat_lit 128,o128)::(nat_lit 129,o129)::(nat_lit 132,o132)::(nat_lit 133,o133)::(nat_lit 134,o134)::(nat_lit 137,o137)::(nat_lit 138,o138)::(nat_lit 139,o139)::(nat_lit 142,o142)::(nat_lit 143,o143)::(nat_lit 144,o144)::(nat_lit 146,o146)::(nat_lit 147,o147)::(nat_lit 149,o149)::(nat_lit 150,o150)::(nat_lit 151,o151)::(nat_lit 154,o154)::(nat_lit 155,o155)::(nat_lit 156,o156)::(nat_lit 159,o159)::(nat_lit 160,o160)::(nat_lit 161,o161)::(nat_lit 164,o164)::(nat_lit 165,o165)::(nat_lit 166,o166)::(nat_lit 168,o168)::(nat_lit 169,o169)::(nat_lit 171,o171)::(nat_lit 172,o172)::(nat_lit 173,o173)::(nat_lit 175,o175)::(nat_lit 176,o176)::(nat_lit 178,o178)::(nat_lit 179,o179)::(nat_lit 180,o180)::(nat_lit 182,o182)::(nat_lit 183,o183)::(nat_lit 185,o185)::(nat_lit 186,o186)::(nat_lit 187,o187)::(nat_lit 189,o189)::(nat_lit 190,o190)::(nat_lit 192,o192)::(nat_lit 193,o193)::(nat_lit 194,o194)::(nat_lit 196,o196)::(nat_lit 197,o197)::(nat_lit 199,o199)::(nat_lit 200,o200)::(nat_lit 201,o201)::(nat_lit 203,o203)::(nat_lit 204,o204)::(nat_lit 206,o206)::(nat_lit 207,o207)::(nat_lit 208,o208)::(nat_lit 210,o210)::(nat_lit 211,o211)::(nat_lit 213,o213)::(nat_lit 214,o214)::(nat_lit 215,o215)::(nat_lit 218,o218)::(nat_lit 219,o219)::(nat_lit 220,o220)::(nat_lit 223,o223)::(nat_lit 224,o224)::(nat_lit 225,o225)::(nat_lit 227,o227)::(nat_lit 228,o228)::(nat_lit 230,o230)::(nat_lit 231,o231)::(nat_lit 232,o232)::(nat_lit 235,o235)::(nat_lit 236,o236)::(nat_lit 237,o237)::(nat_lit 239,o239)::(nat_lit 240,o240)::(nat_lit 242,o242)::(nat_lit 243,o243)::(nat_lit 244,o244)::(nat_lit 246,o246)::(nat_lit 247,o247)::(nat_lit 249,o249)::(nat_lit 250,o250)::(nat_lit 251,o251)::(nat_lit 254,o254)::(nat_lit 255,o255)::(nat_lit 256,o256)::(nat_lit 259,o259)::(nat_lit 260,o260)::(nat_lit 261,o261)::(nat_lit 264,o264)::(nat_lit 265,o265)::(nat_lit 266,o266)::(nat_lit 268,o268)::(nat_lit 269,o269)::(nat_lit 271,o271)::(nat_lit 272,o272)::(nat_lit 273,o273)::(nat_lit 276,o276)::(nat_lit 277,o277)::(nat_lit 278,o278)::(nat_lit 280,o280)::(nat_lit 281,o281)::(nat_lit 283,o283)::(nat_lit 284,o284)::(nat_lit 285,o285)::(nat_lit 288,o288)::(nat_lit 289,o289)::(nat_lit 290,o290)::(nat_lit 292,o292)::(nat_lit 293,o293)::(nat_lit 295,o295)::(nat_lit 296,o296)::(nat_lit 297,o297)::(nat_lit 300,o300)::(nat_lit 301,o301)::(nat_lit 302,o302)::(nat_lit 304,o304)::(nat_lit 305,o305)::(nat_lit 307,o307)::(nat_lit 308,o308)::(nat_lit 309,o309)::(nat_lit 311,o311)::(nat_lit 312,o312)::(nat_lit 314,o314)::(nat_lit 315,o315)::(nat_lit 316,o316)::(nat_lit 318,o318)::(nat_lit 319,o319)::(nat_lit 321,o321)::(nat_lit 322,o322)::(nat_lit 323,o323)::(nat_lit 325,o325)::(nat_lit 326,o326)::(nat_lit 328,o328)::(nat_lit 329,o329)::(nat_lit 330,o330)::(nat_lit 333,o333)::(nat_lit 334,o334)::(nat_lit 335,o335)::(nat_lit 337,o337)::(nat_lit 338,o338)::(nat_lit 340,o340)::(nat_lit 341,o341)::(nat_lit 342,o342)::(nat_lit 344,o344)::(nat_lit 345,o345)::(nat_lit 347,o347)::(nat_lit 348,o348)::(nat_lit 356,o356)::(nat_lit 357,o357 P)::(nat_lit 358,o358)::(nat_lit 359,o359)::(nat_lit 360,o360)::(nat_lit 363,o363)::(nat_lit 370,o370)::(nat_lit 372,o372)::(nat_lit 373,o373)::(nat_lit 375,o375)::(nat_lit 376,o376)::(nat_lit 377,o377)::(nat_lit 379,o379)::(nat_lit 380,o380)::(nat_lit 382,o382)::(nat_lit 383,o383)::(nat_lit 384,o384)::(nat_lit 385,o385 P)::(nat_lit 386,o386)::(nat_lit 389,o389)::(nat_lit 396,o396)::(nat_lit 398,o398)::(nat_lit 399,o399)::(nat_lit 401,o401)::(nat_lit 402,o402)::(nat_lit 403,o403)::(nat_lit 405,o405)::(nat_lit 406,o406)::(nat_lit 408,o408)::(nat_lit 409,o409)::(nat_lit 410,o410)::(nat_lit 412,o412)::(nat_lit 413,o413)::(nat_lit 415,o415)::(nat_lit 416,o416)::(nat_lit 417,o417)::(nat_lit 419,o419)::(nat_lit 420,o420)::(nat_lit 422,o422)::(nat_lit 423,o423)::(nat_lit 424,o424)::(nat_lit 425,o425 P)::(nat_lit 426,o426)::(nat_lit 429,o429)::(nat_lit 436,o436)::(nat_lit 438,o438)::(nat_lit 439,o439)::(nat_lit 441,o441)::(nat_lit 442,o442)::(nat_lit 443,o443)::(nat_lit 445,o445)::(nat_lit 446,o446)::(nat_lit 448,o448)::(nat_lit 449,o449)::(nat_lit 450,o450)::(nat_lit 452,o452)::(nat_lit 453,o453)::(nat_lit 455,o455)::(nat_lit 456,o456)::(nat_lit 457,o457)::(nat_lit 459,o459)::(nat_lit 460,o460)::(nat_lit 462,o462)::(nat_lit 463,o463)::(nat_lit 464,o464)::(nat_lit 466,o466)::(nat_lit 467,o467)::(nat_lit 469,o469)::(nat_lit 470,o470)::(nat_lit 471,o471)::(nat_lit 473,o473)::(nat_lit 474,o474)::(nat_lit 476,o476)::(nat_lit 477,o477)::(nat_lit 478,o478)::(nat_lit 480,o480)::(nat_lit 481,o481)::(nat_lit 483,o483)::(nat_lit 484,o484)::(nat_lit 485,o485)::(nat_lit 487,o487)::(nat_lit 488,o488)::(nat_lit 490,o490)::(nat_lit 491,o491)::(nat_lit 492,o492)::(nat_lit 494,o494)::(nat_lit 495,o495)::(nat_lit 497,o497)::(nat_lit 498,o498)::(nat_lit 499,o499)::(nat_lit 501,o501)::(nat_lit 502,o502)::(nat_lit 504,o504)::(nat_lit 505,o505)::(nat_lit 506,o506)::(nat_lit 507,o507 P)::(nat_lit 508,o508)::(nat_lit 511,o511)::(nat_lit 518,o518)::(nat_lit 520,o520)::(nat_lit 521,o521)::(nat_lit 523,o523)::(nat_lit 524,o524)::(nat_lit 525,o525)::(nat_lit 527,o527)::(nat_lit 528,o528)::(nat_lit 530,o530)::(nat_lit 531,o531)::(nat_lit 532,o532)::(nat_lit 534,o534)::(nat_lit 535,o535)::(nat_lit 537,o537)::(nat_lit 538,o538)::(nat_lit 539,o539)::(nat_lit 541,o541)::(nat_lit 542,o542)::(nat_lit 544,o544)::(nat_lit 545,o545)::(nat_lit 546,o546)::(nat_lit 548,o548)::(nat_lit 549,o549)::(nat_lit 551,o551)::(nat_lit 552,o552)::(nat_lit 553,o553)::(nat_lit 555,o555)::(nat_lit 556,o556)::(nat_lit 558,o558)::(nat_lit 559,o559)::(nat_lit 560,o560)::(nat_lit 562,o562)::(nat_lit 563,o563)::(nat_lit 565,o565)::(nat_lit 566,o566)::(nat_lit 567,o567)::(nat_lit 569,o569)::(nat_lit 570,o570)::(nat_lit 572,o572)::(nat_lit 573,o573)::(nat_lit 574,o574)::(nat_lit 576,o576)::(nat_lit 577,o577)::(nat_lit 579,o579)::(nat_lit 580,o580)::(nat_lit 581,o581)::(nat_lit 583,o583)::(nat_lit 584,o584)::(nat_lit 586,o586)::(nat_lit 587,o587)::(nat_lit 588,o588)::(nat_lit 590,o590)::(nat_lit 591,o591)::(nat_lit 593,o593)::(nat_lit 594,o594)::(nat_lit 595,o595)::(nat_lit 596,o596 P)::(nat_lit 597,o597)::(nat_lit 600,o600)::(nat_lit 607,o607)::(nat_lit 609,o609)::(nat_lit 610,o610)::(nat_lit 612,o612)::(nat_lit 613,o613)::(nat_lit 614,o614)::(nat_lit 616,o616)::(nat_lit 617,o617)::(nat_lit 619,o619)::(nat_lit 620,o620)::(nat_lit 621,o621)::(nat_lit 623,o623)::(nat_lit 624,o624)::(nat_lit 626,o626)::(nat_lit 627,o627)::(nat_lit 628,o628)::(nat_lit 630,o630)::(nat_lit 631,o631)::(nat_lit 633,o633)::(nat_lit 634,o634)::(nat_lit 635,o635)::(nat_lit 637,o637)::(nat_lit 638,o638)::(nat_lit 640,o640)::(nat_lit 641,o641)::(nat_lit 642,o642)::(nat_lit 644,o644)::(nat_lit 645,o645)::(nat_lit 647,o647)::(nat_lit 648,o648)::(nat_lit 649,o649)::(nat_lit 651,o651)::(nat_lit 652,o652)::(nat_lit 654,o654)::(nat_lit 655,o655)::(nat_lit 656,o656)::(nat_lit 658,o658)::(nat_lit 659,o659)::(nat_lit 661,o661)::(nat_lit 662,o662)::(nat_lit 663,o663)::(nat_lit 664,o664 P)::(nat_lit 665,o665)::(nat_lit 668,o668)::(nat_lit 675,o675)::(nat_lit 677,o677)::(nat_lit 678,o678)::(nat_lit 680,o680)::(nat_lit 681,o681)::(nat_lit 682,o682)::(nat_lit 684,o684)::(nat_lit 685,o685)::(nat_lit 687,o687)::(nat_lit 688,o688)::(nat_lit 689,o689)::(nat_lit 691,o691)::(nat_lit 692,o692)::(nat_lit 694,o694)::(nat_lit 695,o695)::(nat_lit 696,o696)::(nat_lit 698,o698)::(nat_lit 699,o699)::(nat_lit 701,o701)::(nat_lit 702,o702)::(nat_lit 703,o703)::(nat_lit 705,o705)::(nat_lit 706,o706)::(nat_lit 708,o708)::(nat_lit 709,o709)::(nat_lit 710,o710)::(nat_lit 712,o712)::(nat_lit 713,o713)::(nat_lit 715,o715)::(nat_lit 716,o716)::(nat_lit 717,o717)::(nat_lit 719,o719)::(nat_lit 720,o720)::(nat_lit 722,o722)::(nat_lit 723,o723)::(nat_lit 724,o724)::(nat_lit 726,o726)::(nat_lit 727,o727)::(nat_lit 729,o729)::(nat_lit 730,o730)::(nat_lit 731,o731)::(nat_lit 732,o732 P)::(nat_lit 733,o733)::(nat_lit 736,o736)::(nat_lit 738,o738)::(nat_lit 739,o739)::(nat_lit 741,o741)::(nat_lit 742,o742)::(nat_lit 743,o743)::(nat_lit 745,o745)::(nat_lit 746,o746)::(nat_lit 748,o748)::(nat_lit 749,o749)::(nat_lit 750,o750)::(nat_lit 752,o752)::(nat_lit 753,o753)::(nat_lit 755,o755)::(nat_lit 756,o756)::(nat_lit 757,o757)::(nat_lit 759,o759)::(nat_lit 760,o760)::(nat_lit 762,o762)::(nat_lit 763,o763)::(nat_lit 764,o764)::(nat_lit 766,o766)::(nat_lit 767,o767)::(nat_lit 769,o769)::(nat_lit 770,o770)::(nat_lit 771,o771)::(nat_lit 773,o773)::(nat_lit 774,o774)::(nat_lit 776,o776)::(nat_lit 777,o777)::(nat_lit 778,o778)::(nat_lit 780,o780)::(nat_lit 781,o781)::(nat_lit 783,o783)::(nat_lit 784,o784)::(nat_lit 785,o785)::(nat_lit 787,o787)::(nat_lit 788,o788)::(nat_lit 790,o790)::(nat_lit 791,o791)::(nat_lit 792,o792)::(nat_lit 794,o794)::(nat_lit 795,o795)::(nat_lit 797,o797)::(nat_lit 798,o798)::(nat_lit 799,o799)::(nat_lit 801,o801)::(nat_lit 802,o802)::(nat_lit 804,o804)::(nat_lit 805,o805)::(nat_lit 806,o806)::(nat_lit 809,o809)::(nat_lit 810,o810)::(nat_lit 811,o811)::(nat_lit 814,o814)::(nat_lit 815,o815)::(nat_lit 816,o816)::(nat_lit 818,o818)::(nat_lit 819,o819)::(nat_lit 821,o821)::(nat_lit 822,o822)::(nat_lit 823,o823)::(nat_lit 826,o826)::(nat_lit 827,o827)::(nat_lit 828,o828)::(nat_lit 830,o830)::(nat_lit 831,o831)::(nat_lit 833,o833)::(nat_lit 834,o834)::(nat_lit 835,o835)::(nat_lit 838,o838)::(nat_lit 839,o839)::(nat_lit 840,o840)::(nat_lit 842,o842)::(nat_lit 843,o843)::(nat_lit 845,o845)::(nat_lit 846,o846)::(nat_lit 847,o847)::(nat_lit 849,o849)::(nat_lit 850,o850)::(nat_lit 852,o852)::(nat_lit 853,o853)::(nat_lit 854,o854)::(nat_lit 856,o856)::(nat_lit 857,o857)::(nat_lit 859,o859)::(nat_lit 860,o860)::(nat_lit 861,o861)::(nat_lit 863,o863)::(nat_lit 864,o864)::(nat_lit 866,o866)::(nat_lit 867,o867)::(nat_lit 868,o868)::(nat_lit 870,o870)::(nat_lit 871,o871)::(nat_lit 873,o873)::(nat_lit 874,o874)::(nat_lit 875,o875)::(nat_lit 877,o877)::(nat_lit 878,o878)::(nat_lit 880,o880)::(nat_lit 881,o881)::(nat_lit 882,o882)::(nat_lit 884,o884)::(nat_lit 885,o885)::(nat_lit 887,o887)::(nat_lit 888,o888)::(nat_lit 889,o889)::(nat_lit 892,o892)::(nat_lit 893,o893)::[]
def KA:List Addr:=[2,3,15,17,18,20,21,22,29,30,31,32,35,42,43,44,47,54,55,56,59,66,67,68,71,78,79,80,83,90,91,92,95,102,103,104,107,114,115,116,119,122,123,124,127,128,129,132,133,134,137,138,139,142,143,144,146,147,149,150,151,154,155,156,159,160,161,164,165,166,168,169,171,172,173,175,176,178,179,180,182,183,185,186,187,189,190,192,193,194,196,197,199,200,201,203,204,206,207,208,210,211,213,214,215,218,219,220,223,224,225,227,228,230,231,232,235,236,237,239,240,242,243,244,246,247,249,250,251,254,255,256,259,260,261,264,265,266,268,269,271,272,273,276,277,278,280,281,283,284,285,288,289,290,292,293,295,296,297,300,301,302,304,305,307,308,309,311,312,314,315,316,318,319,321,322,323,325,326,328,329,330,333,334,335,337,338,340,341,342,344,345,347,348,356,357,358,359,360,363,370,372,373,375,376,377,379,380,382,383,384,385,386,389,396,398,399,401,402,403,405,406,408,409,410,412,413,415,416,417,419,420,422,423,424,425,426,429,436,438,439,441,442,443,445,446,448,449,450,452,453,455,456,457,459,460,462,463,464,466,467,469,470,471,473,474,476,477,478,480,481,483,484,485,487,488,490,491,492,494,495,497,498,499,501,502,504,505,506,507,508,511,518,520,521,523,524,525,527,528,530,531,532,534,535,537,538,539,541,542,544,545,546,548,549,551,552,553,555,556,558,559,560,562,563,565,566,567,569,570,572,573,574,576,577,579,580,581,583,584,586,587,588,590,591,593,594,595,596,597,600,607,609,610,612,613,614,616,617,619,620,621,623,624,626,627,628,630,631,633,634,635,637,638,640,641,642,644,645,647,648,649,651,652,654,655,656,658,659,661,662,663,664,665,668,675,677,678,680,681,682,684,685,687,688,689,691,692,694,695,696,698,699,701,702,703,705,706,708,709,710,712,713,715,716,717,719,720,722,723,724,726,727,729,730,731,732,733,736,738,739,741,742,743,745,746,748,749,750,752,753,755,756,757,759,760,762,763,764,766,767,769,770,771,773,774,776,777,778,780,781,783,784,785,787,788,790,791,792,794,795,797,798,799,801,802,804,805,806,809,810,811,814,815,816,818,819,821,822,823,826,827,828,830,831,833,834,835,838,839,840,842,843,845,846,847,849,850,852,853,854,856,857,859,860,861,863,864,866,867,868,870,871,873,874,875,877,878,880,881,882,884,885,887,888,889,892,893]
theorem KA_eq(P:Params):KA=(K P).map (·.1):=by kernel_rfl
def topO(i:Nat):Stmt:=PySem.Challenge.pw_weighwalk_k28_whole_built.main.body.getD i (.Pass ⟨0,0,0,0⟩)
theorem a0r:topT=topO:=by unfold topT topO;rw[Fast.te18033049676167684184]
def qT:Program:={ Fast.tw18033049676167684184 with main:={ Fast.tw18033049676167684184.main with body:=[topT 0,topT 2,topT 3,topT 4,topT 5,topT 6,topT 7,topT 8,topT 9,topT 11,topT 12,topT 13,topT 14,topT 15,topT 16,topT 17,topT 18,topT 20,topT 21,topT 22,topT 23,topT 24,topT 25,topT 26,topT 28,topT 29,topT 30,topT 31,topT 32,topT 33,topT 34,topT 35,topT 36,topT 37,topT 38,topT 39,topT 40,topT 41,topT 42,topT 43,topT 44,topT 46,topT 47,topT 48,topT 49,topT 51,topT 52,topT 53,topT 54,topT 55,topT 56,topT 57,topT 58,topT 59,topT 60,topT 61,topT 62,topT 63,topT 65,topT 66,topT 67,topT 68,topT 69,topT 70,topT 71,topT 72,topT 73,topT 74,topT 75,topT 76,topT 77,topT 78,topT 79,topT 80,topT 81,topT 82,topT 83,topT 84,topT 85,topT 86,topT 87,topT 88] } }
def qO:Program:={ PySem.Challenge.pw_weighwalk_k28_whole_built with main:={ PySem.Challenge.pw_weighwalk_k28_whole_built.main with body:=[topO 0,topO 2,topO 3,topO 4,topO 5,topO 6,topO 7,topO 8,topO 9,topO 11,topO 12,topO 13,topO 14,topO 15,topO 16,topO 17,topO 18,topO 20,topO 21,topO 22,topO 23,topO 24,topO 25,topO 26,topO 28,topO 29,topO 30,topO 31,topO 32,topO 33,topO 34,topO 35,topO 36,topO 37,topO 38,topO 39,topO 40,topO 41,topO 42,topO 43,topO 44,topO 46,topO 47,topO 48,topO 49,topO 51,topO 52,topO 53,topO 54,topO 55,topO 56,topO 57,topO 58,topO 59,topO 60,topO 61,topO 62,topO 63,topO 65,topO 66,topO 67,topO 68,topO 69,topO 70,topO 71,topO 72,topO 73,topO 74,topO 75,topO 76,topO 77,topO 78,topO 79,topO 80,topO 81,topO 82,topO 83,topO 84,topO 85,topO 86,topO 87,topO 88] } }
theorem q_eq:qO=qT:=by unfold qO qT;rw[a0r,Fast.te18033049676167684184]
def recs:=RowW.records (OpenRow.toRowW (OpenLaw.row PySem.Challenge.rw_weighwalk_k28_whole_built))
abbrev Xt(q:Program)(s:Shared):Bool:=xlAt q [] s && recOk recs s
abbrev hook:Hook:=kHook K KA KA_eq
theorem size_(w:World):((boot_heap w.params).isNs mainGlobals && (⟨[]⟩:Array GenState).size == 0,(boot_heap w.params).objs.size,(boot_heap w.params).nsMap mainGlobals "__annotations__")=(true,11,(some (r 6))):=by(try rw[Fast.te15667345088766844465]);(try rw[Fast.te14082659384304107361]);(try rw[Fast.te14374325043358763698]);(try rw[Fast.te10110043849684766642]);(try rw[Fast.te14364793385576792824]);(try rw[Fast.te11892475500146522536]);(try rw[Fast.te4187177175401517315]);(try rw[Fast.te5923862056798008813]);(try rw[Fast.te8920871248978507458]);kernel_rfl
theorem open_:∀w:World,(fencedOpening treeTable Fast.tw18033049676167684184 w 13176).map (fun s=>(s.heap,s.gens,s.drawn,s.toks))=some (boot_heap w.params,⟨[]⟩,boot_drawn,boot_toks):=boot_open (by kernel_rfl) (by decide) (fun s=>by(try rw[Fast.te15667345088766844465]);(try rw[Fast.te14082659384304107361]);(try rw[Fast.te14374325043358763698]);(try rw[Fast.te10110043849684766642]);(try rw[Fast.te14364793385576792824]);(try rw[Fast.te11892475500146522536]);(try rw[Fast.te4187177175401517315]);(try rw[Fast.te5923862056798008813]);(try rw[Fast.te8920871248978507458]);kernel_rfl)
theorem look1(w:World)(os:OsState):(staticsOk (importedModules Fast.tw18033049676167684184.main.body) (boot_heap w.params) (Hf w.params) && namesBound Fast.tw18033049676167684184 (Hf w.params) && gensDone (Sf w os) && laidKept (boot_heap w.params) (Hf w.params))=true:=by(try rw[Fast.te15667345088766844465]);(try rw[Fast.te14082659384304107361]);(try rw[Fast.te14374325043358763698]);(try rw[Fast.te10110043849684766642]);(try rw[Fast.te14364793385576792824]);(try rw[Fast.te11892475500146522536]);(try rw[Fast.te4187177175401517315]);(try rw[Fast.te5923862056798008813]);(try rw[Fast.te8920871248978507458]);kernel_rfl
theorem look2(w:World)(os:OsState):openSeen qT [] (importedModules Fast.tw18033049676167684184.main.body) (Xt qT) true (Sf w os)=openGood qT []:=by(try rw[Fast.te15667345088766844465]);(try rw[Fast.te14082659384304107361]);(try rw[Fast.te14374325043358763698]);(try rw[Fast.te10110043849684766642]);(try rw[Fast.te14364793385576792824]);(try rw[Fast.te11892475500146522536]);(try rw[Fast.te4187177175401517315]);(try rw[Fast.te5923862056798008813]);(try rw[Fast.te8920871248978507458]);kernel_rfl
theorem look3(w:World)(os:OsState):hook.obs (Sf w os)=hook.val w:=by kernel_rfl
theorem leftT:LeftO Fast.tw18033049676167684184 qT [] (Xt qT) hook.obs hook.val 13176:=LeftO.of_pieces (H₁:=Hf) open_ size_ run_ (by decide) (fun w=>funext fun os=>looks_pair (look1 w os) (looks_pair (look2 w os) (look3 w os)))
theorem left:LeftO PySem.Challenge.pw_weighwalk_k28_whole_built qO [] (Xt qO) hook.obs hook.val 13176:=by have h:=leftT;rw[← q_eq,← Fast.te18033049676167684184]at h;exact h
def dO:DefRec:=⟨PySem.Str.ofString "law",L2.c0n (topO 88),L2.c0c (topO 88),L2.a0h (topO 88),⟨521,0,539,93⟩⟩
theorem holds_(said:(OpenLaw.row PySem.Challenge.rw_weighwalk_k28_whole_built).wellSaid=true)(hw:(OpenLaw.row PySem.Challenge.rw_weighwalk_k28_whole_built).toRowW.promised)(hc:WalkO qO [] (XL qO []) (Hook.says hook) (OpenLaw.row PySem.Challenge.rw_weighwalk_k28_whole_built).toRowW dO [] (fun f vs=>PySem.call f vs)):(OpenLaw.row PySem.Challenge.rw_weighwalk_k28_whole_built).Holds:=
  holds_open (r:=(OpenLaw.row PySem.Challenge.rw_weighwalk_k28_whole_built)) (q:=qO) (loose:=[]) (Xt:=Xt qO) (XP:=XL qO []) (Yf:=hook.obs) (Ya:=hook.val) (YP:=hook.says) (d:=dO) (kwd:=[]) (N:=13176) left hook.of hook.keeps (fun s e=>xl_of s (Bool.and_eq_true_iff.mp e).1) XL.keeps (by kernel_rfl) (by kernel_rfl) (by kernel_rfl) (fun s e=>recFacts_of (Bool.and_eq_true_iff.mp e).2) (by kernel_rfl) said (by decide +kernel) ⟨rfl,rfl,rfl,rfl,rfl,by decide +kernel⟩ hw hc
abbrev fO(n q:String)(s:Stmt)(m c:Value):Obj:=⟨.type SL.s7174869446012820540x8,none,.func (fnOf (PySem.Str.ofString n) (PySem.Str.ofString q) (L2.c0n s) (L2.c0c s) (L2.a0h s) .none .none .none m none c .none),#[]⟩
theorem lk_noughts(P:Params):(K P).lookup 123=some (fO "noughts" "noughts" (topO 11) (.str s103 326) (r 122)):=by rw[← a0r];kernel_rfl
theorem lk_unit(P:Params):(K P).lookup 128=some (fO "unit" "unit" (topO 12) (.str s103 326) (r 127)):=by rw[← a0r];kernel_rfl
theorem lk_times_row(P:Params):(K P).lookup 133=some (fO "times_row" "times_row" (topO 13) (.str s103 326) (r 132)):=by rw[← a0r];kernel_rfl
theorem lk_column_at(P:Params):(K P).lookup 138=some (fO "column_at" "column_at" (topO 14) (.str s103 326) (r 137)):=by rw[← a0r];kernel_rfl
theorem n0h(P:Params):(K P).lookup 143=some (fO "columns_of" "columns_of" (topO 15) (.str s103 326) (r 142)):=by rw[← a0r];kernel_rfl
theorem lk_dot(P:Params):(K P).lookup 150=some (fO "dot" "dot" (topO 16) (.str s103 326) (r 149)):=by rw[← a0r];kernel_rfl
theorem lk_row_by(P:Params):(K P).lookup 155=some (fO "row_by" "row_by" (topO 17) (.str s103 326) (r 154)):=by rw[← a0r];kernel_rfl
theorem lk_by_column(P:Params):(K P).lookup 160=some (fO "by_column" "by_column" (topO 18) (.str s103 326) (r 159)):=by rw[← a0r];kernel_rfl
theorem lk_is_word(P:Params):(K P).lookup 165=some (fO "is_word" "is_word" (topO 21) (.str s110 382) (r 164)):=by rw[← a0r];kernel_rfl
theorem lk_need_word(P:Params):(K P).lookup 172=some (fO "need_word" "need_word" (topO 22) (.str s110 382) (r 171)):=by rw[← a0r];kernel_rfl
theorem lk_rooms(P:Params):(K P).lookup 179=some (fO "rooms" "rooms" (topO 23) (.str s110 382) (r 178)):=by rw[← a0r];kernel_rfl
theorem lk_table_of(P:Params):(K P).lookup 186=some (fO "table_of" "table_of" (topO 24) (.str s110 382) (r 185)):=by rw[← a0r];kernel_rfl
theorem lk_ahead(P:Params):(K P).lookup 193=some (fO "ahead" "ahead" (topO 25) (.str s110 382) (r 192)):=by rw[← a0r];kernel_rfl
theorem lk_weight(P:Params):(K P).lookup 200=some (fO "weight" "weight" (topO 26) (.str s110 382) (r 199)):=by rw[← a0r];kernel_rfl
theorem f0m(P:Params):(K P).lookup 207=some (fO "need_same_letters" "need_same_letters" (topO 28) (.str s118 435) (r 206)):=by rw[← a0r];kernel_rfl
theorem i0g(P:Params):(K P).lookup 214=some (fO "need_few_rooms" "need_few_rooms" (topO 29) (.str s118 435) (r 213)):=by rw[← a0r];kernel_rfl
theorem lk_beside(P:Params):(K P).lookup 219=some (fO "beside" "beside" (topO 30) (.str s118 435) (r 218)):=by rw[← a0r];kernel_rfl
theorem n0g(P:Params):(K P).lookup 224=some (fO "put_beside" "put_beside" (topO 31) (.str s118 435) (r 223)):=by rw[← a0r];kernel_rfl
theorem lk_added(P:Params):(K P).lookup 231=some (fO "added" "added" (topO 32) (.str s118 435) (r 230)):=by rw[← a0r];kernel_rfl
theorem lk_outer(P:Params):(K P).lookup 236=some (fO "outer" "outer" (topO 33) (.str s118 435) (r 235)):=by rw[← a0r];kernel_rfl
theorem lk_joined(P:Params):(K P).lookup 243=some (fO "joined" "joined" (topO 34) (.str s118 435) (r 242)):=by rw[← a0r];kernel_rfl
theorem lk_cross_row(P:Params):(K P).lookup 250=some (fO "cross_row" "cross_row" (topO 35) (.str s118 435) (r 249)):=by rw[← a0r];kernel_rfl
theorem l0n(P:Params):(K P).lookup 255=some (fO "cross_table" "cross_table" (topO 36) (.str s118 435) (r 254)):=by rw[← a0r];kernel_rfl
theorem lk_crossed(P:Params):(K P).lookup 260=some (fO "crossed" "crossed" (topO 37) (.str s118 435) (r 259)):=by rw[← a0r];kernel_rfl
theorem lk_mirrored(P:Params):(K P).lookup 265=some (fO "mirrored" "mirrored" (topO 38) (.str s118 435) (r 264)):=by rw[← a0r];kernel_rfl
theorem lk_turned(P:Params):(K P).lookup 272=some (fO "turned" "turned" (topO 39) (.str s118 435) (r 271)):=by rw[← a0r];kernel_rfl
theorem k0k(P:Params):(K P).lookup 277=some (fO "closed_table" "closed_table" (topO 40) (.str s118 435) (r 276)):=by rw[← a0r];kernel_rfl
theorem j0d(P:Params):(K P).lookup 284=some (fO "need_closable" "need_closable" (topO 41) (.str s118 435) (r 283)):=by rw[← a0r];kernel_rfl
theorem lk_closed(P:Params):(K P).lookup 289=some (fO "closed" "closed" (topO 42) (.str s118 435) (r 288)):=by rw[← a0r];kernel_rfl
theorem n0f(P:Params):(K P).lookup 296=some (fO "single_row" "single_row" (topO 43) (.str s118 435) (r 295)):=by rw[← a0r];kernel_rfl
theorem lk_single(P:Params):(K P).lookup 301=some (fO "single" "single" (topO 44) (.str s118 435) (r 300)):=by rw[← a0r];kernel_rfl
theorem lk_is_whole(P:Params):(K P).lookup 308=some (fO "is_whole" "is_whole" (topO 46) (.str s128 566) (r 307)):=by rw[← a0r];kernel_rfl
theorem lk_divisor(P:Params):(K P).lookup 315=some (fO "divisor" "divisor" (topO 47) (.str s128 566) (r 314)):=by rw[← a0r];kernel_rfl
theorem lk_fraction(P:Params):(K P).lookup 322=some (fO "fraction" "fraction" (topO 48) (.str s128 566) (r 321)):=by rw[← a0r];kernel_rfl
theorem lk_is_prime(P:Params):(K P).lookup 329=some (fO "is_prime" "is_prime" (topO 49) (.str s128 566) (r 328)):=by rw[← a0r];kernel_rfl
theorem g0i(P:Params):(K P).lookup 449=some (fO "nought" "Fractions.nought" (L2.a0j (topO 60) 1) (.str s137 603) (r 448)):=by rw[← a0r];kernel_rfl
theorem j0g(P:Params):(K P).lookup 456=some (fO "one" "Fractions.one" (L2.a0j (topO 60) 2) (.str s137 603) (r 455)):=by rw[← a0r];kernel_rfl
theorem i0i(P:Params):(K P).lookup 463=some (fO "plus" "Fractions.plus" (L2.a0j (topO 60) 3) (.str s137 603) (r 462)):=by rw[← a0r];kernel_rfl
theorem h0d(P:Params):(K P).lookup 470=some (fO "times" "Fractions.times" (L2.a0j (topO 60) 4) (.str s137 603) (r 469)):=by rw[← a0r];kernel_rfl
theorem f0n(P:Params):(K P).lookup 524=some (fO "__init__" "Residues.__init__" (L2.a0j (topO 61) 0) (.str s137 603) (r 523)):=by rw[← a0r];kernel_rfl
theorem h0c(P:Params):(K P).lookup 538=some (fO "nought" "Residues.nought" (L2.a0j (topO 61) 2) (.str s137 603) (r 537)):=by rw[← a0r];kernel_rfl
theorem k0p(P:Params):(K P).lookup 545=some (fO "one" "Residues.one" (L2.a0j (topO 61) 3) (.str s137 603) (r 544)):=by rw[← a0r];kernel_rfl
theorem j0f(P:Params):(K P).lookup 552=some (fO "plus" "Residues.plus" (L2.a0j (topO 61) 4) (.str s137 603) (r 551)):=by rw[← a0r];kernel_rfl
theorem i0h(P:Params):(K P).lookup 559=some (fO "times" "Residues.times" (L2.a0j (topO 61) 5) (.str s137 603) (r 558)):=by rw[← a0r];kernel_rfl
theorem k0q(P:Params):(K P).lookup 620=some (fO "nought" "Costs.nought" (L2.a0j (topO 62) 1) (.str s137 603) (r 619)):=by rw[← a0r];kernel_rfl
theorem lk_Costs_one(P:Params):(K P).lookup 627=some (fO "one" "Costs.one" (L2.a0j (topO 62) 2) (.str s137 603) (r 626)):=by rw[← a0r];kernel_rfl
theorem n0q(P:Params):(K P).lookup 634=some (fO "plus" "Costs.plus" (L2.a0j (topO 62) 3) (.str s137 603) (r 633)):=by rw[← a0r];kernel_rfl
theorem l0r(P:Params):(K P).lookup 641=some (fO "times" "Costs.times" (L2.a0j (topO 62) 4) (.str s137 603) (r 640)):=by rw[← a0r];kernel_rfl
theorem j0e(P:Params):(K P).lookup 688=some (fO "nought" "Truths.nought" (L2.a0j (topO 63) 1) (.str s137 603) (r 687)):=by rw[← a0r];kernel_rfl
theorem n0p(P:Params):(K P).lookup 695=some (fO "one" "Truths.one" (L2.a0j (topO 63) 2) (.str s137 603) (r 694)):=by rw[← a0r];kernel_rfl
theorem l0q(P:Params):(K P).lookup 702=some (fO "plus" "Truths.plus" (L2.a0j (topO 63) 3) (.str s137 603) (r 701)):=by rw[← a0r];kernel_rfl
theorem k0o(P:Params):(K P).lookup 709=some (fO "times" "Truths.times" (L2.a0j (topO 63) 4) (.str s137 603) (r 708)):=by rw[← a0r];kernel_rfl
theorem lk__law_next(P:Params):(K P).lookup 742=some (fO "_law_next" "_law_next" (topO 65) (.str s4 1089) (r 741)):=by rw[← a0r];kernel_rfl
theorem n0m(P:Params):(K P).lookup 749=some (fO "_law_state" "_law_state" (topO 66) (.str s4 1089) (r 748)):=by rw[← a0r];kernel_rfl
theorem lk__law_low(P:Params):(K P).lookup 756=some (fO "_law_low" "_law_low" (topO 67) (.str s4 1089) (r 755)):=by rw[← a0r];kernel_rfl
theorem lk__law_plus(P:Params):(K P).lookup 763=some (fO "_law_plus" "_law_plus" (topO 68) (.str s4 1089) (r 762)):=by rw[← a0r];kernel_rfl
theorem n0k(P:Params):(K P).lookup 770=some (fO "_law_times" "_law_times" (topO 69) (.str s4 1089) (r 769)):=by rw[← a0r];kernel_rfl
theorem l0p(P:Params):(K P).lookup 777=some (fO "_law_nought" "_law_nought" (topO 70) (.str s4 1089) (r 776)):=by rw[← a0r];kernel_rfl
theorem lk__law_one(P:Params):(K P).lookup 784=some (fO "_law_one" "_law_one" (topO 71) (.str s4 1089) (r 783)):=by rw[← a0r];kernel_rfl
theorem lk__law_sort(P:Params):(K P).lookup 791=some (fO "_law_sort" "_law_sort" (topO 72) (.str s4 1089) (r 790)):=by rw[← a0r];kernel_rfl
theorem lk__law_kind(P:Params):(K P).lookup 798=some (fO "_law_kind" "_law_kind" (topO 73) (.str s4 1089) (r 797)):=by rw[← a0r];kernel_rfl
theorem l0o(P:Params):(K P).lookup 805=some (fO "_law_weight" "_law_weight" (topO 74) (.str s4 1089) (r 804)):=by rw[← a0r];kernel_rfl
theorem lk__law_line(P:Params):(K P).lookup 810=some (fO "_law_line" "_law_line" (topO 75) (.str s4 1089) (r 809)):=by rw[← a0r];kernel_rfl
theorem n0l(P:Params):(K P).lookup 815=some (fO "_law_table" "_law_table" (topO 76) (.str s4 1089) (r 814)):=by rw[← a0r];kernel_rfl
theorem k0m(P:Params):(K P).lookup 822=some (fO "_law_letters" "_law_letters" (topO 77) (.str s4 1089) (r 821)):=by rw[← a0r];kernel_rfl
theorem k0l(P:Params):(K P).lookup 827=some (fO "_law_machine" "_law_machine" (topO 78) (.str s4 1089) (r 826)):=by rw[← a0r];kernel_rfl
theorem lk__law_dot(P:Params):(K P).lookup 834=some (fO "_law_dot" "_law_dot" (topO 79) (.str s4 1089) (r 833)):=by rw[← a0r];kernel_rfl
theorem lk__law_step(P:Params):(K P).lookup 839=some (fO "_law_step" "_law_step" (topO 80) (.str s4 1089) (r 838)):=by rw[← a0r];kernel_rfl
theorem n0j(P:Params):(K P).lookup 846=some (fO "_law_weigh" "_law_weigh" (topO 81) (.str s4 1089) (r 845)):=by rw[← a0r];kernel_rfl
theorem n0i(P:Params):(K P).lookup 853=some (fO "_law_words" "_law_words" (topO 82) (.str s4 1089) (r 852)):=by rw[← a0r];kernel_rfl
theorem lk__law_same(P:Params):(K P).lookup 860=some (fO "_law_same" "_law_same" (topO 83) (.str s4 1089) (r 859)):=by rw[← a0r];kernel_rfl
theorem k0n(P:Params):(K P).lookup 867=some (fO "_law_emptied" "_law_emptied" (topO 84) (.str s4 1089) (r 866)):=by rw[← a0r];kernel_rfl
theorem n0o(P:Params):(K P).lookup 874=some (fO "_law_alike" "_law_alike" (topO 85) (.str s4 1089) (r 873)):=by rw[← a0r];kernel_rfl
theorem n0n(P:Params):(K P).lookup 881=some (fO "_law_pairs" "_law_pairs" (topO 86) (.str s4 1089) (r 880)):=by rw[← a0r];kernel_rfl
theorem lk__law_cuts(P:Params):(K P).lookup 888=some (fO "_law_cuts" "_law_cuts" (topO 87) (.str s4 1089) (r 887)):=by rw[← a0r];kernel_rfl
theorem lk_law(P:Params):(K P).lookup 893=some (fO "law" "law" (topO 88) (.str s4 1089) (r 892)):=by rw[← a0r];kernel_rfl
end
end H28
set_option maxHeartbeats 4000000
namespace K28
open PySem L2 Mine PyProof.Rows PySem.SeqAt
abbrev Pr:Program:=PySem.Challenge.pw_weighwalk_k28_whole_built
theorem tree0:Pr.given.tree=none:=rfl
def top(i:Nat):Stmt:=PySem.Challenge.pw_weighwalk_k28_whole_built.main.body.getD i (.Pass ⟨0,0,0,0⟩)
abbrev h0x:Stmt:=top 46
abbrev j0w:Stmt:=top 47
abbrev h0z:Stmt:=top 48
abbrev h0y:Stmt:=top 49
abbrev c0h:Stmt:=a0j (top 60) 1
abbrev d0g:Stmt:=a0j (top 60) 2
abbrev c0y:Stmt:=a0j (top 60) 3
abbrev c0r:Stmt:=a0j (top 60) 4
abbrev c0e:Stmt:=a0j (top 61) 0
abbrev c0q:Stmt:=a0j (top 61) 2
abbrev d0p:Stmt:=a0j (top 61) 3
abbrev d0f:Stmt:=a0j (top 61) 4
abbrev c0x:Stmt:=a0j (top 61) 5
abbrev d0q:Stmt:=a0j (top 62) 1
abbrev g0d:Stmt:=a0j (top 62) 2
abbrev e0s:Stmt:=a0j (top 62) 3
abbrev e0e:Stmt:=a0j (top 62) 4
abbrev d0e:Stmt:=a0j (top 63) 1
abbrev e0r:Stmt:=a0j (top 63) 2
abbrev e0d:Stmt:=a0j (top 63) 3
abbrev d0o:Stmt:=a0j (top 63) 4
abbrev g0n:Stmt:=top 11
abbrev s_unit:Stmt:=top 12
abbrev d0x:Stmt:=top 13
abbrev e0b:Stmt:=top 14
abbrev d0i:Stmt:=top 15
abbrev s_dot:Stmt:=top 16
abbrev j0l:Stmt:=top 17
abbrev e0c:Stmt:=top 18
abbrev g0o:Stmt:=top 21
abbrev f0v:Stmt:=top 22
abbrev s_rooms:Stmt:=top 23
abbrev h0q:Stmt:=top 24
abbrev s_ahead:Stmt:=top 25
abbrev m0r:Stmt:=top 26
abbrev c0d:Stmt:=top 28
abbrev c0w:Stmt:=top 29
abbrev g0q:Stmt:=top 30
abbrev c0t:Stmt:=top 31
abbrev s_added:Stmt:=top 32
abbrev m0t:Stmt:=top 33
abbrev m0u:Stmt:=top 34
abbrev g0c:Stmt:=top 35
abbrev d0b:Stmt:=top 36
abbrev g0p:Stmt:=top 37
abbrev f0c:Stmt:=top 38
abbrev m0s:Stmt:=top 39
abbrev c0s:Stmt:=top 40
abbrev d0d:Stmt:=top 41
abbrev j0m:Stmt:=top 42
abbrev e0o:Stmt:=top 43
abbrev j0k:Stmt:=top 44
abbrev h0u:Stmt:=top 65
abbrev f0z:Stmt:=top 66
abbrev j0u:Stmt:=top 67
abbrev h0t:Stmt:=top 68
abbrev f0y:Stmt:=top 69
abbrev e0q:Stmt:=top 70
abbrev j0t:Stmt:=top 71
abbrev h0r:Stmt:=top 72
abbrev h0v:Stmt:=top 73
abbrev e0p:Stmt:=top 74
abbrev f0e:Stmt:=top 75
abbrev d0y:Stmt:=top 76
abbrev d0z:Stmt:=top 77
abbrev d0a:Stmt:=top 78
abbrev j0v:Stmt:=top 79
abbrev f0d:Stmt:=top 80
abbrev f0x:Stmt:=top 81
abbrev f0w:Stmt:=top 82
abbrev h0s:Stmt:=top 83
abbrev e0a:Stmt:=top 84
abbrev g0b:Stmt:=top 85
abbrev g0a:Stmt:=top 86
abbrev h0w:Stmt:=top 87
abbrev s_law:Stmt:=top 88
theorem _root_.L2.Room.m{j k:Nat}{A:Around}(r:Room k A)(h:j≤k:=by decide):Room j A:=r.mono h
theorem b0c{N P:List Str}{s:Scope}(a:s.kind=.function:=by rfl)(b:s.isCoroutine=false:=by rfl)(c:s.isGenerator=false:=by rfl)(d:N.Nodup:=by decide +kernel)(e:N.take P.length=P:=by rfl)(f:∀x∈P,s.names.lookup x=some .local∨s.names.lookup x=some .cell:=by decide +kernel)(g:∀y∈s.names,y.2≠.free:=by decide +kernel):a0l N P s:=⟨a,b,c,d,e,f,g⟩
theorem sc_is_whole:a0l ["thing"] ["thing"] (a0h h0x):=b0c
theorem sc_divisor:a0l ["one","other","greatest","rest","left"] ["one","other"] (a0h j0w):=b0c
theorem sc_fraction:a0l ["top","bottom","shared"] ["top","bottom"] (a0h h0z):=b0c
theorem sc_is_prime:a0l ["number","factor"] ["number"] (a0h h0y):=b0c
theorem f0u:a0l ["self"] ["self"] (a0h c0h):=b0c
theorem i0z:a0l ["self"] ["self"] (a0h d0g):=b0c
theorem h0o:a0l ["self","x","y"] ["self","x","y"] (a0h c0y):=b0c
theorem g0l:a0l ["self","x","y"] ["self","x","y"] (a0h c0r):=b0c
theorem f0j:a0l ["self","prime"] ["self","prime"] (a0h c0e):=b0c
theorem g0k:a0l ["self"] ["self"] (a0h c0q):=b0c
theorem j0q:a0l ["self"] ["self"] (a0h d0p):=b0c
theorem i0y:a0l ["self","x","y"] ["self","x","y"] (a0h d0f):=b0c
theorem h0n:a0l ["self","x","y"] ["self","x","y"] (a0h c0x):=b0c
theorem j0r:a0l ["self"] ["self"] (a0h d0q):=b0c
theorem sc_Costs_one:a0l ["self"] ["self"] (a0h g0d):=b0c
theorem m0q:a0l ["self","x","y"] ["self","x","y"] (a0h e0s):=b0c
theorem l0g:a0l ["self","x","y"] ["self","x","y"] (a0h e0e):=b0c
theorem i0x:a0l ["self"] ["self"] (a0h d0e):=b0c
theorem m0p:a0l ["self"] ["self"] (a0h e0r):=b0c
theorem l0f:a0l ["self","x","y"] ["self","x","y"] (a0h e0d):=b0c
theorem j0p:a0l ["self","x","y"] ["self","x","y"] (a0h d0o):=b0c
theorem sc_noughts:a0l ["kind","size"] ["kind","size"] (a0h g0n):=b0c
theorem sc_unit:a0l ["kind","size","place"] ["kind","size","place"] (a0h s_unit):=b0c
theorem sc_times_row:a0l ["kind","by","row"] ["kind","by","row"] (a0h d0x):=b0c
theorem sc_column_at:a0l ["table","place"] ["table","place"] (a0h e0b):=b0c
theorem m0o:a0l ["table"] ["table"] (a0h d0i):=b0c
theorem sc_dot:a0l ["kind","row","column","total","x","y"] ["kind","row","column"] (a0h s_dot):=b0c
theorem sc_row_by:a0l ["kind","row","table"] ["kind","row","table"] (a0h j0l):=b0c
theorem sc_by_column:a0l ["kind","table","column"] ["kind","table","column"] (a0h e0c):=b0c
theorem sc_is_word:a0l ["letters","thing"] ["letters","thing"] (a0h g0o):=b0c
theorem sc_need_word:a0l ["letters","thing"] ["letters","thing"] (a0h f0v):=b0c
theorem sc_rooms:a0l ["machine"] ["machine"] (a0h s_rooms):=b0c
theorem sc_table_of:a0l ["machine","letter"] ["machine","letter"] (a0h h0q):=b0c
theorem sc_ahead:a0l ["kind","machine","word","row","letter"] ["kind","machine","word"] (a0h s_ahead):=b0c
theorem sc_weight:a0l ["kind","machine","word"] ["kind","machine","word"] (a0h m0r):=b0c
theorem f0i:a0l ["one","other"] ["one","other"] (a0h c0d):=b0c
theorem h0m:a0l ["count"] ["count"] (a0h c0w):=b0c
theorem sc_beside:a0l ["kind","first","second","step","upper","lower"] ["kind","first","second","step"] (a0h g0q):=b0c
theorem sc_put_beside:a0l ["kind","one","other","no_step","tables"] ["kind","one","other"] (a0h c0t):=b0c
theorem sc_added:a0l ["kind","one","other"] ["kind","one","other"] (a0h s_added):=b0c
theorem sc_outer:a0l ["kind","column","row"] ["kind","column","row"] (a0h m0t):=b0c
theorem sc_joined:a0l ["kind","one","other","start","tables","first","second","step"] ["kind","one","other"] (a0h m0u):=b0c
theorem sc_cross_row:a0l ["kind","one","other","told","x"] ["kind","one","other"] (a0h g0c):=b0c
theorem sc_cross_table:a0l ["kind","one","other","told","row"] ["kind","one","other"] (a0h d0b):=b0c
theorem sc_crossed:a0l ["kind","one","other","start","tables"] ["kind","one","other"] (a0h g0p):=b0c
theorem sc_mirrored:a0l ["machine","tables"] ["machine"] (a0h f0c):=b0c
theorem sc_turned:a0l ["kind","machine"] ["kind","machine"] (a0h m0s):=b0c
theorem sc_closed_table:a0l ["kind","machine","table","back","first","others"] ["kind","machine","table"] (a0h c0s):=b0c
theorem i0w:a0l ["kind","empty_weight"] ["kind","empty_weight"] (a0h d0d):=b0c
theorem sc_closed:a0l ["kind","machine","size","tables","between"] ["kind","machine"] (a0h j0m):=b0c
theorem m0m:a0l ["kind","letter","word","place"] ["kind","letter","word","place"] (a0h e0o):=b0c
theorem sc_single:a0l ["kind","letters","word","by","size","tables","letter","start"] ["kind","letters","word","by"] (a0h j0k):=b0c
theorem sc_law_next:a0l ["_law_state_here","_law_many","_law_found"] ["_law_state_here","_law_many"] (a0h h0u):=b0c
theorem sc_law_state:a0l ["_law_script","_law_seed","_law_cell"] ["_law_script"] (a0h f0z):=b0c
theorem sc_law_low:a0l ["_law_top","_law_bottom","_law_one_here","_law_by"] ["_law_top","_law_bottom"] (a0h j0u):=b0c
theorem sc_law_plus:a0l ["_law_sort_here","_law_x","_law_y"] ["_law_sort_here","_law_x","_law_y"] (a0h h0t):=b0c
theorem sc_law_times:a0l ["_law_sort_here","_law_x","_law_y"] ["_law_sort_here","_law_x","_law_y"] (a0h f0y):=b0c
theorem m0n:a0l ["_law_sort_here"] ["_law_sort_here"] (a0h e0q):=b0c
theorem sc_law_one:a0l ["_law_sort_here"] ["_law_sort_here"] (a0h j0t):=b0c
theorem sc_law_sort:a0l ["_law_state_here","_law_way","_law_prime"] ["_law_state_here","_law_way"] (a0h h0r):=b0c
theorem sc_law_kind:a0l ["_law_sort_here"] ["_law_sort_here"] (a0h h0v):=b0c
theorem sc_law_weight:a0l ["_law_state_here","_law_sort_here","_law_great","_law_far"] ["_law_state_here","_law_sort_here","_law_great"] (a0h e0p):=b0c
theorem sc_law_line:a0l ["_law_state_here","_law_sort_here","_law_many","_law_great"] ["_law_state_here","_law_sort_here","_law_many","_law_great"] (a0h f0e):=b0c
theorem sc_law_table:a0l ["_law_state_here","_law_sort_here","_law_high","_law_wide","_law_great"] ["_law_state_here","_law_sort_here","_law_high","_law_wide","_law_great"] (a0h d0y):=b0c
theorem sc_law_letters:a0l ["_law_state_here","_law_pool","_law_letters_here","_law_k","_law_at"] ["_law_state_here"] (a0h d0z):=b0c
theorem sc_law_machine:a0l ["_law_state_here","_law_sort_here","_law_letters_here","_law_many","_law_great","_law_start","_law_tables"] ["_law_state_here","_law_sort_here","_law_letters_here","_law_many","_law_great"] (a0h d0a):=b0c
theorem sc_law_dot:a0l ["_law_sort_here","_law_row","_law_column","_law_total","_law_x","_law_y"] ["_law_sort_here","_law_row","_law_column"] (a0h j0v):=b0c
theorem sc_law_step:a0l ["_law_sort_here","_law_row","_law_table_here","_law_found","_law_k"] ["_law_sort_here","_law_row","_law_table_here"] (a0h f0d):=b0c
theorem sc_law_weigh:a0l ["_law_sort_here","_law_machine_here","_law_word","_law_row","_law_letter"] ["_law_sort_here","_law_machine_here","_law_word"] (a0h f0x):=b0c
theorem sc_law_words:a0l ["_law_letters_here","_law_most","_law_found","_law_level","_law_k","_law_grown","_law_word","_law_letter"] ["_law_letters_here","_law_most"] (a0h f0w):=b0c
theorem sc_law_same:a0l ["_law_sort_here","_law_found","_law_due"] ["_law_sort_here","_law_found","_law_due"] (a0h h0s):=b0c
theorem sc_law_emptied:a0l ["_law_state_here","_law_sort_here","_law_machine_here","_law_start","_law_ends","_law_x","_law_y"] ["_law_state_here","_law_sort_here","_law_machine_here"] (a0h e0a):=b0c
theorem sc_law_alike:a0l ["_law_sort_here","_law_letters_here","_law_one_here","_law_other","_law_word"] ["_law_sort_here","_law_letters_here","_law_one_here","_law_other"] (a0h g0b):=b0c
theorem sc_law_pairs:a0l ["_law_kind_here","_law_a","_law_b","_law_c","_law_both","_law_pairs_here"] ["_law_kind_here","_law_a","_law_b","_law_c"] (a0h g0a):=b0c
theorem sc_law_cuts:a0l ["_law_sort_here","_law_kind_here","_law_a","_law_b","_law_word","_law_total","_law_at","_law_first"] ["_law_sort_here","_law_kind_here","_law_a","_law_b","_law_word"] (a0h h0w):=b0c
theorem sc_law:a0l ["_law_script","_law_state_here","_law_sort_here","_law_kind_here","_law_letters_here","_law_broad","_law_three","_law_one_here","_law_other","_law_star","_law_again","_law_word","_law_cell"] ["_law_script"] (a0h s_law):=b0c
def sp_whole:Sp:=fun vs H Q _=>∃i,vs=[.int i]∧Q (.bl true) H
def sp_divisor:Sp:=fun vs H Q _=>∃a b,vs=[.int a,.int b]∧Q (.int (dv a b)) H
def sp_fraction:Sp:=fun vs H Q _=>∃a b,vs=[.int a,.int b]∧0 < b∧∀v H',Same H H'→IsF H' v (tp a b) (bt a b)→Q v H'
def sp_prime:Sp:=fun vs H Q _=>∃n,vs=[.int n]∧(2≤n∧n≤1000000∧isP n=true)∧Q (.bl true) H
def sp_init(C:Addr):Sp:=fun vs H Q _=>∃x dx n,vs=[.ref x,.int n]∧(2≤n∧n≤1000000∧isP n=true)∧H x=some (.ins C dx [])∧Q .non (upd H x (.ins C dx (pfs n)))
set_option genInjectivity false in
set_option genSizeOfSpec false in
structure Adr where
  a1k:Addr
  w0t:FuncData
  c1h:Addr
  y0m:FuncData
  z0r:Addr
  w0e:FuncData
  z0x:Addr
  v0x:FuncData
  p0d:Addr
  o0e:FuncData
  r0d:Addr
  p0p:FuncData
  q0n:Addr
  o0u:FuncData
  p0m:Addr
  o0o:FuncData
  o0i:Addr
  n0z:FuncData
  p0s:Addr
  o0j:FuncData
  s0k:Addr
  q0j:FuncData
  r0h:Addr
  p0e:FuncData
  q0g:Addr
  o0t:FuncData
  r0r:Addr
  q0b:FuncData
  y0y:Addr
  v0f:FuncData
  x0p:Addr
  s0y:FuncData
  t0q:Addr
  q0u:FuncData
  r0a:Addr
  p0q:FuncData
  w0i:Addr
  s0p:FuncData
  u0d:Addr
  r0j:FuncData
  s0g:Addr
  q0l:FuncData
  b1j:Addr
  z0j:FuncData
  unit:Addr
  c1l:FuncData
  y0v:Addr
  t0x:FuncData
  z0k:Addr
  v0b:FuncData
  x0t:Addr
  s0c:FuncData
  dot:Addr
  c1w:FuncData
  c1p:Addr
  a1t:FuncData
  y0k:Addr
  t0t:FuncData
  b1s:Addr
  y0q:FuncData
  y0g:Addr
  t0s:FuncData
  c1s:Addr
  b1x:FuncData
  a1h:Addr
  v0s:FuncData
  d1d:Addr
  b1p:FuncData
  weight:Addr
  a1u:FuncData
  o0k:Addr
  n0w:FuncData
  q0m:Addr
  p0c:FuncData
  c1q:Addr
  a1d:FuncData
  w0o:Addr
  s0w:FuncData
  c1y:Addr
  b1k:FuncData
  outer:Addr
  b1y:FuncData
  c1o:Addr
  z0q:FuncData
  y0i:Addr
  t0p:FuncData
  t0c:Addr
  r0k:FuncData
  b1n:Addr
  y0h:FuncData
  b1g:Addr
  w0s:FuncData
  turned:Addr
  z0s:FuncData
  r0u:Addr
  q0f:FuncData
  q0x:Addr
  p0v:FuncData
  c1n:Addr
  z0z:FuncData
  w0b:Addr
  s0m:FuncData
  c1i:Addr
  b1h:FuncData
  b1c:Addr
  v0r:FuncData
  x0y:Addr
  u0t:FuncData
  b1u:Addr
  y0t:FuncData
  a1q:Addr
  v0u:FuncData
  x0x:Addr
  t0a:FuncData
  w0n:Addr
  s0n:FuncData
  c1e:Addr
  y0j:FuncData
  a1j:Addr
  w0u:FuncData
  a1b:Addr
  x0m:FuncData
  x0a:Addr
  s0x:FuncData
  a1v:Addr
  w0l:FuncData
  z0n:Addr
  t0d:FuncData
  u0k:Addr
  q0r:FuncData
  t0k:Addr
  r0g:FuncData
  c1d:Addr
  z0e:FuncData
  a1n:Addr
  v0p:FuncData
  x0z:Addr
  u0s:FuncData
  y0o:Addr
  u0m:FuncData
  a1c:Addr
  x0u:FuncData
  u0n:Addr
  q0q:FuncData
  z0g:Addr
  t0y:FuncData
  z0i:Addr
  u0z:FuncData
  a1w:Addr
  w0h:FuncData
  law:Addr
  d1a:FuncData
  z0b:Addr
  z0t:Addr
  c1u:Addr
  c1k:Addr
  w0r:Addr
  y0e:Addr
  a1e:Addr
structure Txt(K:PySem.W.Frag)(mg:Str→Option Value)(t:Adr):Prop where
  v0t:Fun K "is_whole" "is_whole" h0x t.a1k t.w0t
  x0i:Binds K t.w0t ["thing"] []
  w0y:mg "is_whole"=some (.ref t.a1k)
  y0a:Fun K "divisor" "divisor" j0w t.c1h t.y0m
  y0f:Binds K t.y0m ["one","other"] []
  y0z:mg "divisor"=some (.ref t.c1h)
  x0o:Fun K "fraction" "fraction" h0z t.z0r t.w0e
  v0n:Binds K t.w0e ["top","bottom"] []
  v0k:mg "fraction"=some (.ref t.z0r)
  x0e:Fun K "is_prime" "is_prime" h0y t.z0x t.v0x
  v0v:Binds K t.v0x ["number"] []
  w0x:mg "is_prime"=some (.ref t.z0x)
  o0f:Fun K "nought" "Fractions.nought" c0h t.p0d t.o0e
  o0d:Binds K t.o0e ["self"] []
  o0g:Meth K t.z0b "nought" t.p0d
  p0r:Fun K "one" "Fractions.one" d0g t.r0d t.p0p
  p0g:Binds K t.p0p ["self"] []
  p0t:Meth K t.z0b "one" t.r0d
  o0x:Fun K "plus" "Fractions.plus" c0y t.q0n t.o0u
  p0a:Binds K t.o0u ["self","x","y"] []
  o0z:Meth K t.z0b "plus" t.q0n
  o0n:Fun K "times" "Fractions.times" c0r t.p0m t.o0o
  o0h:Binds K t.o0o ["self","x","y"] []
  o0q:Meth K t.z0b "times" t.p0m
  o0b:Fun K "__init__" "Residues.__init__" c0e t.o0i t.n0z
  n0v:Binds K t.n0z ["self","prime"] []
  n0y:Meth K t.z0t "__init__" t.o0i
  o0l:Fun K "nought" "Residues.nought" c0q t.p0s t.o0j
  o0m:Binds K t.o0j ["self"] []
  o0p:Meth K t.z0t "nought" t.p0s
  p0z:Fun K "one" "Residues.one" d0p t.s0k t.q0j
  q0k:Binds K t.q0j ["self"] []
  q0h:Meth K t.z0t "one" t.s0k
  p0l:Fun K "plus" "Residues.plus" d0f t.r0h t.p0e
  p0i:Binds K t.p0e ["self","x","y"] []
  p0j:Meth K t.z0t "plus" t.r0h
  o0w:Fun K "times" "Residues.times" c0x t.q0g t.o0t
  o0v:Binds K t.o0t ["self","x","y"] []
  o0r:Meth K t.z0t "times" t.q0g
  q0o:Fun K "nought" "Costs.nought" d0q t.r0r t.q0b
  q0i:Binds K t.q0b ["self"] []
  q0a:Meth K t.c1u "nought" t.r0r
  t0o:Fun K "one" "Costs.one" g0d t.y0y t.v0f
  t0h:Binds K t.v0f ["self"] []
  v0j:Meth K t.c1u "one" t.y0y
  s0u:Fun K "plus" "Costs.plus" e0s t.x0p t.s0y
  r0x:Binds K t.s0y ["self","x","y"] []
  s0b:Meth K t.c1u "plus" t.x0p
  r0b:Fun K "times" "Costs.times" e0e t.t0q t.q0u
  r0i:Binds K t.q0u ["self","x","y"] []
  q0t:Meth K t.c1u "times" t.t0q
  p0o:Fun K "nought" "Truths.nought" d0e t.r0a t.p0q
  p0f:Binds K t.p0q ["self"] []
  p0h:Meth K t.c1k "nought" t.r0a
  r0z:Fun K "one" "Truths.one" e0r t.w0i t.s0p
  s0l:Binds K t.s0p ["self"] []
  s0s:Meth K t.c1k "one" t.w0i
  r0o:Fun K "plus" "Truths.plus" e0d t.u0d t.r0j
  r0m:Binds K t.r0j ["self","x","y"] []
  r0e:Meth K t.c1k "plus" t.u0d
  p0w:Fun K "times" "Truths.times" d0o t.s0g t.q0l
  q0c:Binds K t.q0l ["self","x","y"] []
  p0y:Meth K t.c1k "times" t.s0g
  y0d:Fun K "noughts" "noughts" g0n t.b1j t.z0j
  z0f:Binds K t.z0j ["kind","size"] []
  y0s:mg "noughts"=some (.ref t.b1j)
  c1m:Fun K "unit" "unit" s_unit t.unit t.c1l
  c1r:Binds K t.c1l ["kind","size","place"] []
  c1j:mg "unit"=some (.ref t.unit)
  t0l:Fun K "times_row" "times_row" d0x t.y0v t.t0x
  u0x:Binds K t.t0x ["kind","by","row"] []
  u0u:mg "times_row"=some (.ref t.y0v)
  t0n:Fun K "column_at" "column_at" e0b t.z0k t.v0b
  t0i:Binds K t.v0b ["table","place"] []
  u0o:mg "column_at"=some (.ref t.z0k)
  s0i:Fun K "columns_of" "columns_of" d0i t.x0t t.s0c
  r0s:Binds K t.s0c ["table"] []
  s0q:mg "columns_of"=some (.ref t.x0t)
  d1c:Fun K "dot" "dot" s_dot t.dot t.c1w
  c1x:Binds K t.c1w ["kind","row","column"] []
  d1b:mg "dot"=some (.ref t.dot)
  a1r:Fun K "row_by" "row_by" j0l t.c1p t.a1t
  b1b:Binds K t.a1t ["kind","row","table"] []
  z0o:mg "row_by"=some (.ref t.c1p)
  v0e:Fun K "by_column" "by_column" e0c t.y0k t.t0t
  u0p:Binds K t.t0t ["kind","table","column"] []
  v0i:mg "by_column"=some (.ref t.y0k)
  y0l:Fun K "is_word" "is_word" g0o t.b1s t.y0q
  z0a:Binds K t.y0q ["letters","thing"] []
  z0d:mg "is_word"=some (.ref t.b1s)
  u0b:Fun K "need_word" "need_word" f0v t.y0g t.t0s
  s0z:Binds K t.t0s ["letters","thing"] []
  u0q:mg "need_word"=some (.ref t.y0g)
  b1z:Fun K "rooms" "rooms" s_rooms t.c1s t.b1x
  b1i:Binds K t.b1x ["machine"] []
  c1c:mg "rooms"=some (.ref t.c1s)
  v0w:Fun K "table_of" "table_of" h0q t.a1h t.v0s
  x0s:Binds K t.v0s ["machine","letter"] []
  x0n:mg "table_of"=some (.ref t.a1h)
  c1a:Fun K "ahead" "ahead" s_ahead t.d1d t.b1p
  c1b:Binds K t.b1p ["kind","machine","word"] []
  b1m:mg "ahead"=some (.ref t.d1d)
  a1x:Fun K "weight" "weight" m0r t.weight t.a1u
  a1l:Binds K t.a1u ["kind","machine","word"] []
  a1a:mg "weight"=some (.ref t.weight)
  o0c:Fun K "need_same_letters" "need_same_letters" c0d t.o0k t.n0w
  n0x:Binds K t.n0w ["one","other"] []
  o0a:mg "need_same_letters"=some (.ref t.o0k)
  o0y:Fun K "need_few_rooms" "need_few_rooms" c0w t.q0m t.p0c
  o0s:Binds K t.p0c ["count"] []
  p0b:mg "need_few_rooms"=some (.ref t.q0m)
  a1g:Fun K "beside" "beside" g0q t.c1q t.a1d
  b1f:Binds K t.a1d ["kind","first","second","step"] []
  a1m:mg "beside"=some (.ref t.c1q)
  r0t:Fun K "put_beside" "put_beside" c0t t.w0o t.s0w
  s0e:Binds K t.s0w ["kind","one","other"] []
  r0w:mg "put_beside"=some (.ref t.w0o)
  b1w:Fun K "added" "added" s_added t.c1y t.b1k
  b1q:Binds K t.b1k ["kind","one","other"] []
  b1o:mg "added"=some (.ref t.c1y)
  b1r:Fun K "outer" "outer" m0t t.outer t.b1y
  b1t:Binds K t.b1y ["kind","column","row"] []
  c1f:mg "outer"=some (.ref t.outer)
  a1s:Fun K "joined" "joined" m0u t.c1o t.z0q
  a1i:Binds K t.z0q ["kind","one","other"] []
  b1d:mg "joined"=some (.ref t.c1o)
  u0h:Fun K "cross_row" "cross_row" g0c t.y0i t.t0p
  t0b:Binds K t.t0p ["kind","one","other"] []
  v0h:mg "cross_row"=some (.ref t.y0i)
  r0p:Fun K "cross_table" "cross_table" d0b t.t0c t.r0k
  r0l:Binds K t.r0k ["kind","one","other"] []
  q0s:mg "cross_table"=some (.ref t.t0c)
  y0b:Fun K "crossed" "crossed" g0p t.b1n t.y0h
  z0h:Binds K t.y0h ["kind","one","other"] []
  y0n:mg "crossed"=some (.ref t.b1n)
  w0w:Fun K "mirrored" "mirrored" f0c t.b1g t.w0s
  w0m:Binds K t.w0s ["machine"] []
  v0y:mg "mirrored"=some (.ref t.b1g)
  a1z:Fun K "turned" "turned" m0s t.turned t.z0s
  b1a:Binds K t.z0s ["kind","machine"] []
  z0u:mg "turned"=some (.ref t.turned)
  q0e:Fun K "closed_table" "closed_table" c0s t.r0u t.q0f
  q0d:Binds K t.q0f ["kind","machine","table"] []
  p0x:mg "closed_table"=some (.ref t.r0u)
  p0k:Fun K "need_closable" "need_closable" d0d t.q0x t.p0v
  p0n:Binds K t.p0v ["kind","empty_weight"] []
  p0u:mg "need_closable"=some (.ref t.q0x)
  a1f:Fun K "closed" "closed" j0m t.c1n t.z0z
  b1e:Binds K t.z0z ["kind","machine"] []
  z0p:mg "closed"=some (.ref t.c1n)
  s0o:Fun K "single_row" "single_row" e0o t.w0b t.s0m
  s0d:Binds K t.s0m ["kind","letter","word","place"] []
  s0t:mg "single_row"=some (.ref t.w0b)
  z0w:Fun K "single" "single" j0k t.c1i t.b1h
  z0v:Binds K t.b1h ["kind","letters","word","by"] []
  a1y:mg "single"=some (.ref t.c1i)
  x0v:Fun K "_law_next" "_law_next" h0u t.b1c t.v0r
  x0r:Binds K t.v0r ["_law_state_here","_law_many"] []
  w0q:mg "_law_next"=some (.ref t.b1c)
  t0r:Fun K "_law_state" "_law_state" f0z t.x0y t.u0t
  t0g:Binds K t.u0t ["_law_script"] []
  t0v:mg "_law_state"=some (.ref t.x0y)
  y0p:Fun K "_law_low" "_law_low" j0u t.b1u t.y0t
  z0c:Binds K t.y0t ["_law_top","_law_bottom"] []
  y0w:mg "_law_low"=some (.ref t.b1u)
  w0a:Fun K "_law_plus" "_law_plus" h0t t.a1q t.v0u
  x0l:Binds K t.v0u ["_law_sort_here","_law_x","_law_y"] []
  x0w:mg "_law_plus"=some (.ref t.a1q)
  v0c:Fun K "_law_times" "_law_times" f0y t.x0x t.t0a
  u0l:Binds K t.t0a ["_law_sort_here","_law_x","_law_y"] []
  t0e:mg "_law_times"=some (.ref t.x0x)
  s0f:Fun K "_law_nought" "_law_nought" e0q t.w0n t.s0n
  r0y:Binds K t.s0n ["_law_sort_here"] []
  s0v:mg "_law_nought"=some (.ref t.w0n)
  y0r:Fun K "_law_one" "_law_one" j0t t.c1e t.y0j
  z0l:Binds K t.y0j ["_law_sort_here"] []
  z0m:mg "_law_one"=some (.ref t.c1e)
  v0z:Fun K "_law_sort" "_law_sort" h0r t.a1j t.w0u
  w0c:Binds K t.w0u ["_law_state_here","_law_way"] []
  x0b:mg "_law_sort"=some (.ref t.a1j)
  x0f:Fun K "_law_kind" "_law_kind" h0v t.a1b t.x0m
  v0l:Binds K t.x0m ["_law_sort_here"] []
  x0d:mg "_law_kind"=some (.ref t.a1b)
  s0j:Fun K "_law_weight" "_law_weight" e0p t.x0a t.s0x
  s0h:Binds K t.s0x ["_law_state_here","_law_sort_here","_law_great"] []
  s0r:mg "_law_weight"=some (.ref t.x0a)
  x0q:Fun K "_law_line" "_law_line" f0e t.a1v t.w0l
  x0j:Binds K t.w0l ["_law_state_here","_law_sort_here","_law_many","_law_great"] []
  w0v:mg "_law_line"=some (.ref t.a1v)
  u0g:Fun K "_law_table" "_law_table" d0y t.z0n t.t0d
  t0w:Binds K t.t0d ["_law_state_here","_law_sort_here","_law_high","_law_wide","_law_great"] []
  v0d:mg "_law_table"=some (.ref t.z0n)
  q0w:Fun K "_law_letters" "_law_letters" d0z t.u0k t.q0r
  q0v:Binds K t.q0r ["_law_state_here"] []
  r0q:mg "_law_letters"=some (.ref t.u0k)
  q0y:Fun K "_law_machine" "_law_machine" d0a t.t0k t.r0g
  r0f:Binds K t.r0g ["_law_state_here","_law_sort_here","_law_letters_here","_law_many","_law_great"] []
  q0z:mg "_law_machine"=some (.ref t.t0k)
  y0c:Fun K "_law_dot" "_law_dot" j0v t.c1d t.z0e
  y0u:Binds K t.z0e ["_law_sort_here","_law_row","_law_column"] []
  y0x:mg "_law_dot"=some (.ref t.c1d)
  v0o:Fun K "_law_step" "_law_step" f0d t.a1n t.v0p
  w0j:Binds K t.v0p ["_law_sort_here","_law_row","_law_table_here"] []
  w0p:mg "_law_step"=some (.ref t.a1n)
  t0j:Fun K "_law_weigh" "_law_weigh" f0x t.x0z t.u0s
  u0c:Binds K t.u0s ["_law_sort_here","_law_machine_here","_law_word"] []
  v0a:mg "_law_weigh"=some (.ref t.x0z)
  t0f:Fun K "_law_words" "_law_words" f0w t.y0o t.u0m
  u0a:Binds K t.u0m ["_law_letters_here","_law_most"] []
  u0e:mg "_law_words"=some (.ref t.y0o)
  w0f:Fun K "_law_same" "_law_same" h0s t.a1c t.x0u
  x0k:Binds K t.x0u ["_law_sort_here","_law_found","_law_due"] []
  x0g:mg "_law_same"=some (.ref t.a1c)
  q0p:Fun K "_law_emptied" "_law_emptied" e0a t.u0n t.q0q
  r0n:Binds K t.q0q ["_law_state_here","_law_sort_here","_law_machine_here"] []
  r0c:mg "_law_emptied"=some (.ref t.u0n)
  t0m:Fun K "_law_alike" "_law_alike" g0b t.z0g t.t0y
  u0w:Binds K t.t0y ["_law_sort_here","_law_letters_here","_law_one_here","_law_other"] []
  u0y:mg "_law_alike"=some (.ref t.z0g)
  t0z:Fun K "_law_pairs" "_law_pairs" g0a t.z0i t.u0z
  u0j:Binds K t.u0z ["_law_kind_here","_law_a","_law_b","_law_c"] []
  u0r:mg "_law_pairs"=some (.ref t.z0i)
  w0k:Fun K "_law_cuts" "_law_cuts" h0w t.a1w t.w0h
  w0z:Binds K t.w0h ["_law_sort_here","_law_kind_here","_law_a","_law_b","_law_word"] []
  x0h:mg "_law_cuts"=some (.ref t.a1w)
  c1t:Fun K "law" "law" s_law t.law t.d1a
  c1v:Binds K t.d1a ["_law_script"] []
  c1z:mg "law"=some (.ref t.law)
  u0f:Cls K t.z0b
  v0g:mg "Fractions"=some (.ref t.z0b)
  t0u:MkO K t.z0b
  v0m:Cls K t.z0t
  w0d:mg "Residues"=some (.ref t.z0t)
  w0g:Mk K t.z0t t.o0i
  b1v:Cls K t.c1u
  c1g:mg "Costs"=some (.ref t.c1u)
  b1l:MkO K t.c1u
  a1p:Cls K t.c1k
  z0y:mg "Truths"=some (.ref t.c1k)
  a1o:MkO K t.c1k
  r0v:mg "WeighError"=some (.ref t.w0r)
  s0a:ExcK K t.w0r
  u0i:mg "NoClosure"=some (.ref t.y0e)
  u0v:ExcK K t.y0e
  x0c:mg "TooGreat"=some (.ref t.a1e)
  v0q:ExcK K t.a1e
  z_isinstance:mg "isinstance"=none
  z_int:mg "int"=none
  z_bool:mg "bool"=none
  z_abs:mg "abs"=none
  c_GREATEST_PRIME:∃tk,mg "GREATEST_PRIME"=some (Value.int 1000000 tk)
  z_min:mg "min"=none
  z_tuple:mg "tuple"=none
  z_range:mg "range"=none
  z_len:mg "len"=none
  z_zip:mg "zip"=none
  z_str:mg "str"=none
  z_all:mg "all"=none
  c_MOST_ROOMS:∃tk,mg "MOST_ROOMS"=some (Value.int 20 tk)
  z_list:mg "list"=none
  k_ii:PySem.W.kitOne K (.type "int") (.type "int")=some true
  k_ib:PySem.W.kitOne K (.type "int") (.type "bool")=some false
  nP:NoAttr K t.z0t "prime"
  k_ss:PySem.W.kitOne K (.type "str") (.type "str")=some true
  k_bb:PySem.W.kitOne K (.type "bool") (.type "bool")=some true
  k_tt:PySem.W.kitOne K (.type "tuple") (.type "tuple")=some true
seal L2.PSs L2.PS L2.PE L2.PT L2.PW L2.PA L2.PG L2.PGs L2.PI
section
variable{w:World}{K:PySem.W.Frag}{mg:Str→Option Value}{base:Heap}{t:Adr}
theorem g0g(T:Txt K mg t):FnOk Pr w K mg base CX0 1 t.a1k t.w0t ["thing"] sp_whole:=by
  refine T.v0t.ok sc_is_whole (fun vs H Q E h=>?_) (fun cdv A outer s H vs Q E hr h=>?_)
  · obtain⟨i,rfl,_⟩:=h
    rfl
  · obtain⟨i,rfl,k⟩:=h
    refine⟨_,(a0i (a0m (f0q (a0z c0o (by rfl) T.z_isinstance boot_isinstance (a0a (pv 0) (a0a (d0h (v:=.ty "int") rfl T.z_int boot_int rfl) a0b))) (f0p (pe_not (a0z c0o (by rfl) T.z_isinstance boot_isinstance (a0a (pv 0) (a0a (d0h (v:=.ty "bool") rfl T.z_bool boot_bool rfl) a0b)))))))),?_⟩
    (repeat (first | apply Exists.intro | refine And.intro rfl ?_ | refine And.intro (by with_reducible assumption) ?_ | refine And.intro (SqT.of (by assumption)) ?_ | refine And.intro (SqL.of (by assumption)) ?_ | refine And.intro (TyOf.int _) ?_ | refine And.intro (TyOf.tup (by assumption)) ?_ | refine And.intro T.k_ii ?_ | refine And.intro T.k_ib ?_ | refine And.intro T.nP ?_ | refine And.intro T.k_ss ?_ | refine And.intro T.k_bb ?_ | refine And.intro T.k_tt ?_))
    (try refine iteT ?_)
    (repeat (first | apply Exists.intro | refine And.intro rfl ?_ | refine And.intro (by with_reducible assumption) ?_ | refine And.intro (SqT.of (by assumption)) ?_ | refine And.intro (SqL.of (by assumption)) ?_ | refine And.intro (TyOf.int _) ?_ | refine And.intro (TyOf.tup (by assumption)) ?_ | refine And.intro T.k_ii ?_ | refine And.intro T.k_ib ?_ | refine And.intro T.nP ?_ | refine And.intro T.k_ss ?_ | refine And.intro T.k_bb ?_ | refine And.intro T.k_tt ?_))
    exact k
theorem ok_divisor(T:Txt K mg t):FnOk Pr w K mg base CX0 1 t.c1h t.y0m ["one","other"] sp_divisor:=by
  refine T.y0a.ok sc_divisor (fun vs H Q E h=>?_) (fun cdv A outer s H vs Q E hr h=>?_)
  · obtain⟨a,b,rfl,_⟩:=h
    rfl
  · obtain⟨a,b,rfl,k⟩:=h
    refine⟨_,(a0c (a0s (i:=2) sc_divisor.nd rfl (Or.inl rfl) (a0z n0u (by rfl) T.z_abs boot_abs (a0a (pv 0) a0b))) (a0c (a0s (i:=3) sc_divisor.nd rfl (Or.inl rfl) (a0z n0u (by rfl) T.z_abs boot_abs (a0a (pv 1) a0b))) (a0c (m0w PassesOwn.never (a0t op_gt (pv 3) a0e (a0w _)) (a0c (a0s (i:=4) sc_divisor.nd rfl (Or.inl rfl) (a0x c0f (pv 2) (pv 3))) (a0c (a0s (i:=2) sc_divisor.nd rfl (Or.inl rfl) (pv 3)) (a0i (a0s (i:=3) sc_divisor.nd rfl (Or.inl rfl) (pv 4)))))) (a0i (a0m (pv 2)))))),?_⟩
    refine⟨_,rfl,_,rfl,_,rfl,_,rfl,?_⟩
    refine⟨fun m σ H'=>∃g r l,σ=[some (.int a),some (.int b),some (.int g),some (.int r),l]∧m=r.toNat∧(0≤g∧0≤r∧dv g r=dv a b)∧H'=H,⟨_,_,_,_,rfl,rfl,start1 a b,rfl⟩,?_⟩
    rintro m σ H' ⟨g,r,l,rfl,rfl,⟨g0,r0,e⟩,rfl⟩
    (repeat (first | apply Exists.intro | refine And.intro rfl ?_ | refine And.intro (by with_reducible assumption) ?_ | refine And.intro (SqT.of (by assumption)) ?_ | refine And.intro (SqL.of (by assumption)) ?_ | refine And.intro (TyOf.int _) ?_ | refine And.intro (TyOf.tup (by assumption)) ?_ | refine And.intro T.k_ii ?_ | refine And.intro T.k_ib ?_ | refine And.intro T.nP ?_ | refine And.intro T.k_ss ?_ | refine And.intro T.k_bb ?_ | refine And.intro T.k_tt ?_))
    refine iteP (fun hr0=>?_) (fun hr0=>?_)
    · refine⟨fun σ' H''=>∃g' r' l',σ'=[some (.int a),some (.int b),some (.int g'),some (.int r'),l']∧r'.toNat < r.toNat∧(0≤g'∧0≤r'∧dv g' r'=dv a b)∧H''=H',fun σ' H'' ⟨g',r',l',e1,e2,e3,e4⟩=>⟨_,e2,g',r',l',e1,rfl,e3,e4⟩,?_⟩
      refine⟨_,rfl,_,rfl,_,_,rfl,rfl,(show r≠0 by omega),_,rfl,_,rfl,?_⟩
      exact⟨_,_,_,rfl,d_less hr0,d_turn e hr0,rfl⟩
    · refine⟨_,rfl,?_⟩
      (try dsimp only)
      rw[d_out e g0 r0 hr0]
      exact k
theorem fr_is{a b:Int}(pb:0 < b):a.fdiv (dv a b)=tp a b∧b.fdiv (dv a b)=bt a b:=by
  unfold tp bt
  rw[sg_pos (by omega)]
  exact⟨rfl,rfl⟩
theorem k0e(T:Txt K mg t):FnOk Pr w K mg base CX0 36 t.z0r t.w0e ["top","bottom"] sp_fraction:=by
  refine T.x0o.ok sc_fraction (fun vs H Q E h=>?_) (fun cdv A outer s H vs Q E hr h=>?_)
  · obtain⟨a,b,rfl,_⟩:=h
    rfl
  · obtain⟨a,b,rfl,pb,k⟩:=h
    have hd:dv a b≠0:=Int.ne_of_gt (dv_pos (by omega))
    refine⟨_,(a0c (b0n (PW.pt (j0x (g0t (e0l (a0f (g0g T) hr.m rfl T.w0y T.v0t.kp T.x0i .nil a0k (a0a (pv 0) a0b)))) (i0m (g0t (e0l (a0f (g0g T) hr.m rfl T.w0y T.v0t.kp T.x0i .nil a0k (a0a (pv 1) a0b))))))) (a0i f0f) a0y) (a0c (b0n (a0t c0j (pv 1) a0e (a0w _)) (a0i f0f) a0y) (a0c (a0s (i:=2) sc_fraction.nd rfl (Or.inl rfl) (a0f (ok_divisor T) hr.m rfl T.y0z T.y0a.kp T.y0f .nil a0k (a0a (pv 0) (a0a (pv 1) a0b)))) (a0c (b0n (a0t op_lt (pv 1) a0e (a0w _)) (a0i (a0s (i:=2) sc_fraction.nd rfl (Or.inl rfl) (pe_un un_neg (pv 2)))) a0y) (a0i (a0m (b0q (a0a (a0x (j0n hr (by decide) tree0) (pv 0) (pv 2)) (a0a (a0x (j0n hr (by decide) tree0) (pv 1) (pv 2)) a0b))))))))),?_⟩
    (repeat (first | apply Exists.intro | refine And.intro rfl ?_ | refine And.intro (by with_reducible assumption) ?_ | refine And.intro (SqT.of (by assumption)) ?_ | refine And.intro (SqL.of (by assumption)) ?_ | refine And.intro (TyOf.int _) ?_ | refine And.intro (TyOf.tup (by assumption)) ?_ | refine And.intro T.k_ii ?_ | refine And.intro T.k_ib ?_ | refine And.intro T.nP ?_ | refine And.intro T.k_ss ?_ | refine And.intro T.k_bb ?_ | refine And.intro T.k_tt ?_))
    (try refine iteF ?_)
    (repeat (first | apply Exists.intro | refine And.intro rfl ?_ | refine And.intro (by with_reducible assumption) ?_ | refine And.intro (SqT.of (by assumption)) ?_ | refine And.intro (SqL.of (by assumption)) ?_ | refine And.intro (TyOf.int _) ?_ | refine And.intro (TyOf.tup (by assumption)) ?_ | refine And.intro T.k_ii ?_ | refine And.intro T.k_ib ?_ | refine And.intro T.nP ?_ | refine And.intro T.k_ss ?_ | refine And.intro T.k_bb ?_ | refine And.intro T.k_tt ?_))
    (try refine iteF ?_)
    (repeat (first | apply Exists.intro | refine And.intro rfl ?_ | refine And.intro (by with_reducible assumption) ?_ | refine And.intro (SqT.of (by assumption)) ?_ | refine And.intro (SqL.of (by assumption)) ?_ | refine And.intro (TyOf.int _) ?_ | refine And.intro (TyOf.tup (by assumption)) ?_ | refine And.intro T.k_ii ?_ | refine And.intro T.k_ib ?_ | refine And.intro T.nP ?_ | refine And.intro T.k_ss ?_ | refine And.intro T.k_bb ?_ | refine And.intro T.k_tt ?_))
    refine iteI (fun h0=>absurd h0 (by omega)) (fun _=>?_)
    (repeat (first | apply Exists.intro | refine And.intro rfl ?_ | refine And.intro (by with_reducible assumption) ?_ | refine And.intro (SqT.of (by assumption)) ?_ | refine And.intro (SqL.of (by assumption)) ?_ | refine And.intro (TyOf.int _) ?_ | refine And.intro (TyOf.tup (by assumption)) ?_ | refine And.intro T.k_ii ?_ | refine And.intro T.k_ib ?_ | refine And.intro T.nP ?_ | refine And.intro T.k_ss ?_ | refine And.intro T.k_bb ?_ | refine And.intro T.k_tt ?_))
    refine iteP (fun h0=>absurd h0 (by omega)) (fun _=>?_)
    (repeat (first | apply Exists.intro | refine And.intro rfl ?_ | refine And.intro (by with_reducible assumption) ?_ | refine And.intro (SqT.of (by assumption)) ?_ | refine And.intro (SqL.of (by assumption)) ?_ | refine And.intro (TyOf.int _) ?_ | refine And.intro (TyOf.tup (by assumption)) ?_ | refine And.intro T.k_ii ?_ | refine And.intro T.k_ib ?_ | refine And.intro T.nP ?_ | refine And.intro T.k_ss ?_ | refine And.intro T.k_bb ?_ | refine And.intro T.k_tt ?_))
    refine⟨(by show 2≤sizeLine;decide),fun p hp=>?_⟩
    refine k _ _ (a0g hp) ?_
    (try dsimp only)
    rw[(fr_is pb).1,(fr_is pb).2]
    exact IsF.new
theorem ok_is_prime(T:Txt K mg t):FnOk Pr w K mg base CX0 1 t.z0x t.v0x ["number"] sp_prime:=by
  refine T.x0e.ok sc_is_prime (fun vs H Q E h=>?_) (fun cdv A outer s H vs Q E hr h=>?_)
  · obtain⟨n,rfl,_⟩:=h
    rfl
  · obtain⟨n,rfl,⟨n2,n6,hp⟩,k⟩:=h
    have PP:=isP_true hp
    refine⟨_,(a0c (b0n (a0t op_lt (pv 0) a0e (a0w _)) (a0i (a0m g0w)) a0y) (a0c (a0s (i:=1) sc_is_prime.nd rfl (Or.inl rfl) a0e) (a0c (m0w PassesOwn.never (a0t op_le (a0x g0x (pv 1) (pv 1)) (pv 0) (a0w _)) (a0c (b0n (a0t c0j (a0x c0f (pv 0) (pv 1)) a0e (a0w _)) (a0i (a0m g0w)) a0y) (a0i (a0s (i:=1) sc_is_prime.nd rfl (Or.inl rfl) (a0x b0x (pv 1) a0e))))) (a0i (a0m g0w))))),?_⟩
    refine⟨_,rfl,_,_,rfl,rfl,_,rfl,?_⟩
    refine iteP (fun h0=>absurd h0 (by omega)) (fun _=>?_)
    refine⟨fun m σ H'=>∃f:Int,σ=[some (.int n),some (.int f)]∧m=(n+2 - f).toNat∧(2≤f∧f≤n+1)∧H'=H,⟨_,_,rfl,rfl,⟨by omega,by omega⟩,rfl⟩,?_⟩
    rintro m σ H' ⟨f,rfl,rfl,⟨f2,fn⟩,rfl⟩
    have cm:CMul f f:=.inl ⟨by omega,by omega⟩
    refine⟨_,rfl,_,rfl,_,_,rfl,rfl,cm,_,rfl,_,_,rfl,rfl,_,rfl,?_⟩
    refine iteP (fun h0=>?_) (fun h0=>?_)
    · refine⟨fun σ' H''=>∃f':Int,σ'=[some (.int n),some (.int f')]∧(n+2 - f').toNat < (n+2 - f).toNat∧(2≤f'∧f'≤n+1)∧H''=H',fun σ' H'' ⟨f',e1,e2,e3,e4⟩=>⟨_,e2,f',e1,rfl,e3,e4⟩,?_⟩
      refine⟨_,rfl,_,rfl,_,_,rfl,rfl,(show f≠0 by omega),rfl,_,rfl,?_⟩
      have hs:=sq_le f2 h0
      refine iteI (fun h1=>absurd h1 (PP.2 f f2 h0)) (fun _=>?_)
      refine⟨_,rfl,_,_,rfl,rfl,?_⟩
      exact⟨_,rfl,by omega,⟨by omega,by omega⟩,rfl⟩
    · exact k
theorem f0l(T:Txt K mg t):FnOk Pr w K mg base CX0 2 t.o0i t.n0z ["self","prime"] (sp_init t.z0t):=by
  refine T.o0b.ok f0j (fun vs H Q E h=>?_) (fun cdv A outer s H vs Q E hr h=>?_)
  · obtain⟨x,dx,n,rfl,_⟩:=h
    rfl
  · obtain⟨x,dx,n,rfl,hn,hx,k⟩:=h
    refine⟨_,(a0c (b0n (PW.pt (j0x (g0t (e0l (a0f (g0g T) hr.m rfl T.w0y T.v0t.kp T.x0i .nil a0k (a0a (pv 1) a0b)))) (j0x (a0t op_gt (pv 1) (pe_glob (v:=.int 1000000) rfl T.c_GREATEST_PRIME.choose_spec ⟨_,rfl⟩) (a0w _)) (i0m (g0t (e0l (a0f (ok_is_prime T) hr.m rfl T.w0x T.x0e.kp T.v0v .nil a0k (a0a (pv 1) a0b)))))))) (a0i f0f) a0y) (a0i (ps_fld (pv 0) (pv 1) rfl))),?_⟩
    refine⟨_,rfl,_,rfl,_,rfl,?_⟩
    (try refine iteF ?_)
    refine⟨_,rfl,_,_,rfl,rfl,_,rfl,?_⟩
    refine iteP (fun h0=>absurd h0 (by have:=hn.2.1;omega)) (fun _=>?_)
    refine⟨_,rfl,_,rfl,hn,_,rfl,?_⟩
    (try refine iteF ?_)
    refine⟨_,rfl,_,rfl,x,_,dx,_,rfl,hx,T.v0m,T.nP,(by show 0 < 1000;decide),?_⟩
    exact k
theorem g0h(T:Txt K mg t):FnOk Pr w K mg base CX0 1 t.p0d t.o0e ["self"] (l0d t.z0b [] frSR isFr Fr.zero):=by
  refine T.o0f.ok f0u (fun vs H Q E h=>?_) (fun cdv A outer s H vs Q E hr h=>?_)
  · obtain⟨x,rfl,_⟩:=h
    rfl
  · obtain⟨x,rfl,_,k⟩:=h
    refine⟨_,(a0i (a0m (b0q (a0a a0e (a0a a0e a0b))))),?_⟩
    exact⟨(by show 2≤sizeLine;decide),fun p hp=>k _ _ (a0g hp) IsF.new⟩
theorem i0e(T:Txt K mg t):FnOk Pr w K mg base CX0 38 t.q0n t.o0u ["self","x","y"] (l0e t.z0b [] frSR isFr Fr.add):=by
  refine T.o0x.ok h0o (fun vs H Q E h=>?_) (fun cdv A outer s H vs Q E hr h=>?_)
  · obtain⟨k,x,y,a,b,m,n,rfl,_⟩:=h
    rfl
  · obtain⟨k0,x,y,a,b,m,n,rfl,⟨_,⟨px,rfl,hx⟩,⟨py,rfl,hy⟩,sa,sb,hmn⟩,k⟩:=h
    have sa:a.sz m:=sa
    have sb:b.sz n:=sb
    have m1:CMulG a.t b.b:=mulG (n:=n) sa.1 sb.2 (by omega)
    have m2:CMulG b.t a.b:=mulG (n:=m) sb.1 sa.2 (by omega)
    have m3:CMulG a.b b.b:=mulG (n:=n) sa.2 sb.2 (by omega)
    refine⟨_,(a0i (a0m (a0f (k0e T) hr.m rfl T.v0k T.x0o.kp T.v0n .nil a0k (a0a (a0x b0x (a0x d0r (a0p a0n (pv 1) a0e (fun _ _=>rfl)) (a0p a0n (pv 2) a0e (fun _ _=>rfl))) (a0x d0r (a0p a0n (pv 2) a0e (fun _ _=>rfl)) (a0p a0n (pv 1) a0e (fun _ _=>rfl)))) (a0a (a0x d0r (a0p a0n (pv 1) a0e (fun _ _=>rfl)) (a0p a0n (pv 2) a0e (fun _ _=>rfl))) a0b))))),?_⟩
    (repeat (first | apply Exists.intro | refine And.intro rfl ?_ | refine And.intro (by with_reducible assumption) ?_ | refine And.intro (SqT.of (by assumption)) ?_ | refine And.intro (SqL.of (by assumption)) ?_ | refine And.intro (TyOf.int _) ?_ | refine And.intro (TyOf.tup (by assumption)) ?_ | refine And.intro T.k_ii ?_ | refine And.intro T.k_ib ?_ | refine And.intro T.nP ?_ | refine And.intro T.k_ss ?_ | refine And.intro T.k_bb ?_ | refine And.intro T.k_tt ?_))
    exact⟨Int.mul_pos a.p b.p,k⟩
theorem h0b(T:Txt K mg t):FnOk Pr w K mg base CX0 38 t.p0m t.o0o ["self","x","y"] (l0e t.z0b [] frSR isFr Fr.mul):=by
  refine T.o0n.ok g0l (fun vs H Q E h=>?_) (fun cdv A outer s H vs Q E hr h=>?_)
  · obtain⟨k,x,y,a,b,m,n,rfl,_⟩:=h
    rfl
  · obtain⟨k0,x,y,a,b,m,n,rfl,⟨_,⟨px,rfl,hx⟩,⟨py,rfl,hy⟩,sa,sb,hmn⟩,k⟩:=h
    have sa:a.sz m:=sa
    have sb:b.sz n:=sb
    have m1:CMulG a.t b.t:=mulG (n:=n) sa.1 sb.1 (by omega)
    have m3:CMulG a.b b.b:=mulG (n:=n) sa.2 sb.2 (by omega)
    refine⟨_,(a0i (a0m (a0f (k0e T) hr.m rfl T.v0k T.x0o.kp T.v0n .nil a0k (a0a (a0x d0r (a0p a0n (pv 1) a0e (fun _ _=>rfl)) (a0p a0n (pv 2) a0e (fun _ _=>rfl))) (a0a (a0x d0r (a0p a0n (pv 1) a0e (fun _ _=>rfl)) (a0p a0n (pv 2) a0e (fun _ _=>rfl))) a0b))))),?_⟩
    (repeat (first | apply Exists.intro | refine And.intro rfl ?_ | refine And.intro (by with_reducible assumption) ?_ | refine And.intro (SqT.of (by assumption)) ?_ | refine And.intro (SqL.of (by assumption)) ?_ | refine And.intro (TyOf.int _) ?_ | refine And.intro (TyOf.tup (by assumption)) ?_ | refine And.intro T.k_ii ?_ | refine And.intro T.k_ib ?_ | refine And.intro T.nP ?_ | refine And.intro T.k_ss ?_ | refine And.intro T.k_bb ?_ | refine And.intro T.k_tt ?_))
    exact⟨Int.mul_pos a.p b.p,k⟩
theorem h0a(T:Txt K mg t)(p:Int)(hp:2≤p):FnOk Pr w K mg base CX0 1 t.p0s t.o0j ["self"] (l0d t.z0t (pfs p) (f0k p hp) (isRe p) (f0k p hp).zero):=by
  refine T.o0l.ok g0k (fun vs H Q E h=>?_) (fun cdv A outer s H vs Q E hr h=>?_)
  · obtain⟨x,rfl,_⟩:=h
    rfl
  · obtain⟨x,rfl,_,k⟩:=h
    refine⟨_,(a0i (a0m a0e)),?_⟩
    exact k _ _ (Same.refl _) rfl
theorem j0b(T:Txt K mg t)(p:Int)(hp:2≤p):FnOk Pr w K mg base CX0 1 t.r0h t.p0e ["self","x","y"] (l0e t.z0t (pfs p) (f0k p hp) (isRe p) (f0k p hp).add):=by
  refine T.p0l.ok i0y (fun vs H Q E h=>?_) (fun cdv A outer s H vs Q E hr h=>?_)
  · obtain⟨k,x,y,a,b,m,n,rfl,_⟩:=h
    rfl
  · obtain⟨k0,x,y,a,b,m,n,rfl,⟨⟨q,dx,rfl,hq⟩,rfl,rfl,sa,sb,hmn⟩,k⟩:=h
    refine⟨_,(a0i (a0m (a0x c0f (a0x b0x (pv 1) (pv 2)) (pe_fld (pv 0) rfl)))),?_⟩
    refine⟨_,rfl,_,rfl,_,_,rfl,rfl,_,rfl,q,_,dx,_,_,rfl,hq,T.v0m,T.nP,pfs_prime p,_,_,rfl,rfl,(show p≠0 by omega),?_⟩
    exact k _ _ (Same.refl _) rfl
theorem i0d(T:Txt K mg t)(p:Int)(hp:2≤p)(hq:p≤1000000):FnOk Pr w K mg base CX0 1 t.q0g t.o0t ["self","x","y"] (l0e t.z0t (pfs p) (f0k p hp) (isRe p) (f0k p hp).mul):=by
  refine T.o0w.ok h0n (fun vs H Q E h=>?_) (fun cdv A outer s H vs Q E hr h=>?_)
  · obtain⟨k,x,y,a,b,m,n,rfl,_⟩:=h
    rfl
  · obtain⟨k0,x,y,a,b,m,n,rfl,⟨⟨q,dx,rfl,hk⟩,rfl,rfl,sa,sb,hmn⟩,k⟩:=h
    have cm:CMul a.x b.x:=.inl ⟨by have:=a.h0;omega,by have:=a.h1;omega⟩
    refine⟨_,(a0i (a0m (a0x c0f (a0x g0x (pv 1) (pv 2)) (pe_fld (pv 0) rfl)))),?_⟩
    refine⟨_,rfl,_,rfl,_,_,rfl,rfl,cm,_,rfl,q,_,dx,_,_,rfl,hk,T.v0m,T.nP,pfs_prime p,_,_,rfl,rfl,(show p≠0 by omega),?_⟩
    exact k _ _ (Same.refl _) rfl
theorem k0i(T:Txt K mg t):FnOk Pr w K mg base CX0 1 t.r0r t.q0b ["self"] (l0d t.c1u [] costSR isCo costSR.zero):=by
  refine T.q0o.ok j0r (fun vs H Q E h=>?_) (fun cdv A outer s H vs Q E hr h=>?_)
  · obtain⟨x,rfl,_⟩:=h
    rfl
  · obtain⟨x,rfl,_,k⟩:=h
    refine⟨_,(a0i (a0m c0z)),?_⟩
    exact k _ _ (Same.refl _) rfl
theorem n0e(T:Txt K mg t):FnOk Pr w K mg base CX0 1 t.x0p t.s0y ["self","x","y"] (l0e t.c1u [] costSR isCo costSR.add):=by
  refine T.s0u.ok m0q (fun vs H Q E h=>?_) (fun cdv A outer s H vs Q E hr h=>?_)
  · obtain⟨k,x,y,a,b,m,n,rfl,_⟩:=h
    rfl
  · obtain⟨k0,x,y,a,b,m,n,rfl,⟨_,rfl,rfl,sa,sb,hmn⟩,k⟩:=h
    refine⟨_,(a0c (b0n (a0t e0x (pv 1) c0z (a0w _)) (a0i (a0m (pv 2))) a0y) (a0c (b0n (a0t e0x (pv 2) c0z (a0w _)) (a0i (a0m (pv 1))) a0y) (a0i (a0m (a0z (call_min2 rfl) (by rfl) T.z_min boot_min (a0a (pv 1) (a0a (pv 2) a0b))))))),?_⟩
    have k':=k (cV (cAdd a b)) H (Same.refl _) rfl
    cases a with
    | none=>
      refine⟨_,rfl,rfl,_,rfl,?_⟩
      refine iteT ?_
      exact⟨_,rfl,k'⟩
    | some i=>
      refine⟨_,rfl,rfl,_,rfl,?_⟩
      refine iteF ?_
      cases b with
      | none=>
        refine⟨_,rfl,rfl,_,rfl,?_⟩
        refine iteT ?_
        exact⟨_,rfl,k'⟩
      | some j=>
        refine⟨_,rfl,rfl,_,rfl,?_⟩
        refine iteF ?_
        exact⟨_,rfl,_,rfl,_,_,rfl,k'⟩
theorem l0m(T:Txt K mg t):FnOk Pr w K mg base CX0 1 t.t0q t.q0u ["self","x","y"] (l0e t.c1u [] costSR isCo costSR.mul):=by
  refine T.r0b.ok l0g (fun vs H Q E h=>?_) (fun cdv A outer s H vs Q E hr h=>?_)
  · obtain⟨k,x,y,a,b,m,n,rfl,_⟩:=h
    rfl
  · obtain⟨k0,x,y,a,b,m,n,rfl,⟨_,rfl,rfl,sa,sb,hmn⟩,k⟩:=h
    refine⟨_,(a0c (b0n (PW.pt (j0x (a0t e0x (pv 1) c0z (a0w _)) (i0m (a0t e0x (pv 2) c0z (a0w _))))) (a0i (a0m c0z)) a0y) (a0i (a0m (a0x b0x (pv 1) (pv 2))))),?_⟩
    have k':=k (cV (cMul a b)) H (Same.refl _) rfl
    cases a with
    | none=>
      refine⟨_,rfl,rfl,_,rfl,?_⟩
      refine iteT ?_
      (try refine iteT ?_)
      exact k'
    | some i=>
      refine⟨_,rfl,rfl,_,rfl,?_⟩
      refine iteF ?_
      cases b with
      | none=>
        refine⟨_,rfl,rfl,_,rfl,?_⟩
        (try refine iteT ?_)
        exact k'
      | some j=>
        refine⟨_,rfl,rfl,_,rfl,?_⟩
        (try refine iteF ?_)
        exact⟨_,rfl,_,rfl,_,_,rfl,rfl,k'⟩
theorem j0a(T:Txt K mg t):FnOk Pr w K mg base CX0 1 t.r0a t.p0q ["self"] (l0d t.c1k [] truthSR isTr truthSR.zero):=by
  refine T.p0o.ok i0x (fun vs H Q E h=>?_) (fun cdv A outer s H vs Q E hr h=>?_)
  · obtain⟨x,rfl,_⟩:=h
    rfl
  · obtain⟨x,rfl,_,k⟩:=h
    refine⟨_,(a0i (a0m g0w)),?_⟩
    exact k _ _ (Same.refl _) rfl
theorem l0l(T:Txt K mg t):FnOk Pr w K mg base CX0 1 t.u0d t.r0j ["self","x","y"] (l0e t.c1k [] truthSR isTr truthSR.add):=by
  refine T.r0o.ok l0f (fun vs H Q E h=>?_) (fun cdv A outer s H vs Q E hr h=>?_)
  · obtain⟨k,x,y,a,b,m,n,rfl,_⟩:=h
    rfl
  · obtain⟨k0,x,y,a,b,m,n,rfl,⟨_,rfl,rfl,sa,sb,hmn⟩,k⟩:=h
    refine⟨_,(a0i (a0m (pe_or (pv 1) (f0p (pv 2))))),?_⟩
    have k':=k (.bl (a || b)) H (Same.refl _) rfl
    cases a with
    | true=>exact⟨_,rfl,_,rfl,iteT k'⟩
    | false=>exact⟨_,rfl,_,rfl,iteF ⟨_,rfl,k'⟩⟩
theorem k0g(T:Txt K mg t):FnOk Pr w K mg base CX0 1 t.s0g t.q0l ["self","x","y"] (l0e t.c1k [] truthSR isTr truthSR.mul):=by
  refine T.p0w.ok j0p (fun vs H Q E h=>?_) (fun cdv A outer s H vs Q E hr h=>?_)
  · obtain⟨k,x,y,a,b,m,n,rfl,_⟩:=h
    rfl
  · obtain⟨k0,x,y,a,b,m,n,rfl,⟨_,rfl,rfl,sa,sb,hmn⟩,k⟩:=h
    refine⟨_,(a0i (a0m (f0q (pv 1) (f0p (pv 2))))),?_⟩
    have k':=k (.bl (a && b)) H (Same.refl _) rfl
    cases a with
    | true=>exact⟨_,rfl,_,rfl,iteT ⟨_,rfl,k'⟩⟩
    | false=>exact⟨_,rfl,_,rfl,iteF k'⟩
theorem j0c(T:Txt K mg t):FnOk Pr w K mg base CX0 1 t.r0d t.p0p ["self"] (l0d t.z0b [] frSR isFr Fr.one):=by
  refine T.p0r.ok i0z (fun vs H Q E h=>?_) (fun cdv A outer s H vs Q E hr h=>?_)
  · obtain⟨x,rfl,_⟩:=h
    rfl
  · obtain⟨x,rfl,_,k⟩:=h
    refine⟨_,(a0i (a0m (b0q (a0a a0e (a0a a0e a0b))))),?_⟩
    exact⟨(by show 2≤sizeLine;decide),fun p hp=>k _ _ (a0g hp) IsF.new⟩
theorem k0h(T:Txt K mg t)(p:Int)(hp:2≤p):FnOk Pr w K mg base CX0 1 t.s0k t.q0j ["self"] (l0d t.z0t (pfs p) (f0k p hp) (isRe p) (f0k p hp).one):=by
  refine T.p0z.ok j0q (fun vs H Q E h=>?_) (fun cdv A outer s H vs Q E hr h=>?_)
  · obtain⟨x,rfl,_⟩:=h
    rfl
  · obtain⟨x,rfl,_,k⟩:=h
    refine⟨_,(a0i (a0m a0e)),?_⟩
    exact k _ _ (Same.refl _) rfl
theorem ok_Costs_one(T:Txt K mg t):FnOk Pr w K mg base CX0 1 t.y0y t.v0f ["self"] (l0d t.c1u [] costSR isCo costSR.one):=by
  refine T.t0o.ok sc_Costs_one (fun vs H Q E h=>?_) (fun cdv A outer s H vs Q E hr h=>?_)
  · obtain⟨x,rfl,_⟩:=h
    rfl
  · obtain⟨x,rfl,_,k⟩:=h
    refine⟨_,(a0i (a0m a0e)),?_⟩
    exact k _ _ (Same.refl _) rfl
theorem n0d(T:Txt K mg t):FnOk Pr w K mg base CX0 1 t.w0i t.s0p ["self"] (l0d t.c1k [] truthSR isTr truthSR.one):=by
  refine T.r0z.ok m0p (fun vs H Q E h=>?_) (fun cdv A outer s H vs Q E hr h=>?_)
  · obtain⟨x,rfl,_⟩:=h
    rfl
  · obtain⟨x,rfl,_,k⟩:=h
    refine⟨_,(a0i (a0m g0w)),?_⟩
    exact k _ _ (Same.refl _) rfl
def R_fr(T:Txt K mg t):KindR Pr w K mg base where
  S:=frSR
  C:=t.z0b
  fs:=[]
  cl:=T.u0f
  is:=isFr
  same e h:=IsF.same e h
  isd h:=IsF.is h
  f_plus:=_
  d_plus:=_
  t_plus:=T.o0z
  b_plus:=T.p0a
  l_plus:=rfl
  G_plus:=(i0e T).mono (by decide)
  f_times:=_
  d_times:=_
  t_times:=T.o0q
  b_times:=T.o0h
  l_times:=rfl
  G_times:=(h0b T).mono (by decide)
  f_nought:=_
  d_nought:=_
  t_nought:=T.o0g
  b_nought:=T.o0d
  l_nought:=rfl
  G_nought:=(g0h T).mono (by decide)
  f_one:=_
  d_one:=_
  t_one:=T.p0t
  b_one:=T.p0g
  l_one:=rfl
  G_one:=(j0c T).mono (by decide)
def R_re(T:Txt K mg t)(p:Int)(hp:2≤p)(hq:p≤1000000):KindR Pr w K mg base where
  S:=f0k p hp
  C:=t.z0t
  fs:=pfs p
  cl:=T.v0m
  is:=isRe p
  same _ h:=h
  isd {H v x} h:=by cases (show v=.int x.x from h);exact .int _
  f_plus:=_
  d_plus:=_
  t_plus:=T.p0j
  b_plus:=T.p0i
  l_plus:=pfs_no p (by decide +kernel)
  G_plus:=(j0b T p hp).mono (by decide)
  f_times:=_
  d_times:=_
  t_times:=T.o0r
  b_times:=T.o0v
  l_times:=pfs_no p (by decide +kernel)
  G_times:=(i0d T p hp hq).mono (by decide)
  f_nought:=_
  d_nought:=_
  t_nought:=T.o0p
  b_nought:=T.o0m
  l_nought:=pfs_no p (by decide +kernel)
  G_nought:=(h0a T p hp).mono (by decide)
  f_one:=_
  d_one:=_
  t_one:=T.q0h
  b_one:=T.q0k
  l_one:=pfs_no p (by decide +kernel)
  G_one:=(k0h T p hp).mono (by decide)
def R_co(T:Txt K mg t):KindR Pr w K mg base where
  S:=costSR
  C:=t.c1u
  fs:=[]
  cl:=T.b1v
  is:=isCo
  same _ h:=h
  isd {H v x} h:=by
    cases (show v=cV x from h)
    cases x with
    | none=>exact .non
    | some i=>exact .int i
  f_plus:=_
  d_plus:=_
  t_plus:=T.s0b
  b_plus:=T.r0x
  l_plus:=rfl
  G_plus:=(n0e T).mono (by decide)
  f_times:=_
  d_times:=_
  t_times:=T.q0t
  b_times:=T.r0i
  l_times:=rfl
  G_times:=(l0m T).mono (by decide)
  f_nought:=_
  d_nought:=_
  t_nought:=T.q0a
  b_nought:=T.q0i
  l_nought:=rfl
  G_nought:=(k0i T).mono (by decide)
  f_one:=_
  d_one:=_
  t_one:=T.v0j
  b_one:=T.t0h
  l_one:=rfl
  G_one:=(ok_Costs_one T).mono (by decide)
def R_tr(T:Txt K mg t):KindR Pr w K mg base where
  S:=truthSR
  C:=t.c1k
  fs:=[]
  cl:=T.a1p
  is:=isTr
  same _ h:=h
  isd {H v x} h:=by cases (show v=.bl x from h);exact .bl x
  f_plus:=_
  d_plus:=_
  t_plus:=T.r0e
  b_plus:=T.r0m
  l_plus:=rfl
  G_plus:=(l0l T).mono (by decide)
  f_times:=_
  d_times:=_
  t_times:=T.p0y
  b_times:=T.q0c
  l_times:=rfl
  G_times:=(k0g T).mono (by decide)
  f_nought:=_
  d_nought:=_
  t_nought:=T.p0h
  b_nought:=T.p0f
  l_nought:=rfl
  G_nought:=(j0a T).mono (by decide)
  f_one:=_
  d_one:=_
  t_one:=T.s0s
  b_one:=T.s0l
  l_one:=rfl
  G_one:=(n0d T).mono (by decide)
inductive So(T:Txt K mg t):KindR Pr w K mg base→Str→Int→Prop
  | fr:So T (R_fr T) "fractions" 0
  | re (p:Int) (hp:2≤p) (hq:p≤1000000) (hi:isP p=true):So T (R_re T p hp hq) "residues" p
  | co:So T (R_co T) "costs" 0
  | tr:So T (R_tr T) "truths" 0
def SortAt(H:Hp)(v:V)(nm:Str)(p:Int):Prop:=∃q,v=.ref q∧H q=some (.tup [.str nm,.int p])
theorem SortAt.same{H H':Hp}{v:V}{nm:Str}{p:Int}(s:SameT H H')(h:SortAt H v nm p):SortAt H' v nm p:=by
  obtain⟨q,rfl,e⟩:=h
  exact⟨q,rfl,s _ _ e⟩
def sp_column_at(w:World)(K:PySem.W.Frag)(mg:Str→Option Value)(base:Heap):Sp:=fun vs H Q _=>∃(R:KindR Pr w K mg base),∃tb,∃(z:Int),∃(i:Nat),∃h n x m,vs=[tb,.int z]∧(R.Tab h n x m tb H∧i < n∧h≤1000∧z=i)∧
  ∀v H',Same H H'→R.Row h (fun j=>x j i) m v H'→Q v H'
theorem ok_column_at(T:Txt K mg t):FnOk Pr w K mg base CX0 1 t.z0k t.v0b ["table","place"] (sp_column_at w K mg base):=by
  refine T.t0n.ok sc_column_at (fun vs H Q E h=>?_) (fun cdv A outer s H vs Q E hr h=>?_)
  · obtain⟨R,tb,z,i,h,n,x,m,rfl,_⟩:=h
    rfl
  · obtain⟨R,tb,z,i,h,n,x,m,rfl,⟨⟨p,rows,rfl,hp,ent⟩,hi,hh,rfl⟩,k⟩:=h
    refine⟨_,(a0i (a0m (b0a a0q (by rfl) T.z_tuple boot_tuple (a0a (b0z (xs:=["row"]) rfl (show b0m ["table","place"] (a0h e0b) _ from⟨rfl,by decide +kernel,by decide +kernel,by decide +kernel,by decide +kernel,by decide +kernel⟩) (e0m (pv 0)) (fun _ _ _ _ _=>(a0u (i:=2) (by show List.Nodup (["table","place","row"]:List Str);decide +kernel) rfl (Or.inl rfl))) (fun _ _ _ _ _=>(a0p (show IxR _ (rIxT K)from a0n) (pv 2) (pv 1) (fun _ _=>rfl)))) a0b)))),?_⟩
    refine⟨_,rfl,p,rfl,⟨_,SqT.of hp⟩,b0i (n:=h) (fun j ys H2=>Ents (R.Wt (fun j=>x j i) m) ys j H∧H2=H) hh ⟨Ents.nil,rfl⟩ (fun j ys H2 q=>q.1.1) ?_ ?_ ?_⟩
    · rintro j ys H2 hj ⟨e,rfl⟩
      obtain⟨u,eu,pu⟩:=ent.2 j hj
      refine⟨⟨_,_,SqT.of hp,eu⟩,fun y H' hy=>?_⟩
      obtain⟨rfl,hy⟩:=hy
      have:=hy _ (SqT.of hp)
      rw[eu]at this
      cases this
      obtain⟨q,cs,rfl,hq,ec⟩:=pu
      obtain⟨z,ez,pz⟩:=ec.2 i hi
      refine⟨⟨[some (.ref q)],rfl,rfl⟩,_,rfl,_,rfl,_,_,_,_,rfl,rfl,SqT.of hq,e0k ez,?_⟩
      exact⟨e.snoc pz,rfl⟩
    · rintro ys H2 ⟨e,rfl⟩
      exact⟨_,SqT.of hp,by rw[ent.1];exact Nat.le_refl _⟩
    · rintro ys H2 l ⟨e,rfl⟩ nl
      have s1:=a0g (o:=.lst ys) nl
      refine⟨l,ys,rfl,.inl ⟨SqL.of a0d,fun l2 n2=>?_⟩⟩
      have s2:=a0g (o:=.tup ys) n2
      exact k _ _ (s1.trans s2) ⟨l2,ys,rfl,a0d,e.mono fun _ _ _ q=>KindR.Wt.same (s1.trans s2).t q⟩
def m0i(w:World)(K:PySem.W.Frag)(mg:Str→Option Value)(base:Heap):Sp:=fun vs H Q _=>∃(R:KindR Pr w K mg base),∃tb h n x m,vs=[tb]∧(R.Tab h n x m tb H∧h≤1000∧n≤1000)∧
  ∀v H',Same H H'→R.Tab (if h=0 then 0 else n) h (fun j i=>x i j) m v H'→Q v H'
theorem g0y(T:Txt K mg t):FnOk Pr w K mg base CX0 2 t.x0t t.s0c ["table"] (m0i w K mg base):=by
  refine T.s0i.ok m0o (fun vs H Q E h=>?_) (fun cdv A outer s H vs Q E hr h=>?_)
  · obtain⟨R,tb,h,n,x,m,rfl,_⟩:=h
    rfl
  · obtain⟨R,tb,h,n,x,m,rfl,⟨ht,hh,hn⟩,k⟩:=h
    refine⟨_,(a0c (b0n (a0t c0j (a0z b0l (by rfl) T.z_len PySem.boot_len (a0a (pv 0) a0b)) a0e (a0w _)) (a0i (a0m (b0q a0b))) a0y) (a0i (a0m (b0a a0q (by rfl) T.z_tuple boot_tuple (a0a (b0z (xs:=["place"]) rfl (show b0m ["table"] (a0h d0i) _ from⟨rfl,by decide +kernel,by decide +kernel,by decide +kernel,by decide +kernel,by decide +kernel⟩) (b0v rfl T.z_range (a0a (a0z b0l (by rfl) T.z_len PySem.boot_len (a0a (a0p a0n (pv 0) a0e (fun _ _=>rfl)) a0b)) a0b)) (fun _ _ _ _ _=>(a0u (i:=1) (by show List.Nodup (["table","place"]:List Str);decide +kernel) rfl (Or.inl rfl))) (fun _ _ _ _ _=>(a0f (ok_column_at (w:=w) (base:=base) T) hr.m rfl T.u0o T.t0n.kp T.t0i .nil a0k (a0a (pv 0) (a0a (pv 1) a0b))))) a0b))))),?_⟩
    refine⟨_,rfl,_,_,rfl,ht.len,rfl,_,rfl,?_⟩
    refine iteI (fun e0=>?_) (fun e0=>?_)
    · have e:h=0:=by omega
      subst e
      refine⟨(by show 0≤sizeLine;decide),fun p np=>k _ _ (a0g np) ⟨p,[],rfl,a0d,Ents.nil⟩⟩
    · obtain⟨p,rows,rfl,hp,ent⟩:=ht
      obtain⟨u,eu,pu⟩:=ent.2 0 (by omega)
      have e0:h≠0:=by omega
      rw[if_neg e0]at k
      refine⟨_,rfl,_,_,_,_,rfl,rfl,SqT.of hp,e0k (j:=0) eu,_,_,rfl,pu.len,_,rfl,(by omega),(by omega),b0i (n:=n) (fun j ys H2=>Same H H2∧Ents (fun j u H=>R.Row h (fun i=>x i j) m u H) ys j H2) hn ⟨Same.refl _,Ents.nil⟩ (fun j ys H2 q=>q.2.1) ?_ ?_ ?_⟩
      · rintro j ys H2 hj ⟨q,e⟩
        refine⟨(show j < (n:Int).toNat by omega),fun y H' hy=>?_⟩
        obtain⟨rfl,rfl⟩:=hy
        refine⟨⟨[some (.int (0+(j:Int)))],rfl,rfl⟩,_,rfl,_,rfl,R,_,_,j,h,n,x,m,rfl,⟨KindR.Tab.same q.t ⟨p,rows,rfl,hp,ent⟩,hj,hh,by omega⟩,fun v H3 s3 r3=>?_⟩
        exact⟨q.trans s3,(e.mono fun _ _ _ z=>KindR.Row.same s3.t z).snoc r3⟩
      · rintro ys H2 ⟨q,e⟩
        show(n:Int).toNat≤n
        omega
      · rintro ys H2 l ⟨q,e⟩ nl
        have s1:=a0g (o:=.lst ys) nl
        refine⟨l,ys,rfl,.inl ⟨SqL.of a0d,fun l2 n2=>?_⟩⟩
        have s2:=a0g (o:=.tup ys) n2
        exact k _ _ (q.trans (s1.trans s2)) ⟨l2,ys,rfl,a0d,e.mono fun _ _ _ z=>KindR.Row.same (s1.trans s2).t z⟩
def dotW(S:SR)(x y:Nat→S.W)(n:Nat):S.W:=sm S (fun i=>S.mul (x i) (y i)) n
theorem sm_lv{S:SR}{f:Nat→S.W}{k:Nat}:∀{n:Nat},(∀i,i < n→S.lv k 1 (f i))→S.lv k n (sm S f n)
  | 0,_=>S.lv_zero k
  | n+1,h=>S.lv_add _ _ _ _ _ (sm_lv fun i hi=>h i (Nat.lt_succ_of_lt hi)) (h n (Nat.lt_succ_self n))
theorem dot_sz{S:SR}{x y:Nat→S.W}{m m' n:Nat}(hx:∀i,i < n→S.lv m 32 (x i))(hy:∀i,i < n→S.lv m' 32 (y i)):S.lv (m+m') n (dotW S x y n):=sm_lv fun i hi=>S.lv_mul _ _ _ _ (hx i hi) (hy i hi)
theorem wt_sz{R:KindR Pr w K mg base}{x:Nat→R.S.W}{m n:Nat}{ys:List V}{H:Hp}(e:Ents (R.Wt x m) ys n H):∀i,i < n→R.S.lv m 32 (x i):=fun i hi=>by
  obtain⟨_,_,q⟩:=e.2 i hi
  exact q.2
def sp_dot(w:World)(K:PySem.W.Frag)(mg:Str→Option Value)(base:Heap):Sp:=fun vs H Q _=>∃(R:KindR Pr w K mg base),∃kv row col n x y m m',vs=[kv,row,col]∧(KAt R.C R.fs H kv∧R.Seq n x m row H∧R.Seq n y m' col H∧n≤32∧m+m'≤100000)∧
  ∀v H',Same H H'→R.is H' v (dotW R.S x y n)→R.S.lv (m+m') 32 (dotW R.S x y n)→Q v H'
theorem ok_dot(T:Txt K mg t):FnOk Pr w K mg base CX0 41 t.dot t.c1w ["kind","row","column"] (sp_dot w K mg base):=by
  refine T.d1c.ok sc_dot (fun vs H Q E h=>?_) (fun cdv A outer s H vs Q E hr h=>?_)
  · obtain⟨R,kv,row,col,n,x,y,m,m',rfl,_⟩:=h
    rfl
  · obtain⟨R,kv,row,col,n,x,y,m,m',rfl,⟨⟨kp,dx,rfl,hk⟩,⟨S1,xs,o1,v1,w1,e1⟩,⟨S2,ys,o2,v2,w2,e2⟩,hz⟩,k⟩:=h
    refine⟨_,(a0c (a0s (i:=3) sc_dot.nd rfl (Or.inl rfl) (g0v (pv 0) R.cl R.t_nought R.G_nought hr.m R.b_nought .nil a0k)) (a0c (c0i PassesOwn.never rfl (i0n rfl T.z_zip (a0a (pv 1) (a0a (pv 2) a0b))) (g0u rfl (b0k (a0u (i:=4) sc_dot.nd rfl (Or.inl rfl)) (b0k (a0u (i:=5) sc_dot.nd rfl (Or.inl rfl)) e0f))) (a0i (a0s (i:=3) sc_dot.nd rfl (Or.inl rfl) (pe_meth (pv 0) R.cl R.t_plus R.G_plus hr.m R.b_plus .nil a0k (a0a (pv 3) (a0a (pe_meth (pv 0) R.cl R.t_times R.G_times hr.m R.b_times .nil a0k (a0a (pv 4) (a0a (pv 5) a0b))) a0b)))))) (a0i (a0m (pv 3))))),?_⟩
    refine⟨_,rfl,_,_,_,rfl,hk,R.l_nought,_,rfl,⟨_,_,rfl,hk⟩,fun z H1 s1 f1=>?_⟩
    refine⟨_,rfl,_,rfl,S1,S2,_,_,xs,ys,rfl,o1,o2,(w1 _ s1).1,(w2 _ s1).1,n0s (K:=K) (xs:=xs) (ys:=ys) (fun i σ H2=>∃tot v4 v5,σ=[some (.ref kp),some row,some col,some tot,v4,v5]∧Same H H2∧R.is H2 tot (dotW R.S x y i)) (by rw[e1.1,e2.1]) ⟨_,_,_,rfl,s1,f1⟩ (fun i σ H2 _ ⟨_,_,_,_,q,_⟩=>⟨(w1 _ q).1,(w2 _ q).1⟩) ?_ ?_⟩
    · rintro i u v p σ H2 hu hv np ⟨tot,v4,v5,rfl,q,f⟩
      obtain⟨hi,pu⟩:=e1.at hu
      obtain⟨_,pv⟩:=e2.at hv
      have sp:=a0g (o:=.tup [u,v]) np
      have q2:=q.trans sp
      refine⟨p,_,rfl,SqT.of a0d,rfl,_,_,rfl,_,_,rfl,rfl,?_⟩
      refine⟨_,rfl,_,_,_,rfl,q2 _ _ hk,R.l_plus,_,rfl,_,rfl,_,_,_,rfl,q2 _ _ hk,R.l_times,_,rfl,_,rfl,_,_,_,_,_,100 * m,100 * m',rfl,⟨⟨_,_,rfl,q2 _ _ hk⟩,R.same q2.t pu.1,R.same q2.t pv.1,R.S.lv_sz _ _ _ (by decide) pu.2,R.S.lv_sz _ _ _ (by decide) pv.2,by omega⟩,fun pr H3 s3 f3=>?_⟩
      have q3:=q2.trans s3
      refine⟨_,_,_,_,_,100 * (m+m'),100 * (m+m'),rfl,⟨⟨_,_,rfl,q3 _ _ hk⟩,R.same (sp.trans s3).t f,f3,R.S.lv_sz _ _ _ (by omega) (dot_sz (fun j hj=>wt_sz e1 j (Nat.lt_trans hj hi)) (fun j hj=>wt_sz e2 j (Nat.lt_trans hj hi))),R.S.lv_sz _ _ _ (by decide) (R.S.lv_mul _ _ _ _ pu.2 pv.2),by omega⟩,fun tt H4 s4 f4=>?_⟩
      exact⟨_,_,_,rfl,q3.trans s4,f4⟩
    · rintro σ H2 ⟨tot,v4,v5,rfl,q,f⟩
      rw[e1.1]at f
      exact⟨_,rfl,k _ _ q f (R.S.lv_mono _ _ _ _ hz.1 (dot_sz (wt_sz e1) (wt_sz e2)))⟩
def sp_row_by(w:World)(K:PySem.W.Frag)(mg:Str→Option Value)(base:Heap):Sp:=fun vs H Q _=>∃(R:KindR Pr w K mg base),∃kv row tb h n x A m m',vs=[kv,row,tb]∧(KAt R.C R.fs H kv∧R.Seq h x m row H∧R.Tab h n A m' tb H∧h≤1000∧n≤1000∧h≤32∧m+m'≤100000)∧
  ∀v H',Same H H'→R.Row (if h=0 then 0 else n) (fun j=>dotW R.S x (fun i=>A i j) h) (m+m') v H'→Q v H'
theorem ok_row_by(T:Txt K mg t):FnOk Pr w K mg base CX0 42 t.c1p t.a1t ["kind","row","table"] (sp_row_by w K mg base):=by
  refine T.a1r.ok sc_row_by (fun vs H Q E h=>?_) (fun cdv A outer s H vs Q E hr h=>?_)
  · obtain⟨R,kv,row,tb,h,n,x,A,m,m',rfl,_⟩:=h
    rfl
  · obtain⟨R,kv,row,tb,h,n,x,B,m,m',rfl,⟨hk,hx,ht,hh,hn,hz⟩,k⟩:=h
    refine⟨_,(a0i (a0m (b0a a0q (by rfl) T.z_tuple boot_tuple (a0a (b0z (xs:=["column"]) rfl (show b0m ["kind","row","table"] (a0h j0l) _ from⟨rfl,by decide +kernel,by decide +kernel,by decide +kernel,by decide +kernel,by decide +kernel⟩) (e0m (a0f (g0y T) hr.m rfl T.s0q T.s0i.kp T.r0s .nil a0k (a0a (pv 2) a0b))) (fun _ _ _ _ _=>(a0u (i:=3) (by show List.Nodup (["kind","row","table","column"]:List Str);decide +kernel) rfl (Or.inl rfl))) (fun _ _ _ _ _=>(a0f (ok_dot (w:=w) (base:=base) T) hr.m rfl T.d1b T.d1c.kp T.c1x .nil a0k (a0a (pv 0) (a0a (pv 1) (a0a (pv 3) a0b)))))) a0b)))),?_⟩
    refine⟨_,rfl,R,_,h,n,B,m',rfl,⟨ht,hh,hn⟩,?_⟩
    rintro cv H1 s1 ⟨p,cols,rfl,hp,ent⟩
    refine⟨p,rfl,⟨_,SqT.of hp⟩,b0i (n:=if h=0 then 0 else n) (fun j ys H2=>Same H1 H2∧Ents (R.Wt (fun j=>dotW R.S x (fun i=>B i j) h) (m+m')) ys j H2) (by split <;>omega) ⟨Same.refl _,Ents.nil⟩ (fun j ys H2 q=>q.2.1) ?_ ?_ ?_⟩
    · rintro j ys H2 hj ⟨q,e⟩
      obtain⟨u,eu,pu⟩:=ent.2 j hj
      refine⟨⟨_,_,SqT.of (q _ _ hp),eu⟩,fun y H' hy=>?_⟩
      obtain⟨rfl,hy⟩:=hy
      have:=hy _ (SqT.of (q _ _ hp))
      rw[eu]at this
      cases this
      refine⟨⟨[some _],rfl,rfl⟩,_,rfl,_,rfl,_,rfl,R,_,_,_,h,x,(fun i=>B i j),m,m',rfl,⟨hk.same (s1.trans q),KindR.Seq.same (s1.trans q) hx,(KindR.Row.same q.t pu).seq,hz⟩,fun v H3 s3 f3 z3=>?_⟩
      exact⟨q.trans s3,(e.mono fun _ _ _ z=>KindR.Wt.same s3.t z).snoc ⟨f3,z3⟩⟩
    · rintro ys H2 ⟨q,e⟩
      exact⟨_,SqT.of (q _ _ hp),by rw[ent.1];exact Nat.le_refl _⟩
    · rintro ys H2 l ⟨q,e⟩ nl
      have s1':=a0g (o:=.lst ys) nl
      refine⟨l,ys,rfl,.inl ⟨SqL.of a0d,fun l2 n2=>?_⟩⟩
      have s2:=a0g (o:=.tup ys) n2
      exact k _ _ ((s1.trans q).trans (s1'.trans s2)) ⟨l2,ys,rfl,a0d,e.mono fun _ _ _ z=>KindR.Wt.same (s1'.trans s2).t z⟩
def sp_by_column(w:World)(K:PySem.W.Frag)(mg:Str→Option Value)(base:Heap):Sp:=fun vs H Q _=>∃(R:KindR Pr w K mg base),∃kv tb col h n A y m m',vs=[kv,tb,col]∧(KAt R.C R.fs H kv∧R.Tab h n A m tb H∧R.Seq n y m' col H∧h≤1000∧n≤32∧m+m'≤100000)∧
  ∀v H',Same H H'→R.Row h (fun i=>dotW R.S (A i) y n) (m+m') v H'→Q v H'
theorem i0s(T:Txt K mg t):FnOk Pr w K mg base CX0 42 t.y0k t.t0t ["kind","table","column"] (sp_by_column w K mg base):=by
  refine T.v0e.ok sc_by_column (fun vs H Q E h=>?_) (fun cdv A outer s H vs Q E hr h=>?_)
  · obtain⟨R,kv,tb,col,h,n,A,y,m,m',rfl,_⟩:=h
    rfl
  · obtain⟨R,kv,tb,col,h,n,B,y,m,m',rfl,⟨hk,⟨p,rows,rfl,hp,ent⟩,hy,hh,hz⟩,k⟩:=h
    refine⟨_,(a0i (a0m (b0a a0q (by rfl) T.z_tuple boot_tuple (a0a (b0z (xs:=["row"]) rfl (show b0m ["kind","table","column"] (a0h e0c) _ from⟨rfl,by decide +kernel,by decide +kernel,by decide +kernel,by decide +kernel,by decide +kernel⟩) (e0m (pv 1)) (fun _ _ _ _ _=>(a0u (i:=3) (by show List.Nodup (["kind","table","column","row"]:List Str);decide +kernel) rfl (Or.inl rfl))) (fun _ _ _ _ _=>(a0f (ok_dot (w:=w) (base:=base) T) hr.m rfl T.d1b T.d1c.kp T.c1x .nil a0k (a0a (pv 0) (a0a (pv 3) (a0a (pv 2) a0b)))))) a0b)))),?_⟩
    refine⟨_,rfl,p,rfl,⟨_,SqT.of hp⟩,b0i (n:=h) (fun j ys H2=>Same H H2∧Ents (R.Wt (fun i=>dotW R.S (B i) y n) (m+m')) ys j H2) hh ⟨Same.refl _,Ents.nil⟩ (fun j ys H2 q=>q.2.1) ?_ ?_ ?_⟩
    · rintro j ys H2 hj ⟨q,e⟩
      obtain⟨u,eu,pu⟩:=ent.2 j hj
      refine⟨⟨_,_,SqT.of (q _ _ hp),eu⟩,fun y' H' hy'=>?_⟩
      obtain⟨rfl,hy'⟩:=hy'
      have:=hy' _ (SqT.of (q _ _ hp))
      rw[eu]at this
      cases this
      refine⟨⟨[some _],rfl,rfl⟩,_,rfl,_,rfl,_,rfl,R,_,_,_,n,B j,y,m,m',rfl,⟨hk.same q,(KindR.Row.same q.t pu).seq,KindR.Seq.same q hy,hz⟩,fun v H3 s3 f3 z3=>?_⟩
      exact⟨q.trans s3,(e.mono fun _ _ _ z=>KindR.Wt.same s3.t z).snoc ⟨f3,z3⟩⟩
    · rintro ys H2 ⟨q,e⟩
      exact⟨_,SqT.of (q _ _ hp),by rw[ent.1];exact Nat.le_refl _⟩
    · rintro ys H2 l ⟨q,e⟩ nl
      have s1':=a0g (o:=.lst ys) nl
      refine⟨l,ys,rfl,.inl ⟨SqL.of a0d,fun l2 n2=>?_⟩⟩
      have s2:=a0g (o:=.tup ys) n2
      exact k _ _ (q.trans (s1'.trans s2)) ⟨l2,ys,rfl,a0d,e.mono fun _ _ _ z=>KindR.Wt.same (s1'.trans s2).t z⟩
def Dr(H:Hp)(a:Addr):Prop:=∃x:Int,H a=some (.lst [.int x])∨∃d:Int,H a=some (.lst [.int d,.int x])
def SameX(a:Addr)(H H':Hp):Prop:=∀b o,b≠a→H b=some o→H' b=some o
theorem SameX.refl(a:Addr)(H:Hp):SameX a H H:=fun _ _ _ h=>h
theorem SameX.trans{a:Addr}{H H1 H2:Hp}(x:SameX a H H1)(y:SameX a H1 H2):SameX a H H2:=fun b o n h=>y b o n (x b o n h)
theorem SameX.upd{a:Addr}{H:Hp}{o:HO}:SameX a H (upd H a o):=fun b u n h=>by rw[b0b n];exact h
theorem SameX.of{a:Addr}{H H':Hp}(x:Same H H'):SameX a H H':=fun b o _ h=>x b o h
def sp_next:Sp:=fun vs H Q _=>∃(a:Addr) (m:Int),vs=[.ref a,.int m]∧(Dr H a∧0 < m∧m≤1000000000000000)∧∀(r:Int) H',SameX a H H'→Dr H' a→0≤r→r < m→Q (.int r) H'
def sp_state(K:PySem.W.Frag):Sp:=fun vs H Q _=>∃(a:Addr) (ns:List Int),vs=[.ref a]∧SqL K H a (ns.map V.int)∧ns.length≤63∧∀b H',H b=none→Same H H'→Dr H' b→Q (.ref b) H'
theorem small_div{m:Int}(h:0 < m)(h':m≤1000000000000000)(x:Int):CDivB x m:=by
  refine⟨by omega,?_⟩
  have:m.natAbs≤2 ^ 50:=by
    have e:(2:Nat) ^ 50=1125899906842624:=by decide
    omega
  by_cases e:m.natAbs=0
  · rw[e];decide
  · rw[Nat.log2_lt e]
    exact Nat.lt_of_le_of_lt this (Nat.pow_lt_pow_right (by decide) (by decide))
theorem b0d(T:Txt K mg t):FnOk Pr w K mg base CX0 1 t.b1c t.v0r ["_law_state_here","_law_many"] sp_next:=by
  refine T.x0v.ok sc_law_next (fun vs H Q E h=>?_) (fun cdv A outer s H vs Q E hr h=>?_)
  · obtain⟨a,m,rfl,_⟩:=h
    rfl
  · obtain⟨a,m,rfl,⟨⟨x,hD⟩,m0,m1⟩,k⟩:=h
    refine⟨_,(a0c (b0n (a0t c0j (a0z b0l (by rfl) T.z_len PySem.boot_len (a0a (pv 0) a0b)) a0e (a0w _)) (a0c (a0s (i:=2) sc_law_next.nd rfl (Or.inl rfl) (a0x c0f (a0p b0t (pv 0) a0e (fun _ _=>rfl)) (pv 1))) (a0c (ps_asg (a0x m0y (a0p b0t (pv 0) a0e (fun _ _=>rfl)) (pv 1)) (pg_sub (pv 0) a0e j0j)) (a0c (b0n (a0t c0j (a0p b0t (pv 0) a0e (fun _ _=>rfl)) a0e (a0w _)) (a0i (b0f (g0e PySem.F.plainAttrs_list PySem.F.slot_list_pop PySem.F.type_list_pop mt_popAt (pv 0) (a0a a0e a0b)))) a0y) (a0i (a0m (pv 2)))))) a0y) (a0c (ps_asg (a0x c0f (a0x b0x (a0x g0x (a0p b0t (pv 0) a0e (fun _ _=>rfl)) a0e) a0e) a0e) (pg_sub (pv 0) a0e j0j)) (a0i (a0m (a0x c0f (a0x m0y (a0p b0t (pv 0) a0e (fun _ _=>rfl)) a0e) (pv 1)))))),?_⟩
    rcases hD with hD | ⟨d,hD⟩
    · have lc:LenV K (.ref a) H 1:=.inl ⟨_,SqL.of hD,rfl⟩
      refine⟨_,rfl,_,_,rfl,lc,rfl,_,rfl,?_⟩
      refine iteI (fun h=>absurd h (by decide)) (fun _=>?_)
      refine⟨_,rfl,_,_,_,_,rfl,rfl,SqL.of hD,rfl,_,_,rfl,rfl,.inr ⟨by decide,by decide⟩,_,_,rfl,rfl,_,_,rfl,rfl,(show(2305843009213693951:Int)≠0 by decide),?_⟩
      refine⟨_,rfl,_,_,_,_,rfl,rfl,hD,rfl,?_⟩
      refine⟨_,rfl,_,_,_,_,rfl,rfl,SqL.of a0d,rfl,_,_,rfl,rfl,⟨by decide,by decide⟩,_,rfl,_,_,rfl,rfl,(show m≠0 by omega),?_⟩
      exact k _ _ SameX.upd ⟨_,.inl a0d⟩ (Int.fmod_nonneg_of_pos _ m0) (Int.fmod_lt_of_pos _ m0)
    · have lc:LenV K (.ref a) H 2:=.inl ⟨_,SqL.of hD,rfl⟩
      refine⟨_,rfl,_,_,rfl,lc,rfl,_,rfl,?_⟩
      refine iteI (fun _=>?_) (fun h=>absurd rfl h)
      refine⟨_,rfl,_,_,_,_,rfl,rfl,SqL.of hD,rfl,_,rfl,_,_,rfl,rfl,(show m≠0 by omega),?_⟩
      refine⟨_,rfl,_,_,_,_,rfl,rfl,SqL.of hD,rfl,_,rfl,_,_,rfl,rfl,small_div m0 m1 _,?_⟩
      refine⟨_,rfl,_,_,_,_,rfl,rfl,hD,rfl,?_⟩
      refine⟨_,rfl,_,_,_,_,rfl,rfl,SqL.of a0d,rfl,rfl,_,rfl,?_⟩
      refine iteI (fun _=>?_) (fun _=>?_)
      · refine⟨_,rfl,.inl ⟨rfl,_,SqL.of a0d⟩,_,_,_,_,_,rfl,rfl,a0d,(by decide),(by decide),rfl,rfl,?_⟩
        refine⟨_,rfl,?_⟩
        exact k _ _ (SameX.upd.trans SameX.upd) ⟨x,.inl a0d⟩ (Int.fmod_nonneg_of_pos _ m0) (Int.fmod_lt_of_pos _ m0)
      · refine⟨_,rfl,?_⟩
        exact k _ _ SameX.upd ⟨x,.inr ⟨_,a0d⟩⟩ (Int.fmod_nonneg_of_pos _ m0) (Int.fmod_lt_of_pos _ m0)
theorem ok_law_state(T:Txt K mg t):FnOk Pr w K mg base CX0 1 t.x0y t.u0t ["_law_script"] (sp_state K):=by
  refine T.t0r.ok sc_law_state (fun vs H Q E h=>?_) (fun cdv A outer s H vs Q E hr h=>?_)
  · obtain⟨a,ns,rfl,_⟩:=h
    rfl
  · obtain⟨a,ns,rfl,hS,hlen,k⟩:=h
    refine⟨_,(a0c (a0s (i:=1) sc_law_state.nd rfl (Or.inl rfl) a0e) (a0c (c0i PassesOwn.never rfl (k0b (d0k sl_list (pv 0) e0v (e0u a0e))) (a0u (i:=2) sc_law_state.nd rfl (Or.inl rfl)) (a0i (a0s (i:=1) sc_law_state.nd rfl (Or.inl rfl) (a0x c0f (a0x b0x (a0x b0x (a0x g0x (pv 1) a0e) (a0x c0f (pv 2) (a0x op_pow a0e a0e))) a0e) a0e)))) (a0c (b0n (PW.pt (j0z (a0t op_gt (a0z b0l (by rfl) T.z_len PySem.boot_len (a0a (pv 0) a0b)) a0e (a0w _)) (j0z (a0t op_gt (a0p b0t (pv 0) a0e (fun _ _=>rfl)) a0e (a0w _)) (j0y (a0t c0j (a0x c0f (a0p b0t (pv 0) a0e (fun _ _=>rfl)) a0e) a0e (a0w _)))))) (a0i (a0m (c0p (a0a (a0x m0y (a0p b0t (pv 0) a0e (fun _ _=>rfl)) a0e) (a0a (pv 1) a0b))))) a0y) (a0i (a0m (c0p (a0a (pv 1) a0b))))))),?_⟩
    refine⟨_,rfl,_,rfl,_,_,rfl,hS,fun c1 hc1=>?_⟩
    have ec:cutV (ns.map V.int) none (some 200)=(ns.take 200).map V.int:=by
      rw[show(200:Int)=((200:Nat):Int)from rfl,cut_take,List.map_take]
    have s1:=a0g (o:=.lst (cutV (ns.map V.int) none (some 200))) hc1
    have k1:=a0d (H:=H) (a:=c1) (o:=.lst (cutV (ns.map V.int) none (some 200)))
    have hS1:=s1.seq hS
    clear hc1
    revert s1 k1 hS1
    generalize upd H c1 (.lst (cutV (ns.map V.int) none (some 200)))=H1
    intro s1 k1 hS1
    rw[ec]at k1
    refine⟨c1,rfl,⟨_,SqL.of k1⟩,h0g (K:=K) (a:=c1) (xs:=(ns.take 200).map V.int) (fun i σ H'=>∃(x:Int) (v:Option V),σ=[some (.ref a),some (.int x),v]∧H'=H1) ⟨_,_,rfl,rfl⟩ (fun i σ H' _ ⟨_,_,_,e⟩=>e▸SqL.of k1) ?_ ?_⟩
    · rintro i y σ H' hi ⟨x,v,rfl,rfl⟩
      obtain⟨z,rfl⟩:∃z,y=V.int z:=by
        rw[List.getElem?_map]at hi
        cases e:(ns.take 200)[i]? with
        | none=>rw[e]at hi;cases hi
        | some z=>rw[e]at hi;exact⟨z,(Option.some.inj hi).symm⟩
      refine⟨_,rfl,_,_,rfl,rfl,.inr ⟨by decide,by decide⟩,_,rfl,_,_,rfl,rfl,⟨by decide,by decide,by decide⟩,_,_,rfl,rfl,(show((10:Int) ^ (30:Int).toNat)≠0 by decide),_,_,rfl,rfl,_,_,rfl,rfl,_,_,rfl,rfl,(show(2305843009213693951:Int)≠0 by decide),?_⟩
      exact⟨_,_,rfl,rfl⟩
    · rintro σ H' ⟨x,v,rfl,rfl⟩
      have lc:LenV K (.ref a) H' (ns.map V.int).length:=.inl ⟨_,hS1,rfl⟩
      rw[List.length_map]at lc
      have last:tSeq tNext (tRet (tLst (tCons (tVar 1) tNil))) { nx:=fun _ H''=>Q .non H'',rt:=Q } [some (.ref a),some (.int x),v] H':=by
        refine⟨_,rfl,(by show 1≤sizeLine;decide),fun b hb=>?_⟩
        exact k b _ (s1.free hb) (s1.trans (a0g hb)) ⟨x,.inl a0d⟩
      refine⟨_,rfl,_,_,rfl,lc,_,_,rfl,rfl,_,rfl,?_⟩
      refine iteP (fun h0=>?_) (fun _=>?_)
      · obtain⟨n0,g0⟩:∃n,ns[0]? = some n:=⟨ns[0]'(by omega),by simp⟩
        have a0:atI (ns.map V.int) 0=some (V.int n0):=e0k (j:=0) (by rw[List.getElem?_map,g0];rfl)
        refine⟨_,rfl,_,_,_,_,rfl,rfl,hS1,a0,_,_,rfl,rfl,_,rfl,?_⟩
        refine iteP (fun _=>?_) (fun _=>?_)
        · refine⟨_,rfl,_,_,_,_,rfl,rfl,hS1,a0,_,_,rfl,rfl,(show(2:Int)≠0 by decide),rfl,_,rfl,?_⟩
          refine iteI (fun _=>?_) (fun _=>?_)
          · refine⟨_,rfl,_,_,_,_,rfl,rfl,hS1,a0,_,_,rfl,rfl,⟨by decide,by decide⟩,_,rfl,(by show 2≤sizeLine;decide),fun b hb=>?_⟩
            exact k b _ (s1.free hb) (s1.trans (a0g hb)) ⟨x,.inr ⟨_,a0d⟩⟩
          · exact last
        · exact last
      · exact last
theorem Dr.same{H H':Hp}{a:Addr}(e:Same H H')(h:Dr H a):Dr H' a:=by
  obtain⟨x,h | ⟨d,h⟩⟩:=h
  · exact⟨x,.inl (e _ _ h)⟩
  · exact⟨x,.inr ⟨d,e _ _ h⟩⟩
theorem Dr.lst{H:Hp}{a:Addr}(h:Dr H a):∃xs,H a=some (.lst xs):=by
  obtain⟨x,h | ⟨d,h⟩⟩:=h
  · exact⟨_,h⟩
  · exact⟨_,h⟩
theorem SameX.tt{a:Addr}{H H':Hp}(s:SameX a H H')(d:Dr H a):SameT H H':=fun p vs h=>s p _ (by
  rintro rfl
  obtain⟨xs,e⟩:=d.lst
  rw[h]at e;cases e) h
theorem KAt.samx{C:Addr}{fs:List (Str × V)}{a:Addr}{H H':Hp}{k:V}(s:SameX a H H')(d:Dr H a)(h:KAt C fs H k):KAt C fs H' k:=by
  obtain⟨p,dx,rfl,h⟩:=h
  exact⟨p,dx,rfl,s p _ (by
    rintro rfl
    obtain⟨xs,e⟩:=d.lst
    rw[h]at e;cases e) h⟩
theorem SameX.tup{a p:Addr}{H:Hp}{o:HO}(n:H p=none)(d:Dr H a):SameX a H (L2.upd H p o)∧Dr (L2.upd H p o) a:=⟨.of (a0g n),d.same (a0g n)⟩
def sp_low:Sp:=fun vs H Q _=>∃a b,vs=[.int a,.int b]∧0 < b∧∀v H',Same H H'→IsF H' v (tp a b) (bt a b)→Q v H'
theorem i0b(T:Txt K mg t):FnOk Pr w K mg base CX0 36 t.b1u t.y0t ["_law_top","_law_bottom"] sp_low:=by
  refine T.y0p.ok sc_law_low (fun vs H Q E h=>?_) (fun cdv A outer s H vs Q E hr h=>?_)
  · obtain⟨a,b,rfl,_⟩:=h
    rfl
  · obtain⟨a,b,rfl,pb,k⟩:=h
    have hd:dv b a≠0:=by rw[dv_comm];exact Int.ne_of_gt (dv_pos (by omega))
    refine⟨_,(a0c (a0s (i:=2) sc_law_low.nd rfl (Or.inl rfl) (pv 0)) (a0c (a0s (i:=3) sc_law_low.nd rfl (Or.inl rfl) (pv 1)) (a0c (m0w PassesOwn.never (a0t op_ne (pv 2) a0e (a0w _)) (a0i (ps_par (i:=2) (j:=3) rfl sc_law_low.nd rfl rfl (by decide) rfl rfl (a0a (a0x c0f (pv 3) (pv 2)) (a0a (pv 2) a0b)) rfl))) (a0c (a0s (i:=3) sc_law_low.nd rfl (Or.inl rfl) (a0z n0u (by rfl) T.z_abs boot_abs (a0a (pv 3) a0b))) (a0i (a0m (b0q (a0a (a0x (j0n hr (by decide) tree0) (pv 0) (pv 3)) (a0a (a0x (j0n hr (by decide) tree0) (pv 1) (pv 3)) a0b))))))))),?_⟩
    refine⟨_,rfl,_,rfl,?_⟩
    refine⟨fun m σ H'=>∃x y,σ=[some (.int a),some (.int b),some (.int x),some (.int y)]∧m=x.natAbs∧dv y x=dv b a∧H'=H,⟨_,_,_,rfl,rfl,rfl,rfl⟩,?_⟩
    rintro m σ H' ⟨x,y,rfl,rfl,e,rfl⟩
    refine⟨_,rfl,rfl,_,rfl,?_⟩
    refine iteNI (fun h0=>?_) (fun h0=>?_)
    · refine⟨fun σ' H''=>∃x' y',σ'=[some (.int a),some (.int b),some (.int x'),some (.int y')]∧x'.natAbs < x.natAbs∧dv y' x'=dv b a∧H''=H',fun σ' H'' ⟨x',y',e1,e2,e3,e4⟩=>⟨_,e2,x',y',e1,rfl,e3,e4⟩,?_⟩
      refine⟨_,rfl,_,rfl,_,_,rfl,rfl,h0,_,rfl,_,_,rfl,?_⟩
      exact⟨_,_,rfl,fmod_abs_lt _ _ h0,l_turn e,rfl⟩
    · refine⟨_,rfl,_,rfl,?_⟩
      (try dsimp only)
      rw[out2 e h0]
      refine⟨_,rfl,_,rfl,_,_,rfl,rfl,hd,_,rfl,_,rfl,_,_,rfl,rfl,hd,(by show 2≤sizeLine;decide),fun p hp=>?_⟩
      refine k _ _ (a0g hp) ?_
      (try dsimp only)
      rw[dv_comm b a,(fr_is pb).1,(fr_is pb).2]
      exact IsF.new
def sp_lbin(T:Txt K mg t)(f:∀S:SR,S.W→S.W→S.W):Sp:=fun vs H Q _=>∃(R:KindR Pr w K mg base),∃nm p so x y a b m n,So T R nm p∧vs=[so,x,y]∧
  (SortAt H so nm p∧R.is H x a∧R.is H y b∧R.S.sz m a∧R.S.sz n b∧m+n≤60000000)∧∀v H',Same H H'→R.is H' v (f R.S a b)→Q v H'
theorem k0d(T:Txt K mg t):FnOk Pr w K mg base CX0 37 t.a1q t.v0u ["_law_sort_here","_law_x","_law_y"] (sp_lbin (w:=w) (base:=base) T fun S=>S.add):=by
  refine T.w0a.ok sc_law_plus (fun vs H Q E h=>?_) (fun cdv A outer s H vs Q E hr h=>?_)
  · obtain⟨R,nm,p,so,x,y,a,b,m,n,_,rfl,_⟩:=h
    rfl
  · obtain⟨R,nm,p,so,x,y,a,b,m,n,hS,rfl,⟨⟨q,rfl,hq⟩,hx,hy,sa,sb,hmn⟩,k⟩:=h
    refine⟨_,(a0c (b0n (a0t c0j (a0p a0n (pv 0) a0e (fun _ _=>rfl)) b0e (a0w _)) (a0i (a0m (a0f (i0b T) hr.m rfl T.y0w T.y0p.kp T.z0c .nil a0k (a0a (a0x b0x (a0x d0r (a0p a0n (pv 1) a0e (fun _ _=>rfl)) (a0p a0n (pv 2) a0e (fun _ _=>rfl))) (a0x d0r (a0p a0n (pv 2) a0e (fun _ _=>rfl)) (a0p a0n (pv 1) a0e (fun _ _=>rfl)))) (a0a (a0x d0r (a0p a0n (pv 1) a0e (fun _ _=>rfl)) (a0p a0n (pv 2) a0e (fun _ _=>rfl))) a0b))))) a0y) (a0c (b0n (a0t c0j (a0p a0n (pv 0) a0e (fun _ _=>rfl)) b0e (a0w _)) (a0i (a0m (a0x c0f (a0x b0x (pv 1) (pv 2)) (a0p a0n (pv 0) a0e (fun _ _=>rfl))))) a0y) (a0c (b0n (a0t c0j (a0p a0n (pv 0) a0e (fun _ _=>rfl)) b0e (a0w _)) (a0i (a0m (pe_or (pv 1) (f0p (pv 2))))) a0y) (a0c (b0n (PW.pt (j0x (a0t e0x (pv 1) c0z (a0w _)) (i0m (PW.pt (j0z (a0t op_notN (pv 2) c0z (a0w _)) (j0y (a0t op_lt (pv 2) (pv 1) (a0w _)))))))) (a0i (a0m (pv 2))) a0y) (a0i (a0m (pv 1))))))),?_⟩
    cases hS with
    | fr=>
      obtain⟨px,rfl,hx⟩:=hx
      obtain⟨py,rfl,hy⟩:=hy
      have sa:a.sz m:=sa
      have sb:b.sz n:=sb
      refine⟨_,rfl,_,_,_,_,rfl,rfl,SqT.of hq,rfl,rfl,_,rfl,?_⟩
      rw[show decide (V.str ("fractions":Str)=V.str ("fractions":Str))=true by decide +kernel]
      refine iteT ?_
      refine⟨_,rfl,_,_,_,_,rfl,rfl,SqT.of hx,rfl,_,rfl,_,_,_,_,rfl,rfl,SqT.of hy,rfl,_,_,rfl,rfl,mulG (n:=n) sa.1 sb.2 (by omega),_,rfl,_,_,_,_,rfl,rfl,SqT.of hy,rfl,_,rfl,_,_,_,_,rfl,rfl,SqT.of hx,rfl,_,_,rfl,rfl,mulG (n:=m) sb.1 sa.2 (by omega),_,_,rfl,rfl,?_⟩
      refine⟨_,rfl,_,_,_,_,rfl,rfl,SqT.of hx,rfl,_,rfl,_,_,_,_,rfl,rfl,SqT.of hy,rfl,_,_,rfl,rfl,mulG (n:=n) sa.2 sb.2 (by omega),_,_,rfl,Int.mul_pos a.p b.p,fun v H' s' f'=>k v H' s' f'⟩
    | re p hp hq' hi=>
      cases (show x=.int a.x from hx)
      cases (show y=.int b.x from hy)
      refine⟨_,rfl,_,_,_,_,rfl,rfl,SqT.of hq,rfl,rfl,_,rfl,?_⟩
      rw[show decide (V.str ("residues":Str)=V.str ("fractions":Str))=false by decide +kernel]
      refine iteF ?_
      refine⟨_,rfl,_,_,_,_,rfl,rfl,SqT.of hq,rfl,rfl,_,rfl,?_⟩
      rw[show decide (V.str ("residues":Str)=V.str ("residues":Str))=true by decide +kernel]
      refine iteT ?_
      refine⟨_,rfl,_,rfl,_,_,rfl,rfl,_,rfl,_,_,_,_,rfl,rfl,SqT.of hq,rfl,_,_,rfl,rfl,(show p≠0 by omega),?_⟩
      exact k _ _ (Same.refl _) rfl
    | tr=>
      cases (show x=.bl a from hx)
      cases (show y=.bl b from hy)
      refine⟨_,rfl,_,_,_,_,rfl,rfl,SqT.of hq,rfl,rfl,_,rfl,?_⟩
      rw[show decide (V.str ("truths":Str)=V.str ("fractions":Str))=false by decide +kernel]
      refine iteF ?_
      refine⟨_,rfl,_,_,_,_,rfl,rfl,SqT.of hq,rfl,rfl,_,rfl,?_⟩
      rw[show decide (V.str ("truths":Str)=V.str ("residues":Str))=false by decide +kernel]
      refine iteF ?_
      refine⟨_,rfl,_,_,_,_,rfl,rfl,SqT.of hq,rfl,rfl,_,rfl,?_⟩
      rw[show decide (V.str ("truths":Str)=V.str ("truths":Str))=true by decide +kernel]
      refine iteT ?_
      have k':=k (.bl (a || b)) H (Same.refl _) rfl
      cases a with
      | true=>exact⟨_,rfl,_,rfl,iteT k'⟩
      | false=>exact⟨_,rfl,_,rfl,iteF ⟨_,rfl,k'⟩⟩
    | co=>
      cases (show x=cV a from hx)
      cases (show y=cV b from hy)
      refine⟨_,rfl,_,_,_,_,rfl,rfl,SqT.of hq,rfl,rfl,_,rfl,?_⟩
      rw[show decide (V.str ("costs":Str)=V.str ("fractions":Str))=false by decide +kernel]
      refine iteF ?_
      refine⟨_,rfl,_,_,_,_,rfl,rfl,SqT.of hq,rfl,rfl,_,rfl,?_⟩
      rw[show decide (V.str ("costs":Str)=V.str ("residues":Str))=false by decide +kernel]
      refine iteF ?_
      refine⟨_,rfl,_,_,_,_,rfl,rfl,SqT.of hq,rfl,rfl,_,rfl,?_⟩
      rw[show decide (V.str ("costs":Str)=V.str ("truths":Str))=false by decide +kernel]
      refine iteF ?_
      have k':=k (cV (cAdd a b)) H (Same.refl _) rfl
      cases a with
      | none=>
        refine⟨_,rfl,rfl,_,rfl,?_⟩
        refine iteT ?_
        exact⟨_,rfl,k'⟩
      | some i=>
        refine⟨_,rfl,rfl,_,rfl,?_⟩
        refine iteF ?_
        cases b with
        | none=>
          refine⟨_,rfl,rfl,_,rfl,?_⟩
          (try refine iteF ?_)
          (try refine iteF ?_)
          exact⟨_,rfl,k'⟩
        | some j=>
          refine⟨_,rfl,rfl,_,rfl,?_⟩
          (try refine iteT ?_)
          refine⟨_,rfl,_,rfl,_,_,rfl,rfl,_,rfl,?_⟩
          have k':Q (.int (if j < i then j else i)) H:=k'
          refine iteP (fun h0=>?_) (fun h0=>?_)
          · rw[if_pos h0]at k'
            exact⟨_,rfl,k'⟩
          · rw[if_neg h0]at k'
            exact⟨_,rfl,k'⟩
theorem i0q(T:Txt K mg t):FnOk Pr w K mg base CX0 37 t.x0x t.t0a ["_law_sort_here","_law_x","_law_y"] (sp_lbin (w:=w) (base:=base) T fun S=>S.mul):=by
  refine T.v0c.ok sc_law_times (fun vs H Q E h=>?_) (fun cdv A outer s H vs Q E hr h=>?_)
  · obtain⟨R,nm,p,so,x,y,a,b,m,n,_,rfl,_⟩:=h
    rfl
  · obtain⟨R,nm,p,so,x,y,a,b,m,n,hS,rfl,⟨⟨q,rfl,hq⟩,hx,hy,sa,sb,hmn⟩,k⟩:=h
    refine⟨_,(a0c (b0n (a0t c0j (a0p a0n (pv 0) a0e (fun _ _=>rfl)) b0e (a0w _)) (a0i (a0m (a0f (i0b T) hr.m rfl T.y0w T.y0p.kp T.z0c .nil a0k (a0a (a0x d0r (a0p a0n (pv 1) a0e (fun _ _=>rfl)) (a0p a0n (pv 2) a0e (fun _ _=>rfl))) (a0a (a0x d0r (a0p a0n (pv 1) a0e (fun _ _=>rfl)) (a0p a0n (pv 2) a0e (fun _ _=>rfl))) a0b))))) a0y) (a0c (b0n (a0t c0j (a0p a0n (pv 0) a0e (fun _ _=>rfl)) b0e (a0w _)) (a0i (a0m (a0x c0f (a0x g0x (pv 1) (pv 2)) (a0p a0n (pv 0) a0e (fun _ _=>rfl))))) a0y) (a0c (b0n (a0t c0j (a0p a0n (pv 0) a0e (fun _ _=>rfl)) b0e (a0w _)) (a0i (a0m (f0q (pv 1) (f0p (pv 2))))) a0y) (a0c (b0n (PW.pt (j0x (a0t e0x (pv 1) c0z (a0w _)) (i0m (a0t e0x (pv 2) c0z (a0w _))))) (a0i (a0m c0z)) a0y) (a0i (a0m (a0x b0x (pv 1) (pv 2)))))))),?_⟩
    cases hS with
    | fr=>
      obtain⟨px,rfl,hx⟩:=hx
      obtain⟨py,rfl,hy⟩:=hy
      have sa:a.sz m:=sa
      have sb:b.sz n:=sb
      refine⟨_,rfl,_,_,_,_,rfl,rfl,SqT.of hq,rfl,rfl,_,rfl,?_⟩
      rw[show decide (V.str ("fractions":Str)=V.str ("fractions":Str))=true by decide +kernel]
      refine iteT ?_
      refine⟨_,rfl,_,_,_,_,rfl,rfl,SqT.of hx,rfl,_,rfl,_,_,_,_,rfl,rfl,SqT.of hy,rfl,_,_,rfl,rfl,mulG (n:=n) sa.1 sb.1 (by omega),?_⟩
      refine⟨_,rfl,_,_,_,_,rfl,rfl,SqT.of hx,rfl,_,rfl,_,_,_,_,rfl,rfl,SqT.of hy,rfl,_,_,rfl,rfl,mulG (n:=n) sa.2 sb.2 (by omega),_,_,rfl,Int.mul_pos a.p b.p,fun v H' s' f'=>k v H' s' f'⟩
    | re p hp hq' hi=>
      cases (show x=.int a.x from hx)
      cases (show y=.int b.x from hy)
      have cm:CMul a.x b.x:=.inl ⟨by have:=a.h0;omega,by have:=a.h1;omega⟩
      refine⟨_,rfl,_,_,_,_,rfl,rfl,SqT.of hq,rfl,rfl,_,rfl,?_⟩
      rw[show decide (V.str ("residues":Str)=V.str ("fractions":Str))=false by decide +kernel]
      refine iteF ?_
      refine⟨_,rfl,_,_,_,_,rfl,rfl,SqT.of hq,rfl,rfl,_,rfl,?_⟩
      rw[show decide (V.str ("residues":Str)=V.str ("residues":Str))=true by decide +kernel]
      refine iteT ?_
      refine⟨_,rfl,_,rfl,_,_,rfl,rfl,cm,_,rfl,_,_,_,_,rfl,rfl,SqT.of hq,rfl,_,_,rfl,rfl,(show p≠0 by omega),?_⟩
      exact k _ _ (Same.refl _) rfl
    | tr=>
      cases (show x=.bl a from hx)
      cases (show y=.bl b from hy)
      refine⟨_,rfl,_,_,_,_,rfl,rfl,SqT.of hq,rfl,rfl,_,rfl,?_⟩
      rw[show decide (V.str ("truths":Str)=V.str ("fractions":Str))=false by decide +kernel]
      refine iteF ?_
      refine⟨_,rfl,_,_,_,_,rfl,rfl,SqT.of hq,rfl,rfl,_,rfl,?_⟩
      rw[show decide (V.str ("truths":Str)=V.str ("residues":Str))=false by decide +kernel]
      refine iteF ?_
      refine⟨_,rfl,_,_,_,_,rfl,rfl,SqT.of hq,rfl,rfl,_,rfl,?_⟩
      rw[show decide (V.str ("truths":Str)=V.str ("truths":Str))=true by decide +kernel]
      refine iteT ?_
      have k':=k (.bl (a && b)) H (Same.refl _) rfl
      cases a with
      | true=>exact⟨_,rfl,_,rfl,iteT ⟨_,rfl,k'⟩⟩
      | false=>exact⟨_,rfl,_,rfl,iteF k'⟩
    | co=>
      cases (show x=cV a from hx)
      cases (show y=cV b from hy)
      refine⟨_,rfl,_,_,_,_,rfl,rfl,SqT.of hq,rfl,rfl,_,rfl,?_⟩
      rw[show decide (V.str ("costs":Str)=V.str ("fractions":Str))=false by decide +kernel]
      refine iteF ?_
      refine⟨_,rfl,_,_,_,_,rfl,rfl,SqT.of hq,rfl,rfl,_,rfl,?_⟩
      rw[show decide (V.str ("costs":Str)=V.str ("residues":Str))=false by decide +kernel]
      refine iteF ?_
      refine⟨_,rfl,_,_,_,_,rfl,rfl,SqT.of hq,rfl,rfl,_,rfl,?_⟩
      rw[show decide (V.str ("costs":Str)=V.str ("truths":Str))=false by decide +kernel]
      refine iteF ?_
      have k':=k (cV (cMul a b)) H (Same.refl _) rfl
      cases a with
      | none=>
        refine⟨_,rfl,rfl,_,rfl,?_⟩
        (try refine iteT ?_)
        (try refine iteT ?_)
        exact k'
      | some i=>
        refine⟨_,rfl,rfl,_,rfl,?_⟩
        refine iteF ?_
        cases b with
        | none=>
          refine⟨_,rfl,rfl,_,rfl,?_⟩
          (try refine iteT ?_)
          exact k'
        | some j=>
          refine⟨_,rfl,rfl,_,rfl,?_⟩
          (try refine iteF ?_)
          exact⟨_,rfl,_,rfl,_,_,rfl,rfl,k'⟩
def nts(p1:Addr):List (Key × V):=[(Sum.inr "fractions",.ref p1),(Sum.inr "residues",.int 0),(Sum.inr "costs",.non),(Sum.inr "truths",.bl false)]
theorem nts_fr(p1:Addr):valV (c0v [] (nts p1)) (Sum.inr "fractions")=some (.ref p1):=by kernel_rfl
theorem nts_re(p1:Addr):valV (c0v [] (nts p1)) (Sum.inr "residues")=some (.int 0):=by kernel_rfl
theorem nts_co(p1:Addr):valV (c0v [] (nts p1)) (Sum.inr "costs")=some .non:=by kernel_rfl
theorem nts_tr(p1:Addr):valV (c0v [] (nts p1)) (Sum.inr "truths")=some (.bl false):=by kernel_rfl
def sp_lnought(T:Txt K mg t):Sp:=fun vs H Q _=>∃(R:KindR Pr w K mg base),∃nm p so,So T R nm p∧vs=[so]∧SortAt H so nm p∧∀v H',Same H H'→R.is H' v R.S.zero→Q v H'
theorem c0l(T:Txt K mg t):FnOk Pr w K mg base CX0 1 t.w0n t.s0n ["_law_sort_here"] (sp_lnought (w:=w) (base:=base) T):=by
  refine T.s0f.ok m0n (fun vs H Q E h=>?_) (fun cdv A outer s H vs Q E hr h=>?_)
  · obtain⟨R,nm,p,so,_,rfl,_⟩:=h
    rfl
  · obtain⟨R,nm,p,so,hS,rfl,⟨q,rfl,hq⟩,k⟩:=h
    refine⟨_,(a0i (a0m (pe_dget (hu_of hr) (pe_disp (d0j b0e (b0q (a0a a0e (a0a a0e a0b))) (d0j b0e a0e (d0j b0e c0z (d0j b0e g0w pps_nil)))) rfl rfl (fun h=>by cases h) (by decide)) (a0p a0n (pv 0) a0e (fun _ _=>rfl)) (fun _ _=>rfl)))),?_⟩
    intro d nd
    refine⟨(by show 2≤sizeLine;decide),fun p1 n1=>?_⟩
    have s1:=a0g (o:=.dK []) nd
    have s2:=a0g (o:=.tup [.int 0,.int 1]) n1
    have nd1:p1≠d:=fun e=>by rw[e,a0d]at n1;cases n1
    have s3:Same H (upd (upd (upd H d (.dK [])) p1 (.tup [.int 0,.int 1])) d (.dK (c0v [] (nts p1)))):=fun b o e=>by
      rw[b0b (a0v e nd)]
      exact(s1.trans s2) _ _ e
    refine⟨s2 _ _ a0d,nts p1,rfl,(by show 4≤15;decide),?_⟩
    refine⟨_,rfl,_,_,_,_,rfl,rfl,SqT.of (s3 _ _ hq),rfl,?_⟩
    have g:=DGet.k (H:=upd (upd (upd H d (.dK [])) p1 (.tup [.int 0,.int 1])) d (.dK (c0v [] (nts p1)))) (k:=Sum.inr nm) a0d
    cases hS with
    | fr=>
      rw[nts_fr]at g
      exact⟨_,_,rfl,g,k _ _ s3 ⟨p1,rfl,by rw[b0b nd1,a0d];rfl⟩⟩
    | re p hp hq' hi=>
      rw[nts_re]at g
      exact⟨_,_,rfl,g,k _ _ s3 rfl⟩
    | co=>
      rw[nts_co]at g
      exact⟨_,_,rfl,g,k _ _ s3 rfl⟩
    | tr=>
      rw[nts_tr]at g
      exact⟨_,_,rfl,g,k _ _ s3 rfl⟩
theorem nine9{r:Int}(h0:0≤r)(h1:r < 9):∃p:Int,atI ([2,3,5,7,11,13,101,65537,999983].map V.int) r=some (V.int p)∧2≤p∧p≤1000000∧isP p=true:=by
  rcases(by omega:r=0∨r=1∨r=2∨r=3∨r=4∨r=5∨r=6∨r=7∨r=8)with rfl | rfl | rfl | rfl | rfl | rfl | rfl | rfl | rfl
  · exact⟨2,rfl,by decide,by decide,p2⟩
  · exact⟨3,rfl,by decide,by decide,p3⟩
  · exact⟨5,rfl,by decide,by decide,p5⟩
  · exact⟨7,rfl,by decide,by decide,p7⟩
  · exact⟨11,rfl,by decide,by decide,p11⟩
  · exact⟨13,rfl,by decide,by decide,p13⟩
  · exact⟨101,rfl,by decide,by decide,p101⟩
  · exact⟨65537,rfl,by decide,by decide,p65537⟩
  · exact⟨999983,rfl,by decide,by decide,p999983⟩
def sp_sort(T:Txt K mg t):Sp:=fun vs H Q _=>∃(a:Addr) (wy:Int),vs=[.ref a,.int wy]∧(Dr H a∧0≤wy∧wy < 4)∧∀(R:KindR Pr w K mg base) nm p v H',So T R nm p→SortAt H' v nm p→SameX a H H'→Dr H' a→Q v H'
theorem ok_law_sort(T:Txt K mg t):FnOk Pr w K mg base CX0 2 t.a1j t.w0u ["_law_state_here","_law_way"] (sp_sort (w:=w) (base:=base) T):=by
  refine T.v0z.ok sc_law_sort (fun vs H Q E h=>?_) (fun cdv A outer s H vs Q E hr h=>?_)
  · obtain⟨a,wy,rfl,_⟩:=h
    rfl
  · obtain⟨a,wy,rfl,⟨hD,w0,w4⟩,k⟩:=h
    refine⟨_,(a0c (a0s (i:=2) sc_law_sort.nd rfl (Or.inl rfl) (a0p b0t (c0p (a0a a0e (a0a a0e (a0a a0e (a0a a0e (a0a a0e (a0a a0e (a0a a0e (a0a a0e (a0a a0e a0b)))))))))) (a0f (b0d T) hr.m rfl T.w0q T.x0v.kp T.x0r .nil a0k (a0a (pv 0) (a0a a0e a0b))) (fun _ _=>rfl))) (a0i (a0m (a0p b0t (c0p (a0a (b0q (a0a b0e (a0a a0e a0b))) (a0a (b0q (a0a b0e (a0a (pv 2) a0b))) (a0a (b0q (a0a b0e (a0a a0e a0b))) (a0a (b0q (a0a b0e (a0a a0e a0b))) a0b))))) (pv 1) (fun _ _=>rfl))))),?_⟩
    refine⟨(by show 9≤sizeLine;decide),fun l0 h0=>?_⟩
    have e0:=a0g (o:=.lst ([2,3,5,7,11,13,101,65537,999983].map V.int)) h0
    have la:l0≠a:=fun e=>by obtain⟨xs,z⟩:=hD.lst;rw[← e,h0]at z;cases z
    refine⟨_,rfl,a,9,rfl,⟨hD.same e0,by decide,by decide⟩,fun r H1 s1 d1 r0 r1=>?_⟩
    obtain⟨p,ap,hp⟩:=nine9 r0 r1
    refine⟨_,_,_,_,rfl,rfl,SqL.of (s1 _ _ la a0d),ap,?_⟩
    have q1:SameX a H H1:=(SameX.of e0).trans s1
    refine⟨(by show 2≤sizeLine;decide),fun p1 n1=>⟨_,rfl,(by show 2≤sizeLine;decide),fun p2 n2=>⟨(by show 2≤sizeLine;decide),fun p3 n3=>⟨(by show 2≤sizeLine;decide),fun p4 n4=>⟨(by show 4≤sizeLine;decide),fun l nl=>?_⟩⟩⟩⟩⟩
    have t1:=a0g (o:=.tup [.str "fractions",.int 0]) n1
    have t2:=a0g (o:=.tup [.str "residues",.int p]) n2
    have t3:=a0g (o:=.tup [.str "costs",.int 0]) n3
    have t4:=a0g (o:=.tup [.str "truths",.int 0]) n4
    have t5:=a0g (o:=.lst [V.ref p1,.ref p2,.ref p3,.ref p4]) nl
    have tt:=(((t1.trans t2).trans t3).trans t4).trans t5
    have q2:=q1.trans (.of tt)
    have d2:=d1.same tt
    rcases(by omega:wy=0∨wy=1∨wy=2∨wy=3)with rfl | rfl | rfl | rfl
    · exact⟨_,rfl,_,_,_,_,rfl,rfl,SqL.of a0d,rfl,k _ _ _ _ _ .fr ⟨p1,rfl,(((t2.trans t3).trans t4).trans t5) _ _ a0d⟩ q2 d2⟩
    · exact⟨_,rfl,_,_,_,_,rfl,rfl,SqL.of a0d,rfl,k _ _ _ _ _ (.re p hp.1 hp.2.1 hp.2.2) ⟨p2,rfl,((t3.trans t4).trans t5) _ _ a0d⟩ q2 d2⟩
    · exact⟨_,rfl,_,_,_,_,rfl,rfl,SqL.of a0d,rfl,k _ _ _ _ _ .co ⟨p3,rfl,(t4.trans t5) _ _ a0d⟩ q2 d2⟩
    · exact⟨_,rfl,_,_,_,_,rfl,rfl,SqL.of a0d,rfl,k _ _ _ _ _ .tr ⟨p4,rfl,t5 _ _ a0d⟩ q2 d2⟩
def sp_kind(T:Txt K mg t):Sp:=fun vs H Q _=>∃(R:KindR Pr w K mg base),∃nm p so,So T R nm p∧vs=[so]∧SortAt H so nm p∧∀v H',Same H H'→KAt R.C R.fs H' v→Q v H'
theorem ok_law_kind(T:Txt K mg t):FnOk Pr w K mg base CX0 4 t.a1b t.x0m ["_law_sort_here"] (sp_kind (w:=w) (base:=base) T):=by
  refine T.x0f.ok sc_law_kind (fun vs H Q E h=>?_) (fun cdv A outer s H vs Q E hr h=>?_)
  · obtain⟨R,nm,p,so,_,rfl,_⟩:=h
    rfl
  · obtain⟨R,nm,p,so,hS,rfl,⟨q,rfl,hq⟩,k⟩:=h
    refine⟨_,(a0c (b0n (a0t c0j (a0p a0n (pv 0) a0e (fun _ _=>rfl)) b0e (a0w _)) (a0i (a0m (m0x T.t0u rfl T.v0g))) a0y) (a0c (b0n (a0t c0j (a0p a0n (pv 0) a0e (fun _ _=>rfl)) b0e (a0w _)) (a0i (a0m (pe_make T.w0g (f0l T) hr.m rfl T.w0d T.n0v .nil a0k (a0a (a0p a0n (pv 0) a0e (fun _ _=>rfl)) a0b)))) a0y) (a0c (b0n (a0t c0j (a0p a0n (pv 0) a0e (fun _ _=>rfl)) b0e (a0w _)) (a0i (a0m (m0x T.b1l rfl T.c1g))) a0y) (a0i (a0m (m0x T.a1o rfl T.z0y)))))),?_⟩
    cases hS with
    | fr=>
      refine⟨_,rfl,_,_,_,_,rfl,rfl,SqT.of hq,rfl,rfl,_,rfl,?_⟩
      rw[show decide (V.str ("fractions":Str)=V.str ("fractions":Str))=true by decide +kernel]
      refine iteT ?_
      intro x dx nx ndx nex
      exact k _ _ (g0m nx ndx) ⟨_,_,rfl,a0d⟩
    | re p hp hq' hi=>
      refine⟨_,rfl,_,_,_,_,rfl,rfl,SqT.of hq,rfl,rfl,_,rfl,?_⟩
      rw[show decide (V.str ("residues":Str)=V.str ("fractions":Str))=false by decide +kernel]
      refine iteF ?_
      refine⟨_,rfl,_,_,_,_,rfl,rfl,SqT.of hq,rfl,rfl,_,rfl,?_⟩
      rw[show decide (V.str ("residues":Str)=V.str ("residues":Str))=true by decide +kernel]
      refine iteT ?_
      refine⟨_,rfl,_,_,_,_,rfl,rfl,SqT.of hq,rfl,fun x dx nx ndx nex=>⟨x,dx,_,rfl,⟨hp,hq',hi⟩,a0d,rfl,?_⟩⟩
      rw[upd_upd]
      exact k _ _ (g0m nx ndx) ⟨_,_,rfl,a0d⟩
    | co=>
      refine⟨_,rfl,_,_,_,_,rfl,rfl,SqT.of hq,rfl,rfl,_,rfl,?_⟩
      rw[show decide (V.str ("costs":Str)=V.str ("fractions":Str))=false by decide +kernel]
      refine iteF ?_
      refine⟨_,rfl,_,_,_,_,rfl,rfl,SqT.of hq,rfl,rfl,_,rfl,?_⟩
      rw[show decide (V.str ("costs":Str)=V.str ("residues":Str))=false by decide +kernel]
      refine iteF ?_
      refine⟨_,rfl,_,_,_,_,rfl,rfl,SqT.of hq,rfl,rfl,_,rfl,?_⟩
      rw[show decide (V.str ("costs":Str)=V.str ("costs":Str))=true by decide +kernel]
      refine iteT ?_
      intro x dx nx ndx nex
      exact k _ _ (g0m nx ndx) ⟨_,_,rfl,a0d⟩
    | tr=>
      refine⟨_,rfl,_,_,_,_,rfl,rfl,SqT.of hq,rfl,rfl,_,rfl,?_⟩
      rw[show decide (V.str ("truths":Str)=V.str ("fractions":Str))=false by decide +kernel]
      refine iteF ?_
      refine⟨_,rfl,_,_,_,_,rfl,rfl,SqT.of hq,rfl,rfl,_,rfl,?_⟩
      rw[show decide (V.str ("truths":Str)=V.str ("residues":Str))=false by decide +kernel]
      refine iteF ?_
      refine⟨_,rfl,_,_,_,_,rfl,rfl,SqT.of hq,rfl,rfl,_,rfl,?_⟩
      rw[show decide (V.str ("truths":Str)=V.str ("costs":Str))=false by decide +kernel]
      refine iteF ?_
      intro x dx nx ndx nex
      exact k _ _ (g0m nx ndx) ⟨_,_,rfl,a0d⟩
def ots(p1:Addr):List (Key × V):=[(Sum.inr "fractions",.ref p1),(Sum.inr "residues",.int 1),(Sum.inr "costs",.int 0),(Sum.inr "truths",.bl true)]
theorem ots_fr(p1:Addr):valV (c0v [] (ots p1)) (Sum.inr "fractions")=some (.ref p1):=by kernel_rfl
theorem ots_re(p1:Addr):valV (c0v [] (ots p1)) (Sum.inr "residues")=some (.int 1):=by kernel_rfl
theorem ots_co(p1:Addr):valV (c0v [] (ots p1)) (Sum.inr "costs")=some (.int 0):=by kernel_rfl
theorem ots_tr(p1:Addr):valV (c0v [] (ots p1)) (Sum.inr "truths")=some (.bl true):=by kernel_rfl
def sp_lone(T:Txt K mg t):Sp:=fun vs H Q _=>∃(R:KindR Pr w K mg base),∃nm p so,So T R nm p∧vs=[so]∧SortAt H so nm p∧∀v H',Same H H'→R.is H' v R.S.one→Q v H'
theorem ok_law_one(T:Txt K mg t):FnOk Pr w K mg base CX0 1 t.c1e t.y0j ["_law_sort_here"] (sp_lone (w:=w) (base:=base) T):=by
  refine T.y0r.ok sc_law_one (fun vs H Q E h=>?_) (fun cdv A outer s H vs Q E hr h=>?_)
  · obtain⟨R,nm,p,so,_,rfl,_⟩:=h
    rfl
  · obtain⟨R,nm,p,so,hS,rfl,⟨q,rfl,hq⟩,k⟩:=h
    refine⟨_,(a0i (a0m (pe_dget (hu_of hr) (pe_disp (d0j b0e (b0q (a0a a0e (a0a a0e a0b))) (d0j b0e a0e (d0j b0e a0e (d0j b0e g0w pps_nil)))) rfl rfl (fun h=>by cases h) (by decide)) (a0p a0n (pv 0) a0e (fun _ _=>rfl)) (fun _ _=>rfl)))),?_⟩
    intro d nd
    refine⟨(by show 2≤sizeLine;decide),fun p1 n1=>?_⟩
    have s1:=a0g (o:=.dK []) nd
    have s2:=a0g (o:=.tup [.int 1,.int 1]) n1
    have nd1:p1≠d:=fun e=>by rw[e,a0d]at n1;cases n1
    have s3:Same H (upd (upd (upd H d (.dK [])) p1 (.tup [.int 1,.int 1])) d (.dK (c0v [] (ots p1)))):=fun b o e=>by
      rw[b0b (a0v e nd)]
      exact(s1.trans s2) _ _ e
    refine⟨s2 _ _ a0d,ots p1,rfl,(by show 4≤15;decide),?_⟩
    refine⟨_,rfl,_,_,_,_,rfl,rfl,SqT.of (s3 _ _ hq),rfl,?_⟩
    have g:=DGet.k (H:=upd (upd (upd H d (.dK [])) p1 (.tup [.int 1,.int 1])) d (.dK (c0v [] (ots p1)))) (k:=Sum.inr nm) a0d
    cases hS with
    | fr=>
      rw[ots_fr]at g
      exact⟨_,_,rfl,g,k _ _ s3 ⟨p1,rfl,by rw[b0b nd1,a0d];rfl⟩⟩
    | re p hp hq' hi=>
      rw[ots_re]at g
      exact⟨_,_,rfl,g,k _ _ s3 rfl⟩
    | co=>
      rw[ots_co]at g
      exact⟨_,_,rfl,g,k _ _ s3 rfl⟩
    | tr=>
      rw[ots_tr]at g
      exact⟨_,_,rfl,g,k _ _ s3 rfl⟩
def sp_ldot(T:Txt K mg t):Sp:=fun vs H Q _=>∃(R:KindR Pr w K mg base),∃nm p so row col n x y m m',So T R nm p∧vs=[so,row,col]∧(SortAt H so nm p∧R.Seq n x m row H∧R.Seq n y m' col H∧n≤32∧m+m'≤100000)∧
  ∀v H',Same H H'→R.is H' v (dotW R.S x y n)→R.S.lv (m+m') 32 (dotW R.S x y n)→Q v H'
theorem i0c(T:Txt K mg t):FnOk Pr w K mg base CX0 41 t.c1d t.z0e ["_law_sort_here","_law_row","_law_column"] (sp_ldot (w:=w) (base:=base) T):=by
  refine T.y0c.ok sc_law_dot (fun vs H Q E h=>?_) (fun cdv A outer s H vs Q E hr h=>?_)
  · obtain⟨R,nm,p,so,row,col,n,x,y,m,m',_,rfl,_⟩:=h
    rfl
  · obtain⟨R,nm,pp,so,row,col,n,x,y,m,m',hS,rfl,⟨hso,⟨S1,xs,o1,v1,w1,e1⟩,⟨S2,ys,o2,v2,w2,e2⟩,hz⟩,k⟩:=h
    refine⟨_,(a0c (a0s (i:=3) sc_law_dot.nd rfl (Or.inl rfl) (a0f (c0l T) hr.m rfl T.s0v T.s0f.kp T.r0y .nil a0k (a0a (pv 0) a0b))) (a0c (c0i PassesOwn.never rfl (i0n rfl T.z_zip (a0a (pv 1) (a0a (pv 2) a0b))) (g0u rfl (b0k (a0u (i:=4) sc_law_dot.nd rfl (Or.inl rfl)) (b0k (a0u (i:=5) sc_law_dot.nd rfl (Or.inl rfl)) e0f))) (a0i (a0s (i:=3) sc_law_dot.nd rfl (Or.inl rfl) (a0f (k0d T) hr.m rfl T.x0w T.w0a.kp T.x0l .nil a0k (a0a (pv 0) (a0a (pv 3) (a0a (a0f (i0q T) hr.m rfl T.t0e T.v0c.kp T.u0l .nil a0k (a0a (pv 0) (a0a (pv 4) (a0a (pv 5) a0b)))) a0b))))))) (a0i (a0m (pv 3))))),?_⟩
    refine⟨_,rfl,R,nm,pp,_,hS,rfl,hso,fun z H1 s1 f1=>?_⟩
    refine⟨_,rfl,_,rfl,S1,S2,_,_,xs,ys,rfl,o1,o2,(w1 _ s1).1,(w2 _ s1).1,n0s (K:=K) (xs:=xs) (ys:=ys) (fun i σ H2=>∃tot v4 v5,σ=[some so,some row,some col,some tot,v4,v5]∧Same H H2∧R.is H2 tot (dotW R.S x y i)) (by rw[e1.1,e2.1]) ⟨_,_,_,rfl,s1,f1⟩ (fun i σ H2 _ ⟨_,_,_,_,q,_⟩=>⟨(w1 _ q).1,(w2 _ q).1⟩) ?_ ?_⟩
    · rintro i u v p σ H2 hu hv np ⟨tot,v4,v5,rfl,q,f⟩
      obtain⟨hi,pu⟩:=e1.at hu
      obtain⟨_,pv⟩:=e2.at hv
      have sp:=a0g (o:=.tup [u,v]) np
      have q2:=q.trans sp
      refine⟨p,_,rfl,SqT.of a0d,rfl,_,_,rfl,_,_,rfl,rfl,?_⟩
      refine⟨_,rfl,_,rfl,_,rfl,_,rfl,_,rfl,R,nm,pp,_,_,_,_,_,100 * m,100 * m',hS,rfl,⟨hso.same q2.t,R.same q2.t pu.1,R.same q2.t pv.1,R.S.lv_sz _ _ _ (by decide) pu.2,R.S.lv_sz _ _ _ (by decide) pv.2,by omega⟩,fun pr H3 s3 f3=>?_⟩
      have q3:=q2.trans s3
      refine⟨R,nm,pp,_,_,_,_,_,100 * (m+m'),100 * (m+m'),hS,rfl,⟨hso.same q3.t,R.same (sp.trans s3).t f,f3,R.S.lv_sz _ _ _ (by omega) (dot_sz (fun j hj=>wt_sz e1 j (Nat.lt_trans hj hi)) (fun j hj=>wt_sz e2 j (Nat.lt_trans hj hi))),R.S.lv_sz _ _ _ (by decide) (R.S.lv_mul _ _ _ _ pu.2 pv.2),by omega⟩,fun tt H4 s4 f4=>?_⟩
      exact⟨_,_,_,rfl,q3.trans s4,f4⟩
    · rintro σ H2 ⟨tot,v4,v5,rfl,q,f⟩
      rw[e1.1]at f
      exact⟨_,rfl,k _ _ q f (R.S.lv_mono _ _ _ _ hz.1 (dot_sz (wt_sz e1) (wt_sz e2)))⟩
theorem wt_z1{f r:Int}(h:f.natAbs≤10 ^ 26)(h0:0≤r)(h1:r < 9):(f+r - 4).natAbs≤2 ^ 90:=by
  have e1:(10:Nat) ^ 26=100000000000000000000000000:=by decide
  have e2:(2:Nat) ^ 90=1237940039285380274899124224:=by decide
  rw[e1]at h
  rw[e2]
  omega
theorem wt_far{r u:Int}(h0:0≤r)(h1:r < 10 ^ (13:Int).toNat)(u0:0≤u)(u1:u < 2):(r * 10 ^ (13:Int).toNat * (1 - 2 * u)).natAbs≤10 ^ 26:=by
  have e:(10:Int) ^ (13:Int).toNat=10000000000000:=by decide
  have e1:(10:Nat) ^ 26=100000000000000000000000000:=by decide
  rw[e]at h1 ⊢
  rw[e1]
  rcases(by omega:u=0∨u=1)with rfl | rfl <;>omega
def sp_lweight(T:Txt K mg t):Sp:=fun vs H Q _=>∃(R:KindR Pr w K mg base),∃nm p,∃(a:Addr),∃so g,So T R nm p∧vs=[.ref a,so,.bl g]∧(Dr H a∧SortAt H so nm p)∧∀v H' x,SameX a H H'→Dr H' a→R.is H' v x→R.S.lv 1 32 x→Q v H'
theorem n0c(T:Txt K mg t):FnOk Pr w K mg base CX0 37 t.x0a t.s0x ["_law_state_here","_law_sort_here","_law_great"] (sp_lweight (w:=w) (base:=base) T):=by
  refine T.s0j.ok sc_law_weight (fun vs H Q E h=>?_) (fun cdv A outer s H vs Q E hr h=>?_)
  · obtain⟨R,nm,p,a,so,g,_,rfl,_⟩:=h
    rfl
  · obtain⟨R,nm,p,a,so,g,hS,rfl,⟨hD,⟨q,rfl,hq⟩⟩,k⟩:=h
    refine⟨_,(a0c (b0n (a0t c0j (a0f (b0d T) hr.m rfl T.w0q T.x0v.kp T.x0r .nil a0k (a0a (pv 0) (a0a a0e a0b))) a0e (a0w _)) (a0i (a0m (a0f (c0l T) hr.m rfl T.s0v T.s0f.kp T.r0y .nil a0k (a0a (pv 1) a0b)))) a0y) (a0c (a0s (i:=3) sc_law_weight.nd rfl (Or.inl rfl) a0e) (a0c (b0n (PW.pt (j0z (e0l (pv 2)) (j0y (a0t c0j (a0f (b0d T) hr.m rfl T.w0q T.x0v.kp T.x0r .nil a0k (a0a (pv 0) (a0a a0e a0b))) a0e (a0w _))))) (a0i (a0s (i:=3) sc_law_weight.nd rfl (Or.inl rfl) (a0x g0x (a0x g0x (a0f (b0d T) hr.m rfl T.w0q T.x0v.kp T.x0r .nil a0k (a0a (pv 0) (a0a (a0x op_pow a0e a0e) a0b))) (a0x op_pow a0e a0e)) (a0x op_sub a0e (a0x g0x a0e (a0f (b0d T) hr.m rfl T.w0q T.x0v.kp T.x0r .nil a0k (a0a (pv 0) (a0a a0e a0b)))))))) a0y) (a0c (b0n (a0t c0j (a0p a0n (pv 1) a0e (fun _ _=>rfl)) b0e (a0w _)) (a0i (a0m (a0f (i0b T) hr.m rfl T.y0w T.y0p.kp T.z0c .nil a0k (a0a (a0x op_sub (a0x b0x (pv 3) (a0f (b0d T) hr.m rfl T.w0q T.x0v.kp T.x0r .nil a0k (a0a (pv 0) (a0a a0e a0b)))) a0e) (a0a (a0x b0x a0e (a0f (b0d T) hr.m rfl T.w0q T.x0v.kp T.x0r .nil a0k (a0a (pv 0) (a0a a0e a0b)))) a0b))))) a0y) (a0c (b0n (a0t c0j (a0p a0n (pv 1) a0e (fun _ _=>rfl)) b0e (a0w _)) (a0i (a0m (a0f (b0d T) hr.m rfl T.w0q T.x0v.kp T.x0r .nil a0k (a0a (pv 0) (a0a (a0p a0n (pv 1) a0e (fun _ _=>rfl)) a0b))))) a0y) (a0c (b0n (a0t c0j (a0p a0n (pv 1) a0e (fun _ _=>rfl)) b0e (a0w _)) (a0i (a0m (a0x op_sub (a0x b0x (pv 3) (a0f (b0d T) hr.m rfl T.w0q T.x0v.kp T.x0r .nil a0k (a0a (pv 0) (a0a a0e a0b)))) a0e))) a0y) (a0i (a0m (e0w c0j (a0f (b0d T) hr.m rfl T.w0q T.x0v.kp T.x0r .nil a0k (a0a (pv 0) (a0a a0e a0b))) a0e (a0w _)))))))))),?_⟩
    refine⟨_,rfl,a,4,rfl,⟨hD,by decide,by decide⟩,fun r0 H0 s0 d0 a0 b0=>⟨rfl,_,rfl,?_⟩⟩
    have hq0:=s0.tt hD _ _ hq
    refine iteI (fun _=>?_) (fun _=>?_)
    · refine⟨_,rfl,R,nm,p,_,hS,rfl,⟨q,rfl,hq0⟩,fun v H' s' f'=>?_⟩
      exact k v H' _ (s0.trans (.of s')) (d0.same s') f' (R.S.lv_mono _ 0 _ _ (by decide) (R.S.lv_zero 1))
    · cases g with
      | false=>
        refine⟨_,rfl,_,rfl,?_⟩
        refine iteF ?_
        have q1:=s0
        have d1:=d0
        have hq1:=hq0
        cases hS with
        | fr=>
          refine⟨_,rfl,_,_,_,_,rfl,rfl,SqT.of hq1,rfl,rfl,_,rfl,?_⟩
          rw[show decide (V.str ("fractions":Str)=V.str ("fractions":Str))=true by decide +kernel]
          refine iteT ?_
          refine⟨_,rfl,_,rfl,a,9,rfl,⟨d1,by decide,by decide⟩,fun r2 H2 s2 d2 a2 b2=>?_⟩
          have q2:=q1.trans s2
          refine⟨_,_,rfl,rfl,_,_,rfl,rfl,_,rfl,a,4,rfl,⟨d2,by decide,by decide⟩,fun r3 H3 s3 d3 a3 b3=>?_⟩
          have q3:=q2.trans s3
          refine⟨_,_,rfl,rfl,_,_,rfl,(show(0:Int) < 1+r3 by omega),fun v H4 s4 f4=>?_⟩
          exact k v H4 (Fr.of _ _ (show(0:Int) < 1+r3 by omega)) (q3.trans (.of s4)) (d3.same s4) f4 (Fr.lv_drawn _ (by omega) (wt_z1 (by decide) a2 b2))
        | re p hp hq' hi=>
          refine⟨_,rfl,_,_,_,_,rfl,rfl,SqT.of hq1,rfl,rfl,_,rfl,?_⟩
          rw[show decide (V.str ("residues":Str)=V.str ("fractions":Str))=false by decide +kernel]
          refine iteF ?_
          refine⟨_,rfl,_,_,_,_,rfl,rfl,SqT.of hq1,rfl,rfl,_,rfl,?_⟩
          rw[show decide (V.str ("residues":Str)=V.str ("residues":Str))=true by decide +kernel]
          refine iteT ?_
          refine⟨_,rfl,_,rfl,_,_,_,_,rfl,rfl,SqT.of hq1,rfl,a,_,rfl,⟨d1,by omega,by omega⟩,fun r2 H2 s2 d2 a2 b2=>?_⟩
          exact k _ _ ⟨r2,a2,b2⟩ (q1.trans s2) d2 rfl trivial
        | co=>
          refine⟨_,rfl,_,_,_,_,rfl,rfl,SqT.of hq1,rfl,rfl,_,rfl,?_⟩
          rw[show decide (V.str ("costs":Str)=V.str ("fractions":Str))=false by decide +kernel]
          refine iteF ?_
          refine⟨_,rfl,_,_,_,_,rfl,rfl,SqT.of hq1,rfl,rfl,_,rfl,?_⟩
          rw[show decide (V.str ("costs":Str)=V.str ("residues":Str))=false by decide +kernel]
          refine iteF ?_
          refine⟨_,rfl,_,_,_,_,rfl,rfl,SqT.of hq1,rfl,rfl,_,rfl,?_⟩
          rw[show decide (V.str ("costs":Str)=V.str ("costs":Str))=true by decide +kernel]
          refine iteT ?_
          refine⟨_,rfl,_,rfl,a,9,rfl,⟨d1,by decide,by decide⟩,fun r2 H2 s2 d2 a2 b2=>⟨_,_,rfl,rfl,_,_,rfl,rfl,?_⟩⟩
          exact k _ _ (some (0+r2 - 2)) (q1.trans s2) d2 rfl trivial
        | tr=>
          refine⟨_,rfl,_,_,_,_,rfl,rfl,SqT.of hq1,rfl,rfl,_,rfl,?_⟩
          rw[show decide (V.str ("truths":Str)=V.str ("fractions":Str))=false by decide +kernel]
          refine iteF ?_
          refine⟨_,rfl,_,_,_,_,rfl,rfl,SqT.of hq1,rfl,rfl,_,rfl,?_⟩
          rw[show decide (V.str ("truths":Str)=V.str ("residues":Str))=false by decide +kernel]
          refine iteF ?_
          refine⟨_,rfl,_,_,_,_,rfl,rfl,SqT.of hq1,rfl,rfl,_,rfl,?_⟩
          rw[show decide (V.str ("truths":Str)=V.str ("costs":Str))=false by decide +kernel]
          refine iteF ?_
          refine⟨_,rfl,a,2,rfl,⟨d1,by decide,by decide⟩,fun r2 H2 s2 d2 a2 b2=>⟨rfl,?_⟩⟩
          exact k _ _ (decide (V.int r2=V.int 0)) (q1.trans s2) d2 rfl trivial
      | true=>
        refine⟨_,rfl,_,rfl,?_⟩
        refine iteT ?_
        refine⟨_,rfl,a,3,rfl,⟨d0,by decide,by decide⟩,fun r9 H9 s9 d9 a9 b9=>⟨rfl,_,rfl,?_⟩⟩
        have hq9:=s9.tt d0 _ _ hq0
        refine iteI (fun _=>?_) (fun _=>?_)
        · refine⟨_,rfl,_,_,rfl,rfl,⟨by decide,by decide,by decide⟩,a,_,rfl,⟨d9,by decide,by decide⟩,fun r8 H8 s8 d8 a8 b8=>?_⟩
          have p13:r8 < 10000000000000:=b8
          refine⟨_,_,rfl,rfl,⟨by decide,by decide,by decide⟩,_,_,rfl,rfl,.inl ⟨by omega,by omega⟩,?_⟩
          refine⟨_,rfl,a,2,rfl,⟨d8,by decide,by decide⟩,fun r7 H7 s7 d7 a7 b7=>?_⟩
          have q1:=((s0.trans s9).trans s8).trans s7
          have d1:=d7
          have hq1:=s7.tt d8 _ _ (s8.tt d9 _ _ hq9)
          have fb:=wt_far a8 b8 a7 b7
          refine⟨_,_,rfl,rfl,.inl ⟨by omega,by omega⟩,_,_,rfl,rfl,_,_,rfl,rfl,.inr ⟨by omega,by omega⟩,?_⟩
          (try dsimp only)
          revert fb
          generalize r8 * 10 ^ (13:Int).toNat * (1 - 2 * r7)=far
          intro fb
          cases hS with
          | fr=>
            refine⟨_,rfl,_,_,_,_,rfl,rfl,SqT.of hq1,rfl,rfl,_,rfl,?_⟩
            rw[show decide (V.str ("fractions":Str)=V.str ("fractions":Str))=true by decide +kernel]
            refine iteT ?_
            refine⟨_,rfl,_,rfl,a,9,rfl,⟨d1,by decide,by decide⟩,fun r2 H2 s2 d2 a2 b2=>?_⟩
            have q2:=q1.trans s2
            refine⟨_,_,rfl,rfl,_,_,rfl,rfl,_,rfl,a,4,rfl,⟨d2,by decide,by decide⟩,fun r3 H3 s3 d3 a3 b3=>?_⟩
            have q3:=q2.trans s3
            refine⟨_,_,rfl,rfl,_,_,rfl,(show(0:Int) < 1+r3 by omega),fun v H4 s4 f4=>?_⟩
            exact k v H4 (Fr.of _ _ (show(0:Int) < 1+r3 by omega)) (q3.trans (.of s4)) (d3.same s4) f4 (Fr.lv_drawn _ (by omega) (wt_z1 fb a2 b2))
          | re p hp hq' hi=>
            refine⟨_,rfl,_,_,_,_,rfl,rfl,SqT.of hq1,rfl,rfl,_,rfl,?_⟩
            rw[show decide (V.str ("residues":Str)=V.str ("fractions":Str))=false by decide +kernel]
            refine iteF ?_
            refine⟨_,rfl,_,_,_,_,rfl,rfl,SqT.of hq1,rfl,rfl,_,rfl,?_⟩
            rw[show decide (V.str ("residues":Str)=V.str ("residues":Str))=true by decide +kernel]
            refine iteT ?_
            refine⟨_,rfl,_,rfl,_,_,_,_,rfl,rfl,SqT.of hq1,rfl,a,_,rfl,⟨d1,by omega,by omega⟩,fun r2 H2 s2 d2 a2 b2=>?_⟩
            exact k _ _ ⟨r2,a2,b2⟩ (q1.trans s2) d2 rfl trivial
          | co=>
            refine⟨_,rfl,_,_,_,_,rfl,rfl,SqT.of hq1,rfl,rfl,_,rfl,?_⟩
            rw[show decide (V.str ("costs":Str)=V.str ("fractions":Str))=false by decide +kernel]
            refine iteF ?_
            refine⟨_,rfl,_,_,_,_,rfl,rfl,SqT.of hq1,rfl,rfl,_,rfl,?_⟩
            rw[show decide (V.str ("costs":Str)=V.str ("residues":Str))=false by decide +kernel]
            refine iteF ?_
            refine⟨_,rfl,_,_,_,_,rfl,rfl,SqT.of hq1,rfl,rfl,_,rfl,?_⟩
            rw[show decide (V.str ("costs":Str)=V.str ("costs":Str))=true by decide +kernel]
            refine iteT ?_
            refine⟨_,rfl,_,rfl,a,9,rfl,⟨d1,by decide,by decide⟩,fun r2 H2 s2 d2 a2 b2=>⟨_,_,rfl,rfl,_,_,rfl,rfl,?_⟩⟩
            exact k _ _ (some (far+r2 - 2)) (q1.trans s2) d2 rfl trivial
          | tr=>
            refine⟨_,rfl,_,_,_,_,rfl,rfl,SqT.of hq1,rfl,rfl,_,rfl,?_⟩
            rw[show decide (V.str ("truths":Str)=V.str ("fractions":Str))=false by decide +kernel]
            refine iteF ?_
            refine⟨_,rfl,_,_,_,_,rfl,rfl,SqT.of hq1,rfl,rfl,_,rfl,?_⟩
            rw[show decide (V.str ("truths":Str)=V.str ("residues":Str))=false by decide +kernel]
            refine iteF ?_
            refine⟨_,rfl,_,_,_,_,rfl,rfl,SqT.of hq1,rfl,rfl,_,rfl,?_⟩
            rw[show decide (V.str ("truths":Str)=V.str ("costs":Str))=false by decide +kernel]
            refine iteF ?_
            refine⟨_,rfl,a,2,rfl,⟨d1,by decide,by decide⟩,fun r2 H2 s2 d2 a2 b2=>⟨rfl,?_⟩⟩
            exact k _ _ (decide (V.int r2=V.int 0)) (q1.trans s2) d2 rfl trivial
        · have q1:=s0.trans s9
          have d1:=d9
          have hq1:=hq9
          cases hS with
          | fr=>
            refine⟨_,rfl,_,_,_,_,rfl,rfl,SqT.of hq1,rfl,rfl,_,rfl,?_⟩
            rw[show decide (V.str ("fractions":Str)=V.str ("fractions":Str))=true by decide +kernel]
            refine iteT ?_
            refine⟨_,rfl,_,rfl,a,9,rfl,⟨d1,by decide,by decide⟩,fun r2 H2 s2 d2 a2 b2=>?_⟩
            have q2:=q1.trans s2
            refine⟨_,_,rfl,rfl,_,_,rfl,rfl,_,rfl,a,4,rfl,⟨d2,by decide,by decide⟩,fun r3 H3 s3 d3 a3 b3=>?_⟩
            have q3:=q2.trans s3
            refine⟨_,_,rfl,rfl,_,_,rfl,(show(0:Int) < 1+r3 by omega),fun v H4 s4 f4=>?_⟩
            exact k v H4 (Fr.of _ _ (show(0:Int) < 1+r3 by omega)) (q3.trans (.of s4)) (d3.same s4) f4 (Fr.lv_drawn _ (by omega) (wt_z1 (by decide) a2 b2))
          | re p hp hq' hi=>
            refine⟨_,rfl,_,_,_,_,rfl,rfl,SqT.of hq1,rfl,rfl,_,rfl,?_⟩
            rw[show decide (V.str ("residues":Str)=V.str ("fractions":Str))=false by decide +kernel]
            refine iteF ?_
            refine⟨_,rfl,_,_,_,_,rfl,rfl,SqT.of hq1,rfl,rfl,_,rfl,?_⟩
            rw[show decide (V.str ("residues":Str)=V.str ("residues":Str))=true by decide +kernel]
            refine iteT ?_
            refine⟨_,rfl,_,rfl,_,_,_,_,rfl,rfl,SqT.of hq1,rfl,a,_,rfl,⟨d1,by omega,by omega⟩,fun r2 H2 s2 d2 a2 b2=>?_⟩
            exact k _ _ ⟨r2,a2,b2⟩ (q1.trans s2) d2 rfl trivial
          | co=>
            refine⟨_,rfl,_,_,_,_,rfl,rfl,SqT.of hq1,rfl,rfl,_,rfl,?_⟩
            rw[show decide (V.str ("costs":Str)=V.str ("fractions":Str))=false by decide +kernel]
            refine iteF ?_
            refine⟨_,rfl,_,_,_,_,rfl,rfl,SqT.of hq1,rfl,rfl,_,rfl,?_⟩
            rw[show decide (V.str ("costs":Str)=V.str ("residues":Str))=false by decide +kernel]
            refine iteF ?_
            refine⟨_,rfl,_,_,_,_,rfl,rfl,SqT.of hq1,rfl,rfl,_,rfl,?_⟩
            rw[show decide (V.str ("costs":Str)=V.str ("costs":Str))=true by decide +kernel]
            refine iteT ?_
            refine⟨_,rfl,_,rfl,a,9,rfl,⟨d1,by decide,by decide⟩,fun r2 H2 s2 d2 a2 b2=>⟨_,_,rfl,rfl,_,_,rfl,rfl,?_⟩⟩
            exact k _ _ (some (0+r2 - 2)) (q1.trans s2) d2 rfl trivial
          | tr=>
            refine⟨_,rfl,_,_,_,_,rfl,rfl,SqT.of hq1,rfl,rfl,_,rfl,?_⟩
            rw[show decide (V.str ("truths":Str)=V.str ("fractions":Str))=false by decide +kernel]
            refine iteF ?_
            refine⟨_,rfl,_,_,_,_,rfl,rfl,SqT.of hq1,rfl,rfl,_,rfl,?_⟩
            rw[show decide (V.str ("truths":Str)=V.str ("residues":Str))=false by decide +kernel]
            refine iteF ?_
            refine⟨_,rfl,_,_,_,_,rfl,rfl,SqT.of hq1,rfl,rfl,_,rfl,?_⟩
            rw[show decide (V.str ("truths":Str)=V.str ("costs":Str))=false by decide +kernel]
            refine iteF ?_
            refine⟨_,rfl,a,2,rfl,⟨d1,by decide,by decide⟩,fun r2 H2 s2 d2 a2 b2=>⟨rfl,?_⟩⟩
            exact k _ _ (decide (V.int r2=V.int 0)) (q1.trans s2) d2 rfl trivial
def put(S:SR)(x:Nat→S.W)(i:Nat)(b:S.W):Nat→S.W:=fun j=>if j=i then b else x j
def putT(S:SR)(x:Nat→Nat→S.W)(i:Nat)(b:Nat→S.W):Nat→Nat→S.W:=fun j=>if j=i then b else x j
theorem put_at{S:SR}(x:Nat→S.W)(i:Nat)(b:S.W):put S x i b i=b:=if_pos rfl
theorem put_ne{S:SR}(x:Nat→S.W){i j:Nat}(b:S.W)(h:j < i):put S x i b j=x j:=if_neg (Nat.ne_of_lt h)
theorem putT_at{S:SR}(x:Nat→Nat→S.W)(i:Nat)(b:Nat→S.W):putT S x i b i=b:=if_pos rfl
theorem putT_ne{S:SR}(x:Nat→Nat→S.W){i j:Nat}(b:Nat→S.W)(h:j < i):putT S x i b j=x j:=if_neg (Nat.ne_of_lt h)
def sp_line(T:Txt K mg t):Sp:=fun vs H Q _=>∃(R:KindR Pr w K mg base),∃nm p,∃(a:Addr),∃so,∃(n:Nat),∃(z:Int),∃g,So T R nm p∧vs=[.ref a,so,.int z,.bl g]∧(Dr H a∧SortAt H so nm p∧n≤1000∧z=n)∧∀v H' x,SameX a H H'→Dr H' a→R.Row n x 1 v H'→Q v H'
theorem g0f(T:Txt K mg t):FnOk Pr w K mg base CX0 38 t.a1v t.w0l ["_law_state_here","_law_sort_here","_law_many","_law_great"] (sp_line (w:=w) (base:=base) T):=by
  refine T.x0q.ok sc_law_line (fun vs H Q E h=>?_) (fun cdv A outer s H vs Q E hr h=>?_)
  · obtain⟨R,nm,p,a,so,n,z,g,_,rfl,_⟩:=h
    rfl
  · obtain⟨R,nm,p,a,so,n,z,g,hS,rfl,⟨hD,hso,hn,rfl⟩,k⟩:=h
    refine⟨_,(a0i (a0m (b0a a0q (by rfl) T.z_tuple boot_tuple (a0a (b0z (xs:=["_law_k"]) rfl (show b0m ["_law_state_here","_law_sort_here","_law_many","_law_great"] (a0h f0e) _ from⟨rfl,by decide +kernel,by decide +kernel,by decide +kernel,by decide +kernel,by decide +kernel⟩) (b0v rfl T.z_range (a0a (pv 2) a0b)) (fun _ _ _ _ _=>(a0u (i:=4) (by show List.Nodup (["_law_state_here","_law_sort_here","_law_many","_law_great","_law_k"]:List Str);decide +kernel) rfl (Or.inl rfl))) (fun _ _ _ _ _=>(a0f (n0c (w:=w) (base:=base) T) hr.m rfl T.s0r T.s0j.kp T.s0h .nil a0k (a0a (pv 0) (a0a (pv 1) (a0a (pv 3) a0b)))))) a0b)))),?_⟩
    refine⟨_,rfl,_,rfl,(by omega),(by omega),b0i (n:=n) (fun j ys H2=>∃x,SameX a H H2∧Dr H2 a∧Ents (R.Wt x 1) ys j H2) hn ⟨fun _=>R.S.zero,SameX.refl _ _,hD,Ents.nil⟩ (fun j ys H2 ⟨_,_,_,q⟩=>q.1) ?_ ?_ ?_⟩
    · rintro j ys H2 hj ⟨x,q,d2,e⟩
      refine⟨(show j < (n:Int).toNat by omega),fun y H' hy=>?_⟩
      obtain⟨rfl,rfl⟩:=hy
      refine⟨⟨[some _],rfl,rfl⟩,_,rfl,_,rfl,_,rfl,R,nm,p,a,so,g,hS,rfl,⟨d2,hso.same (q.tt hD)⟩,fun v H3 b s3 d3 f3 z3=>?_⟩
      refine⟨put R.S x j b,q.trans s3,d3,(e.mono fun i u hi w'=>?_).snoc ⟨by rw[put_at];exact f3,by rw[put_at];exact z3⟩⟩
      have w1:=KindR.Wt.same (s3.tt d2) w'
      exact⟨by rw[put_ne _ _ hi];exact w1.1,by rw[put_ne _ _ hi];exact w1.2⟩
    · rintro ys H2 ⟨x,q,d2,e⟩
      show(n:Int).toNat≤n
      omega
    · rintro ys H2 l ⟨x,q,d2,e⟩ nl
      have s1:=a0g (o:=.lst ys) nl
      refine⟨l,ys,rfl,.inl ⟨SqL.of a0d,fun l2 n2=>?_⟩⟩
      have s2:=a0g (o:=.tup ys) n2
      have s12:=s1.trans s2
      exact k _ _ x (q.trans (.of s12)) (d2.same s12) ⟨l2,ys,rfl,a0d,e.mono fun _ _ _ w'=>KindR.Wt.same s12.t w'⟩
def sp_ltable(T:Txt K mg t):Sp:=fun vs H Q _=>∃(R:KindR Pr w K mg base),∃nm p,∃(a:Addr),∃so,∃(h n:Nat),∃(zh zn:Int),∃g,So T R nm p∧vs=[.ref a,so,.int zh,.int zn,.bl g]∧(Dr H a∧SortAt H so nm p∧h≤1000∧n≤1000∧zh=h∧zn=n)∧∀v H' x,SameX a H H'→Dr H' a→R.Tab h n x 1 v H'→Q v H'
theorem ok_law_table(T:Txt K mg t):FnOk Pr w K mg base CX0 39 t.z0n t.t0d ["_law_state_here","_law_sort_here","_law_high","_law_wide","_law_great"] (sp_ltable (w:=w) (base:=base) T):=by
  refine T.u0g.ok sc_law_table (fun vs H Q E h=>?_) (fun cdv A outer s H vs Q E hr h=>?_)
  · obtain⟨R,nm,p,a,so,h,n,zh,zn,g,_,rfl,_⟩:=h
    rfl
  · obtain⟨R,nm,p,a,so,h,n,zh,zn,g,hS,rfl,⟨hD,hso,hh,hn,rfl,rfl⟩,k⟩:=h
    refine⟨_,(a0i (a0m (b0a a0q (by rfl) T.z_tuple boot_tuple (a0a (b0z (xs:=["_law_k"]) rfl (show b0m ["_law_state_here","_law_sort_here","_law_high","_law_wide","_law_great"] (a0h d0y) _ from⟨rfl,by decide +kernel,by decide +kernel,by decide +kernel,by decide +kernel,by decide +kernel⟩) (b0v rfl T.z_range (a0a (pv 2) a0b)) (fun _ _ _ _ _=>(a0u (i:=5) (by show List.Nodup (["_law_state_here","_law_sort_here","_law_high","_law_wide","_law_great","_law_k"]:List Str);decide +kernel) rfl (Or.inl rfl))) (fun _ _ _ _ _=>(a0f (g0f (w:=w) (base:=base) T) hr.m rfl T.w0v T.x0q.kp T.x0j .nil a0k (a0a (pv 0) (a0a (pv 1) (a0a (pv 3) (a0a (pv 4) a0b))))))) a0b)))),?_⟩
    refine⟨_,rfl,_,rfl,(by omega),(by omega),b0i (n:=h) (fun j ys H2=>∃x,SameX a H H2∧Dr H2 a∧Ents (fun j u H=>R.Row n (x j) 1 u H) ys j H2) hh ⟨fun _ _=>R.S.zero,SameX.refl _ _,hD,Ents.nil⟩ (fun j ys H2 ⟨_,_,_,q⟩=>q.1) ?_ ?_ ?_⟩
    · rintro j ys H2 hj ⟨x,q,d2,e⟩
      refine⟨(show j < (h:Int).toNat by omega),fun y H' hy=>?_⟩
      obtain⟨rfl,rfl⟩:=hy
      refine⟨⟨[some _],rfl,rfl⟩,_,rfl,_,rfl,_,rfl,_,rfl,R,nm,p,a,so,n,_,g,hS,rfl,⟨d2,hso.same (q.tt hD),hn,rfl⟩,fun v H3 b s3 d3 r3=>?_⟩
      refine⟨putT R.S x j b,q.trans s3,d3,(e.mono fun i u hi w'=>?_).snoc (by rw[putT_at];exact r3)⟩
      have w1:=KindR.Row.same (s3.tt d2) w'
      rw[putT_ne _ _ hi]
      exact w1
    · rintro ys H2 ⟨x,q,d2,e⟩
      show(h:Int).toNat≤h
      omega
    · rintro ys H2 l ⟨x,q,d2,e⟩ nl
      have s1:=a0g (o:=.lst ys) nl
      refine⟨l,ys,rfl,.inl ⟨SqL.of a0d,fun l2 n2=>?_⟩⟩
      have s2:=a0g (o:=.tup ys) n2
      have s12:=s1.trans s2
      exact k _ _ x (q.trans (.of s12)) (d2.same s12) ⟨l2,ys,rfl,a0d,e.mono fun _ _ _ w'=>KindR.Row.same s12.t w'⟩
def tx(l:List Nat):Str:=⟨l.toArray⟩
def vT(l:List Nat):V:=.str (tx l)
theorem tx_app(a b:List Nat):tx a++tx b=tx (a++b):=by
  show(⟨a.toArray++b.toArray⟩:Str)=⟨(a++b).toArray⟩
  simp
theorem b0p(a:List Nat):(tx a).length=a.length:=by
  show a.toArray.size=a.length
  simp
theorem three{l:List Nat}(h1:1≤l.length)(h3:l.length≤3):(∃a,l=[a])∨(∃a b,l=[a,b])∨∃a b c,l=[a,b,c]:=by
  match l,h1,h3 with
  | [a],_,_=>exact .inl ⟨a,rfl⟩
  | [a,b],_,_=>exact .inr (.inl ⟨a,b,rfl⟩)
  | [a,b,c],_,_=>exact .inr (.inr ⟨a,b,c,rfl⟩)
theorem occ1(a x:Nat)(h:x=a):Builtin.Str.occurrences (tx [a]) (tx [x]) 0 (tx [a]).length 1=[0]:=by
  subst h
  simp[Builtin.Str.occurrences,Builtin.Str.subAt,tx,Str.length,List.range']
theorem occ2(a b x:Nat)(n:a≠b)(h:x=a∨x=b):Builtin.Str.occurrences (tx [a,b]) (tx [x]) 0 (tx [a,b]).length 1=[List.idxOf x [a,b]]:=by
  rcases h with rfl | rfl
  · simp[Builtin.Str.occurrences,Builtin.Str.subAt,tx,Str.length,List.range',List.idxOf_cons]
  · simp[Builtin.Str.occurrences,Builtin.Str.subAt,tx,Str.length,List.range',List.idxOf_cons,n,beq_false_of_ne n]
theorem occ3(a b c x:Nat)(n:(a≠b∧a≠c)∧b≠c)(h:x=a∨x=b∨x=c):Builtin.Str.occurrences (tx [a,b,c]) (tx [x]) 0 (tx [a,b,c]).length 1=[List.idxOf x [a,b,c]]:=by
  rcases h with rfl | rfl | rfl
  · simp[Builtin.Str.occurrences,Builtin.Str.subAt,tx,Str.length,List.range',List.idxOf_cons]
  · simp[Builtin.Str.occurrences,Builtin.Str.subAt,tx,Str.length,List.range',List.idxOf_cons,n.1.1,beq_false_of_ne n.1.1]
  · simp[Builtin.Str.occurrences,Builtin.Str.subAt,tx,Str.length,List.range',List.idxOf_cons,n.1.2,n.2,beq_false_of_ne n.1.2,beq_false_of_ne n.2]
structure LOk(l:List Nat):Prop where
  h1:1≤l.length
  h3:l.length≤3
  nd:l.Nodup
  as:∀c∈l,c < 128
theorem occ_of{l:List Nat}(h:LOk l){x:Nat}(hx:x∈l):Builtin.Str.occurrences (tx l) (tx [x]) 0 (tx l).length 1=[l.idxOf x]:=by
  have nd:=h.nd
  rcases three h.h1 h.h3 with ⟨a,rfl⟩ | ⟨a,b,rfl⟩ | ⟨a,b,c,rfl⟩
  · have:x=a:=by simpa using hx
    rw[occ1 a x this,this];simp
  · exact occ2 a b x (by simpa using nd) (by simpa using hx)
  · exact occ3 a b c x (by simpa [not_or] using nd) (by simpa using hx)
structure Pool(p l:List Nat)(i:Nat):Prop where
  nd:(p++l).Nodup
  pl:p.length=26 - i
  ll:l.length=i
  az:∀c∈p++l,97≤c∧c≤122
def azs:List Nat:=[97,98,99,100,101,102,103,104,105,106,107,108,109,110,111,112,113,114,115,116,117,118,119,120,121,122]
theorem az_is:(Str.ofString "abcdefghijklmnopqrstuvwxyz")=tx azs:=by decide +kernel
theorem em_is:(Str.ofString "")=tx []:=by decide +kernel
theorem Pool.start:Pool azs [] 0:=⟨by decide,by decide,rfl,by decide⟩
theorem Pool.turn{p l:List Nat}{i j:Nat}{c:Nat}(h:Pool p l i)(hi:i≤20)(hc:p[j]? = some c):Pool (p.take j++p.drop (j+1)) (l++[c]) (i+1):=by
  have hj:j < p.length:=(List.getElem?_eq_some_iff.mp hc).1
  have e:p=p.take j++c::p.drop (j+1):=by
    have:p[j]=c:=(List.getElem?_eq_some_iff.mp hc).2
    rw[← this,List.getElem_cons_drop_succ_eq_drop hj,List.take_append_drop]
  have pm:((p.take j++p.drop (j+1))++(l++[c])).Perm (p++l):=by
    conv=>rhs;rw[e]
    have h1:((p.take j++p.drop (j+1))++(l++[c])).Perm ((l++[c])++(p.take j++p.drop (j+1))):=List.perm_append_comm
    have h2:(p.take j++c::p.drop (j+1)).Perm (c::(p.take j++p.drop (j+1))):=List.perm_middle
    have h3:(p.take j++c::p.drop (j+1)++l).Perm (c::(p.take j++p.drop (j+1))++l):=h2.append_right l
    have h4:(c::(p.take j++p.drop (j+1))++l).Perm (l++c::(p.take j++p.drop (j+1))):=List.perm_append_comm
    have h5:(l++[c])++(p.take j++p.drop (j+1))=l++c::(p.take j++p.drop (j+1)):=by simp
    rw[h5]at h1
    exact h1.trans (h4.symm.trans h3.symm)
  refine⟨pm.nodup_iff.mpr h.nd,?_,?_,fun x hx=>h.az x (pm.mem_iff.mp hx)⟩
  · rw[List.length_append,List.length_take,List.length_drop]
    have:=h.pl
    omega
  · rw[List.length_append,h.ll];rfl
theorem sl_to{p:List Nat}{q:Int}(h0:0≤q)(h1:q≤p.length):Txt.slice (tx p) none (some q)=tx (p.take q.toNat):=by
  have e:=PyProof.Rows.slice_closes_toL (x:=tx p) (j:=q) h0 (by rw[b0p];exact h1)
  rw[beq_iff_eq]at e
  rw[e]
  show(⟨_⟩:Str)=⟨_⟩
  simp[tx]
theorem sl_from{p:List Nat}{q:Int}(h0:0≤q)(h1:q≤p.length):Txt.slice (tx p) (some q) none=tx (p.drop q.toNat):=by
  rw[PyProof.Rows.slice_from_eq (x:=tx p) (b:=p.length) h0 (by rw[b0p];exact h1) (by rw[b0p])]
  show(⟨_⟩:Str)=⟨_⟩
  have e:((p.drop q.toNat).take ((p.length:Int) - q).toNat)=p.drop q.toNat:=List.take_of_length_le (by rw[List.length_drop];omega)
  simp only[tx,List.toList_toArray,e]
def sp_letters:Sp:=fun vs H Q _=>∃(a:Addr),vs=[.ref a]∧Dr H a∧∀(p l:List Nat) (i:Nat) H',SameX a H H'→Dr H' a→Pool p l i→1≤i→i≤3→Q (vT l) H'
theorem l0i(T:Txt K mg t):FnOk Pr w K mg base CX0 2 t.u0k t.q0r ["_law_state_here"] sp_letters:=by
  refine T.q0w.ok sc_law_letters (fun vs H Q E h=>?_) (fun cdv A outer s H vs Q E hr h=>?_)
  · obtain⟨a,rfl,_⟩:=h
    rfl
  · obtain⟨a,rfl,hD,k⟩:=h
    have szl:(1000:Nat) < sizeLine:=small1000 (Nat.le_refl _)
    refine⟨_,(a0c (a0s (i:=1) sc_law_letters.nd rfl (Or.inl rfl) b0e) (a0c (a0s (i:=2) sc_law_letters.nd rfl (Or.inl rfl) b0e) (a0c (c0i PassesOwn.never rfl (b0v rfl T.z_range (a0a (a0x b0x a0e (a0f (b0d T) hr.m rfl T.w0q T.x0v.kp T.x0r .nil a0k (a0a (pv 0) (a0a a0e a0b)))) a0b)) (a0u (i:=3) sc_law_letters.nd rfl (Or.inl rfl)) (a0c (a0s (i:=4) sc_law_letters.nd rfl (Or.inl rfl) (a0f (b0d T) hr.m rfl T.w0q T.x0v.kp T.x0r .nil a0k (a0a (pv 0) (a0a (a0z b0l (by rfl) T.z_len PySem.boot_len (a0a (pv 1) a0b)) a0b)))) (a0c (a0s (i:=2) sc_law_letters.nd rfl (Or.inl rfl) (a0x f0g (pv 2) (a0p ix_str (pv 1) (pv 4) (fun _ _=>rfl)))) (a0i (a0s (i:=1) sc_law_letters.nd rfl (Or.inl rfl) (a0x f0g (d0k sl_str (pv 1) e0v (e0u (pv 4))) (d0k sl_str (pv 1) (e0u (a0x b0x (pv 4) a0e)) e0v))))))) (a0i (a0m (pv 2)))))),?_⟩
    refine⟨_,rfl,_,_,rfl,⟨hD,by decide,by decide⟩,fun r H1 s1 D1 r0 r3=>?_⟩
    refine⟨_,_,rfl,rfl,_,rfl,(by omega),(by omega),h0f (lo:=0) (n:=(1+r).toNat)
      (fun i σ H'=>∃p l v3 v4,σ=[some (.ref a),some (vT p),some (vT l),v3,v4]∧SameX a H H'∧Dr H' a∧Pool p l i)
      ⟨azs,[],_,_,(by rw[vT,vT,← az_is,← em_is];rfl),s1,D1,Pool.start⟩ ?_ ?_⟩
    · rintro i σ H' hi ⟨p,l,v3,v4,rfl,q,D,G⟩
      have hp:=G.pl
      have hll:=G.ll
      have lp:LenV K (vT p) H' (tx p).length:=⟨by rw[b0p];omega,rfl⟩
      rw[b0p]at lp
      refine⟨_,rfl,_,rfl,_,_,rfl,lp,_,_,rfl,⟨D,by omega,by omega⟩,fun z H2 s2 D2 z0 z1=>?_⟩
      obtain⟨c,hc⟩:∃c,p[z.toNat]? = some c:=⟨p[z.toNat]'(by omega),by simp⟩
      have ac:atI (tx p).cps.toList z=some c:=by
        have e:z=((z.toNat:Nat):Int):=by omega
        rw[e]
        exact e0k (by show p.toArray.toList[z.toNat]? = some c;simpa using hc)
      refine⟨_,rfl,_,rfl,_,rfl,_,_,_,rfl,rfl,(by rw[b0p];omega),ac,_,_,rfl,rfl,(by show(tx l).length+1≤_;rw[b0p];omega),?_⟩
      refine⟨_,rfl,_,rfl,_,rfl,_,rfl,(by rw[b0p];omega),_,rfl,_,rfl,_,_,rfl,rfl,_,rfl,_,rfl,(by rw[b0p];omega),_,_,rfl,rfl,?_,?_⟩
      · rw[sl_to z0 (by omega),sl_from (by omega) (by omega),b0p,b0p,List.length_take,List.length_drop];omega
      · have e1:tx l++(⟨#[c]⟩:Str)=tx (l++[c]):=tx_app l [c]
        have e2:(z+1).toNat=z.toNat+1:=by omega
        rw[sl_to z0 (by omega),sl_from (by omega) (by omega),tx_app,e2]
        exact⟨_,_,_,_,(by rw[e1];rfl),q.trans s2,D2,G.turn (by omega) hc⟩
    · rintro σ H' ⟨p,l,v3,v4,rfl,q,D,G⟩
      refine⟨_,rfl,?_⟩
      exact k p l _ H' q D G (by omega) (by omega)
theorem Pool.ok{p l:List Nat}{i:Nat}(G:Pool p l i)(h1:1≤i)(h3:i≤3):LOk l:=by
  have e:=G.ll
  refine⟨by omega,by omega,(List.nodup_append.mp G.nd).2.1,fun c hc=>?_⟩
  have:=(G.az c (List.mem_append_right _ hc)).2
  omega
def sp_same(T:Txt K mg t):Sp:=fun vs H Q _=>∃(R:KindR Pr w K mg base),∃nm p so u v a,So T R nm p∧vs=[so,u,v]∧(SortAt H so nm p∧R.is H u a∧R.is H v a)∧Q (.bl true) H
theorem k0c(T:Txt K mg t):FnOk Pr w K mg base CX0 1 t.a1c t.x0u ["_law_sort_here","_law_found","_law_due"] (sp_same (w:=w) (base:=base) T):=by
  refine T.w0f.ok sc_law_same (fun vs H Q E h=>?_) (fun cdv A outer s H vs Q E hr h=>?_)
  · obtain⟨R,nm,p,so,u,v,a,_,rfl,_⟩:=h
    rfl
  · obtain⟨R,nm,p,so,u,v,a,hS,rfl,⟨⟨q,rfl,hq⟩,hu,hv⟩,k⟩:=h
    refine⟨_,(a0c (b0n (a0t c0j (a0p a0n (pv 0) a0e (fun _ _=>rfl)) b0e (a0w _)) (a0i (a0m (f0q (a0z c0o (by rfl) T.z_isinstance boot_isinstance (a0a (pv 1) (a0a (d0h (v:=.ty "bool") rfl T.z_bool boot_bool rfl) a0b))) (f0p (e0w (op_eqD hr.units) (pv 1) (pv 2) (a0w _)))))) a0y) (a0c (b0n (PW.pt (j0x (a0t e0x (pv 2) c0z (a0w _)) (i0m (a0t e0x (pv 1) c0z (a0w _))))) (a0i (a0m (f0q (e0w e0x (pv 2) c0z (a0w _)) (f0p (e0w e0x (pv 1) c0z (a0w _)))))) a0y) (a0c (b0n (a0t c0j (a0p a0n (pv 0) a0e (fun _ _=>rfl)) b0e (a0w _)) (a0c (b0n (PW.pt (j0x (g0t (e0l (a0z c0o (by rfl) T.z_isinstance boot_isinstance (a0a (pv 1) (a0a (d0h (v:=.ty "tuple") rfl T.z_tuple boot_tuple rfl) a0b))))) (j0x (a0t op_ne (a0z b0l (by rfl) T.z_len PySem.boot_len (a0a (pv 1) a0b)) a0e (a0w _)) (j0x (e0l (a0z c0o (by rfl) T.z_isinstance boot_isinstance (a0a (a0p a0n (pv 1) a0e (fun _ _=>rfl)) (a0a (d0h (v:=.ty "bool") rfl T.z_bool boot_bool rfl) a0b)))) (i0m (e0l (a0z c0o (by rfl) T.z_isinstance boot_isinstance (a0a (a0p a0n (pv 1) a0e (fun _ _=>rfl)) (a0a (d0h (v:=.ty "bool") rfl T.z_bool boot_bool rfl) a0b))))))))) (a0i (a0m g0w)) a0y) (a0i (a0m (f0q (a0z c0o (by rfl) T.z_isinstance boot_isinstance (a0a (a0p a0n (pv 1) a0e (fun _ _=>rfl)) (a0a (d0h (v:=.ty "int") rfl T.z_int boot_int rfl) a0b))) (f0q (a0z c0o (by rfl) T.z_isinstance boot_isinstance (a0a (a0p a0n (pv 1) a0e (fun _ _=>rfl)) (a0a (d0h (v:=.ty "int") rfl T.z_int boot_int rfl) a0b))) (f0p (e0w (op_eqD hr.units) (pv 1) (pv 2) (a0w _)))))))) a0y) (a0i (a0m (f0q (a0z c0o (by rfl) T.z_isinstance boot_isinstance (a0a (pv 1) (a0a (d0h (v:=.ty "int") rfl T.z_int boot_int rfl) a0b))) (f0q (pe_not (a0z c0o (by rfl) T.z_isinstance boot_isinstance (a0a (pv 1) (a0a (d0h (v:=.ty "bool") rfl T.z_bool boot_bool rfl) a0b)))) (f0p (e0w (op_eqD hr.units) (pv 1) (pv 2) (a0w _)))))))))),?_⟩
    cases hS with
    | tr=>
      refine⟨_,rfl,_,_,_,_,rfl,rfl,SqT.of hq,rfl,rfl,_,rfl,?_⟩
      rw[show decide (V.str ("truths":Str)=V.str ("truths":Str))=true by decide +kernel]
      refine iteT ?_
      have hu':=hu
      cases (show u=.bl a from hu)
      refine⟨_,rfl,_,_,_,_,rfl,TyOf.bl _,T.k_bb,_,rfl,?_⟩
      refine iteT ?_
      exact⟨_,rfl,_,rfl,(R_tr (w:=w) (base:=base) T).eqD hu' hv rfl k⟩
    | fr=>
      have hu':=hu
      have hv':=hv
      obtain⟨pu,rfl,hu⟩:=hu
      obtain⟨pv,rfl,hv⟩:=hv
      have hl:LenV K (.ref pu) H 2:=.inr ⟨_,SqT.of hu,rfl⟩
      refine⟨_,rfl,_,_,_,_,rfl,rfl,SqT.of hq,rfl,rfl,_,rfl,?_⟩
      rw[show decide (V.str ("fractions":Str)=V.str ("truths":Str))=false by decide +kernel]
      refine iteF ?_
      refine⟨_,rfl,rfl,_,rfl,?_⟩
      refine iteF ?_
      refine⟨_,rfl,rfl,_,rfl,?_⟩
      (try refine iteF ?_)
      (try refine iteF ?_)
      refine⟨_,rfl,_,_,_,_,rfl,rfl,SqT.of hq,rfl,rfl,_,rfl,?_⟩
      rw[show decide (V.str ("fractions":Str)=V.str ("fractions":Str))=true by decide +kernel]
      refine iteT ?_
      refine⟨_,rfl,_,_,_,_,rfl,TyOf.tup hu,T.k_tt,_,rfl,?_⟩
      (try refine iteF ?_)
      refine⟨_,rfl,_,_,rfl,hl,rfl,_,rfl,?_⟩
      (try dsimp only)
      refine iteNI (fun ne=>absurd rfl ne) (fun _=>?_)
      refine⟨_,rfl,_,_,_,_,rfl,rfl,SqT.of hu,rfl,_,_,_,_,rfl,TyOf.int _,T.k_ib,_,rfl,?_⟩
      refine iteF ?_
      refine⟨_,rfl,_,_,_,_,rfl,rfl,SqT.of hu,rfl,_,_,_,_,rfl,TyOf.int _,T.k_ib,_,rfl,?_⟩
      (try refine iteF ?_)
      (try refine iteF ?_)
      refine⟨_,rfl,_,_,_,_,rfl,rfl,SqT.of hu,rfl,_,_,_,_,rfl,TyOf.int _,T.k_ii,_,rfl,?_⟩
      refine iteT ?_
      refine⟨_,rfl,_,_,_,_,rfl,rfl,SqT.of hu,rfl,_,_,_,_,rfl,TyOf.int _,T.k_ii,_,rfl,?_⟩
      refine iteT ?_
      exact⟨_,rfl,_,rfl,(R_fr (w:=w) (base:=base) T).eqD hu' hv' rfl k⟩
    | re p hp hq' hi=>
      have hu':=hu
      have hv':=hv
      cases (show u=.int a.x from hu)
      cases (show v=.int a.x from hv)
      refine⟨_,rfl,_,_,_,_,rfl,rfl,SqT.of hq,rfl,rfl,_,rfl,?_⟩
      rw[show decide (V.str ("residues":Str)=V.str ("truths":Str))=false by decide +kernel]
      refine iteF ?_
      refine⟨_,rfl,rfl,_,rfl,?_⟩
      refine iteF ?_
      refine⟨_,rfl,rfl,_,rfl,?_⟩
      (try refine iteF ?_)
      (try refine iteF ?_)
      refine⟨_,rfl,_,_,_,_,rfl,rfl,SqT.of hq,rfl,rfl,_,rfl,?_⟩
      rw[show decide (V.str ("residues":Str)=V.str ("fractions":Str))=false by decide +kernel]
      refine iteF ?_
      refine⟨_,rfl,_,_,_,_,rfl,TyOf.int _,T.k_ii,_,rfl,?_⟩
      refine iteT ?_
      refine⟨_,rfl,_,_,_,_,rfl,TyOf.int _,T.k_ib,_,rfl,?_⟩
      refine⟨_,rfl,?_⟩
      refine iteT ?_
      exact⟨_,rfl,_,rfl,(R_re (w:=w) (base:=base) T p hp hq').eqD hu' hv' rfl k⟩
    | co=>
      have hu':=hu
      have hv':=hv
      cases (show u=cV a from hu)
      cases (show v=cV a from hv)
      refine⟨_,rfl,_,_,_,_,rfl,rfl,SqT.of hq,rfl,rfl,_,rfl,?_⟩
      rw[show decide (V.str ("costs":Str)=V.str ("truths":Str))=false by decide +kernel]
      refine iteF ?_
      cases a with
      | none=>
        refine⟨_,rfl,rfl,_,rfl,?_⟩
        refine iteT ?_
        (try refine iteT ?_)
        refine⟨_,rfl,rfl,_,rfl,?_⟩
        refine iteT ?_
        exact⟨_,rfl,rfl,k⟩
      | some i=>
        refine⟨_,rfl,rfl,_,rfl,?_⟩
        refine iteF ?_
        refine⟨_,rfl,rfl,_,rfl,?_⟩
        (try refine iteF ?_)
        (try refine iteF ?_)
        refine⟨_,rfl,_,_,_,_,rfl,rfl,SqT.of hq,rfl,rfl,_,rfl,?_⟩
        rw[show decide (V.str ("costs":Str)=V.str ("fractions":Str))=false by decide +kernel]
        refine iteF ?_
        refine⟨_,rfl,_,_,_,_,rfl,TyOf.int _,T.k_ii,_,rfl,?_⟩
        refine iteT ?_
        refine⟨_,rfl,_,_,_,_,rfl,TyOf.int _,T.k_ib,_,rfl,?_⟩
        refine⟨_,rfl,?_⟩
        refine iteT ?_
        exact⟨_,rfl,_,rfl,(R_co (w:=w) (base:=base) T).eqD hu' hv' rfl k⟩
def Mach(R:KindR Pr w K mg base)(l:List Nat)(n:Nat)(st:Nat→R.S.W)(tb:Nat→Nat→Nat→R.S.W)(en:Nat→R.S.W)(m:Nat)(v:V)(H:Hp):Prop:=
  ∃p sv tv ev,v=.ref p∧H p=some (.tup [vT l,sv,tv,ev])∧R.Row n st m sv H∧TupOf (fun j u H=>R.Tab n n (tb j) m u H) l.length tv H∧R.Row n en m ev H
theorem Mach.same{R:KindR Pr w K mg base}{l:List Nat}{n:Nat}{st:Nat→R.S.W}{tb:Nat→Nat→Nat→R.S.W}{en:Nat→R.S.W}{m:Nat}{v:V}{H H':Hp}(s:SameT H H')(h:Mach R l n st tb en m v H):Mach R l n st tb en m v H':=by
  obtain⟨p,sv,tv,ev,rfl,hp,h1,h2,h3⟩:=h
  exact⟨p,sv,tv,ev,rfl,s _ _ hp,KindR.Row.same s h1,h2.mono s fun _ _ _ q=>KindR.Tab.same s q,KindR.Row.same s h3⟩
def wdx(l ws:List Nat)(k:Nat):Nat:=l.idxOf (ws.getD k 0)
theorem wdx_at{l ws:List Nat}{k c:Nat}(h:ws[k]? = some c):wdx l ws k=l.idxOf c:=by
  unfold wdx
  rw[List.getD_eq_getElem?_getD,h];rfl
structure WOk(l ws:List Nat)(z:Nat):Prop where
  lo:LOk l
  al:∀c∈ws,c∈l
  le:ws.length≤z
theorem WOk.asc{l ws:List Nat}{z:Nat}(W:WOk l ws z):(tx ws).cps.all (· < 128)=true:=by
  show ws.toArray.all (· < 128)=true
  simp only[List.all_toArray,List.all_eq_true,decide_eq_true_eq]
  exact fun c hc=>W.lo.as c (W.al c hc)
theorem WOk.mem{l ws:List Nat}{z k c:Nat}(W:WOk l ws z)(h:ws[k]? = some c):c∈l:=W.al c (List.mem_of_getElem? h)
theorem tx_get{ws:List Nat}{k c:Nat}(h:(tx ws).cps[k]? = some c):ws[k]? = some c:=by
  have:ws.toArray[k]? = some c:=h
  simpa using this
theorem idx_lt{l:List Nat}{c:Nat}(h:c∈l):l.idxOf c < l.length:=List.idxOf_lt_length_iff.mpr h
theorem c0g{H:Hp}{a:Addr}{xs:List V}{o:HO}(h:H a=some (.lst xs)):SameT H (upd H a o):=fun b vs hb=>by
  rw[b0b (by rintro rfl;rw[h]at hb;cases hb)];exact hb
theorem j0s{H H1:Hp}{a:Addr}{o:HO}(s:Same H H1)(n:H a=none):Same H (upd H1 a o):=fun b u hb=>by
  rw[b0b (a0v hb n)];exact s _ _ hb
def sp_is_word:Sp:=fun vs H Q _=>∃l ws z,vs=[vT l,vT ws]∧(WOk l ws z∧z≤1000)∧∀H',Same H H'→Q (.bl true) H'
theorem ok_is_word(T:Txt K mg t):FnOk Pr w K mg base CX0 1 t.b1s t.y0q ["letters","thing"] sp_is_word:=by
  refine T.y0l.ok sc_is_word (fun vs H Q E h=>?_) (fun cdv A outer s H vs Q E hr h=>?_)
  · obtain⟨l,ws,z,rfl,_⟩:=h
    rfl
  · obtain⟨l,ws,z,rfl,⟨W,hz⟩,k⟩:=h
    have wz:=W.le
    refine⟨_,(a0i (a0m (f0q (a0z c0o (by rfl) T.z_isinstance boot_isinstance (a0a (pv 1) (a0a (d0h (v:=.ty "str") rfl T.z_str boot_str rfl) a0b))) (f0p (a0z (call_all rfl) (by rfl) T.z_all boot_all (a0a (b0z (xs:=["sign"]) rfl (show b0m ["letters","thing"] (a0h g0o) _ from⟨rfl,by decide +kernel,by decide +kernel,by decide +kernel,by decide +kernel,by decide +kernel⟩) (l0y (pv 1)) (fun _ _ _ _ _=>(a0u (i:=2) (by show List.Nodup (["letters","thing","sign"]:List Str);decide +kernel) rfl (Or.inl rfl))) (fun _ _ _ _ _=>(e0w op_in_str (pv 2) (pv 0) (by with_unfolding_all rfl)))) a0b)))))),?_⟩
    refine⟨_,rfl,_,_,_,_,rfl,TyOf.str _,T.k_ss,_,rfl,?_⟩
    refine iteT ?_
    refine⟨_,rfl,_,rfl,W.asc,b0i (n:=ws.length) (fun j ys H2=>ys=(List.replicate j true).map V.bl∧H2=H) (by omega) ⟨rfl,rfl⟩ (fun j ys H2 q=>by rw[q.1];simp) ?_ ?_ ?_⟩
    · rintro j ys H2 hj ⟨rfl,rfl⟩
      refine⟨(by show j < ws.toArray.size;simpa using hj),fun y H' hy=>?_⟩
      obtain⟨rfl,c,hc,rfl⟩:=hy
      have o:=occ_of W.lo (W.mem (tx_get hc))
      refine⟨⟨[some _],rfl,rfl⟩,_,rfl,_,rfl,_,_,rfl,rfl,?_,rfl⟩
      have e:(!(Builtin.Str.occurrences (tx l) (tx [c]) 0 (tx l).length 1).isEmpty)=true:=by rw[o];rfl
      show _++[V.bl (!(Builtin.Str.occurrences (tx l) (tx [c]) 0 (tx l).length 1).isEmpty)]=_
      rw[e,List.replicate_succ',List.map_append];rfl
    · rintro ys H2 ⟨rfl,rfl⟩
      show ws.toArray.size≤_
      simp
    · rintro ys H2 p ⟨rfl,rfl⟩ np
      refine⟨p,List.replicate ws.length true,rfl,SqL.of a0d,?_⟩
      have e:(List.replicate ws.length true).all id=true:=by rw[List.all_eq_true];exact fun b hb=>(List.mem_replicate.mp hb).2
      show Q (.bl ((List.replicate ws.length true).all id)) _
      rw[e]
      exact k _ (a0g np)
def sp_need_word:Sp:=fun vs H Q _=>∃l ws z,vs=[vT l,vT ws]∧(WOk l ws z∧z≤1000)∧∀H',Same H H'→Q .non H'
theorem i0o(T:Txt K mg t):FnOk Pr w K mg base CX0 2 t.y0g t.t0s ["letters","thing"] sp_need_word:=by
  refine T.u0b.ok sc_need_word (fun vs H Q E h=>?_) (fun cdv A outer s H vs Q E hr h=>?_)
  · obtain⟨l,ws,z,rfl,_⟩:=h
    rfl
  · obtain⟨l,ws,z,rfl,W,k⟩:=h
    refine⟨_,(a0i (b0n (g0t (e0l (a0f (ok_is_word T) hr.m rfl T.z0d T.y0l.kp T.z0a .nil a0k (a0a (pv 0) (a0a (pv 1) a0b))))) (a0i f0f) a0y)),?_⟩
    refine⟨_,rfl,_,rfl,l,ws,z,rfl,W,fun H' s'=>⟨_,rfl,?_⟩⟩
    (try refine iteF ?_)
    exact k _ s'
def put3(S:SR)(x:Nat→Nat→Nat→S.W)(i:Nat)(b:Nat→Nat→S.W):Nat→Nat→Nat→S.W:=fun j=>if j=i then b else x j
theorem put3_at{S:SR}(x:Nat→Nat→Nat→S.W)(i:Nat)(b:Nat→Nat→S.W):put3 S x i b i=b:=if_pos rfl
theorem put3_ne{S:SR}(x:Nat→Nat→Nat→S.W){i j:Nat}(b:Nat→Nat→S.W)(h:j < i):put3 S x i b j=x j:=if_neg (Nat.ne_of_lt h)
def sp_lmachine(T:Txt K mg t):Sp:=fun vs H Q _=>∃(R:KindR Pr w K mg base),∃nm p,∃(a:Addr),∃so l,∃(n:Nat),∃(z:Int),∃g,So T R nm p∧vs=[.ref a,so,vT l,.int z,.bl g]∧(Dr H a∧SortAt H so nm p∧LOk l∧n≤1000∧z=n)∧∀v H' st tb en,SameX a H H'→Dr H' a→Mach R l n st tb en 1 v H'→Q v H'
theorem LOk.asc{l:List Nat}(L:LOk l):(tx l).cps.all (· < 128)=true:=by
  show l.toArray.all (· < 128)=true
  simp only[List.all_toArray,List.all_eq_true,decide_eq_true_eq]
  exact fun c hc=>L.as c hc
theorem l0h(T:Txt K mg t):FnOk Pr w K mg base CX0 40 t.t0k t.r0g ["_law_state_here","_law_sort_here","_law_letters_here","_law_many","_law_great"] (sp_lmachine (w:=w) (base:=base) T):=by
  refine T.q0y.ok sc_law_machine (fun vs H Q E h=>?_) (fun cdv A outer s H vs Q E hr h=>?_)
  · obtain⟨R,nm,p,a,so,l,n,z,g,_,rfl,_⟩:=h
    rfl
  · obtain⟨R,nm,p,a,so,l,n,z,g,hS,rfl,⟨hD,hso,L,hn,rfl⟩,k⟩:=h
    have l3:=L.h3
    refine⟨_,(a0c (a0s (i:=5) sc_law_machine.nd rfl (Or.inl rfl) (a0f (g0f T) hr.m rfl T.w0v T.x0q.kp T.x0j .nil a0k (a0a (pv 0) (a0a (pv 1) (a0a (pv 3) (a0a (pv 4) a0b)))))) (a0c (a0s (i:=6) sc_law_machine.nd rfl (Or.inl rfl) (b0a a0q (by rfl) T.z_tuple boot_tuple (a0a (b0z (xs:=["_law_letter"]) rfl (show b0m ["_law_state_here","_law_sort_here","_law_letters_here","_law_many","_law_great","_law_start","_law_tables"] (a0h d0a) _ from⟨rfl,by decide +kernel,by decide +kernel,by decide +kernel,by decide +kernel,by decide +kernel⟩) (l0y (pv 2)) (fun _ _ _ _ _=>(a0u (i:=7) (by show List.Nodup (["_law_state_here","_law_sort_here","_law_letters_here","_law_many","_law_great","_law_start","_law_tables","_law_letter"]:List Str);decide +kernel) rfl (Or.inl rfl))) (fun _ _ _ _ _=>(a0f (ok_law_table (w:=w) (base:=base) T) hr.m rfl T.v0d T.u0g.kp T.t0w .nil a0k (a0a (pv 0) (a0a (pv 1) (a0a (pv 3) (a0a (pv 3) (a0a (pv 4) a0b)))))))) a0b))) (a0i (a0m (b0q (a0a (pv 2) (a0a (pv 5) (a0a (pv 6) (a0a (a0f (g0f T) hr.m rfl T.w0v T.x0q.kp T.x0j .nil a0k (a0a (pv 0) (a0a (pv 1) (a0a (pv 3) (a0a (pv 4) a0b))))) a0b))))))))),?_⟩
    refine⟨_,rfl,_,rfl,_,rfl,_,rfl,R,nm,p,a,so,n,_,g,hS,rfl,⟨hD,hso,hn,rfl⟩,fun sv H1 st s1 d1 r1=>?_⟩
    refine⟨_,rfl,_,rfl,L.asc,b0i (n:=l.length) (fun j ys H2=>∃tb,SameX a H1 H2∧Dr H2 a∧Ents (fun j u H=>R.Tab n n (tb j) 1 u H) ys j H2) (by omega) ⟨fun _ _ _=>R.S.zero,SameX.refl _ _,d1,Ents.nil⟩ (fun j ys H2 ⟨_,_,_,q⟩=>q.1) ?_ ?_ ?_⟩
    · rintro j ys H2 hj ⟨tb,q,d2,e⟩
      refine⟨(by show j < l.toArray.size;simpa using hj),fun y H' hy=>?_⟩
      obtain⟨rfl,c,hc,rfl⟩:=hy
      refine⟨⟨[some _],rfl,rfl⟩,_,rfl,_,rfl,_,rfl,_,rfl,_,rfl,R,nm,p,a,so,n,n,_,_,g,hS,rfl,⟨d2,hso.same ((s1.trans q).tt hD),hn,hn,rfl,rfl⟩,fun v H3 b s3 d3 r3=>?_⟩
      refine⟨put3 R.S tb j b,q.trans s3,d3,(e.mono fun i u hi w'=>?_).snoc (by rw[put3_at];exact r3)⟩
      have w1:=KindR.Tab.same (s3.tt d2) w'
      rw[put3_ne _ _ hi]
      exact w1
    · rintro ys H2 ⟨tb,q,d2,e⟩
      show l.toArray.size≤_
      simp
    · rintro ys H2 lp ⟨tb,q,d2,e⟩ nl
      have t1:=a0g (o:=.lst ys) nl
      refine⟨lp,ys,rfl,.inl ⟨SqL.of a0d,fun l2 n2=>?_⟩⟩
      have t2:=a0g (o:=.tup ys) n2
      have t12:=t1.trans t2
      have d4:=d2.same t12
      have s4:=(s1.trans q).trans (.of t12)
      have htv:TupOf (fun j u H=>R.Tab n n (tb j) 1 u H) l.length (.ref l2) (upd (upd H2 lp (.lst ys)) l2 (.tup ys)):=⟨l2,ys,rfl,a0d,e.mono fun _ _ _ w'=>KindR.Tab.same t12.t w'⟩
      refine⟨_,rfl,_,rfl,_,rfl,_,rfl,_,rfl,_,rfl,_,rfl,R,nm,p,a,so,n,_,g,hS,rfl,⟨d4,hso.same (s4.tt hD),hn,rfl⟩,fun ev H5 en s5 d5 r5=>?_⟩
      refine⟨(by show 4≤sizeLine;decide),fun p6 n6=>?_⟩
      have t6:=a0g (o:=.tup [vT l,sv,V.ref l2,ev]) n6
      have u5:=s5.tt d4
      have q5:=(q.trans (.of t12)).trans s5
      exact k _ _ st tb en ((s4.trans s5).trans (.of t6)) (d5.same t6) ⟨p6,_,_,_,rfl,a0d,KindR.Row.same ((q5.tt d1).trans t6.t) r1,htv.mono (u5.trans t6.t) fun _ _ _ w'=>KindR.Tab.same (u5.trans t6.t) w',KindR.Row.same t6.t r5⟩
structure AZ(l:List Nat):Prop where
  lo:LOk l
  az:∀c∈l,97≤c∧c≤122
def MachM(R:KindR Pr w K mg base)(l:List Nat)(n:Nat)(st:Nat→R.S.W)(tb:Nat→Nat→Nat→R.S.W)(en:Nat→R.S.W)(_:Nat)(v:V)(H:Hp):Prop:=
  ∃p sv tv ev m1 m2 m3,v=.ref p∧H p=some (.tup [vT l,sv,tv,ev])∧R.Row n st m1 sv H∧TupOf (fun j u H=>R.Tab n n (tb j) m2 u H) l.length tv H∧R.Row n en m3 ev H
theorem Ents.app{Pd:Nat→V→Hp→Prop}{xs ys:List V}{n k:Nat}{H:Hp}(h1:Ents Pd xs n H)(h2:Ents (fun j=>Pd (n+j)) ys k H):Ents Pd (xs++ys) (n+k) H:=
  ⟨by rw[List.length_append,h1.1,h2.1],fun j hj=>by
    by_cases hn:j < n
    · obtain⟨u,e,q⟩:=h1.2 j hn
      exact⟨u,by rw[List.getElem?_append_left (by rw[h1.1];exact hn)];exact e,q⟩
    · obtain⟨u,e,q⟩:=h2.2 (j - n) (by omega)
      rw[show n+(j - n)=j by omega]at q
      exact⟨u,by rw[List.getElem?_append_right (by rw[h1.1];omega),h1.1];exact e,q⟩⟩
theorem lv_ups{S:SR}{c:Nat}{x:S.W}{k:Nat}:∀{d:Nat},S.lv k c x→S.lv (k+d) c x
  | 0,h=>h
  | d+1,h=>S.lv_up _ _ _ (lv_ups h)
theorem Row.up{R:KindR Pr w K mg base}{n m m':Nat}{x:Nat→R.S.W}{v:V}{H:Hp}(h:m≤m')(r:R.Row n x m v H):R.Row n x m' v H:=by
  obtain⟨d,rfl⟩:∃d,m'=m+d:=⟨m' - m,by omega⟩
  exact r.mono (SameT.refl _) fun _ _ _ q=>⟨q.1,lv_ups q.2⟩
theorem Tab.up{R:KindR Pr w K mg base}{k n m m':Nat}{x:Nat→Nat→R.S.W}{v:V}{H:Hp}(h:m≤m')(r:R.Tab k n x m v H):R.Tab k n x m' v H:=r.mono (SameT.refl _) fun _ _ _ q=>Row.up h q
theorem Row.congr{R:KindR Pr w K mg base}{n m:Nat}{x y:Nat→R.S.W}{v:V}{H:Hp}(h:∀i,i < n→x i=y i)(r:R.Row n x m v H):R.Row n y m v H:=
  r.mono (SameT.refl _) fun j _ hj q=>⟨by rw[← h j hj];exact q.1,by rw[← h j hj];exact q.2⟩
def sp_noughts(w:World)(K:PySem.W.Frag)(mg:Str→Option Value)(base:Heap):Sp:=fun vs H Q _=>∃(R:KindR Pr w K mg base),∃kv,∃(z:Int),∃(n m:Nat),vs=[kv,.int z]∧(KAt R.C R.fs H kv∧n≤1000∧z=n)∧
  ∀v H',Same H H'→R.Row n (fun _=>R.S.zero) m v H'→Q v H'
theorem f0h(T:Txt K mg t):FnOk Pr w K mg base CX0 41 t.b1j t.z0j ["kind","size"] (sp_noughts w K mg base):=by
  refine T.y0d.ok sc_noughts (fun vs H Q E h=>?_) (fun cdv A outer s H vs Q E hr h=>?_)
  · obtain⟨R,kv,z,n,m,rfl,_⟩:=h
    rfl
  · obtain⟨R,kv,z,n,m,rfl,⟨⟨kp,dx,rfl,hk⟩,hn,rfl⟩,k⟩:=h
    refine⟨_,(a0i (a0m (b0a a0q (by rfl) T.z_tuple boot_tuple (a0a (b0z (xs:=["place"]) rfl (show b0m ["kind","size"] (a0h g0n) _ from⟨rfl,by decide +kernel,by decide +kernel,by decide +kernel,by decide +kernel,by decide +kernel⟩) (b0v rfl T.z_range (a0a (pv 1) a0b)) (fun _ _ _ _ _=>(a0u (i:=2) (by show List.Nodup (["kind","size","place"]:List Str);decide +kernel) rfl (Or.inl rfl))) (fun _ _ _ _ _=>(g0v (pv 0) R.cl R.t_nought R.G_nought hr.m R.b_nought .nil a0k))) a0b)))),?_⟩
    refine⟨_,rfl,_,rfl,(by omega),(by omega),b0i (n:=n) (fun j ys H2=>Same H H2∧Ents (R.Wt (fun _=>R.S.zero) m) ys j H2) hn ⟨Same.refl _,Ents.nil⟩ (fun j ys H2 q=>q.2.1) ?_ ?_ ?_⟩
    · rintro j ys H2 hj ⟨q,e⟩
      refine⟨(show j < (n:Int).toNat by omega),fun y H' hy=>?_⟩
      obtain⟨rfl,rfl⟩:=hy
      refine⟨⟨[some _],rfl,rfl⟩,_,rfl,_,_,_,rfl,q _ _ hk,R.l_nought,_,rfl,⟨_,_,rfl,q _ _ hk⟩,fun v H3 s3 f3=>?_⟩
      exact⟨q.trans s3,(e.mono fun _ _ _ z=>KindR.Wt.same s3.t z).snoc ⟨f3,R.S.lv_mono _ _ _ _ (by decide) (R.S.lv_zero _)⟩⟩
    · rintro ys H2 ⟨q,e⟩
      show(n:Int).toNat≤n
      omega
    · rintro ys H2 l ⟨q,e⟩ nl
      have s1':=a0g (o:=.lst ys) nl
      refine⟨l,ys,rfl,.inl ⟨SqL.of a0d,fun l2 n2=>?_⟩⟩
      have s2:=a0g (o:=.tup ys) n2
      exact k _ _ (q.trans (s1'.trans s2)) ⟨l2,ys,rfl,a0d,e.mono fun _ _ _ z=>KindR.Wt.same (s1'.trans s2).t z⟩
def sp_times_row(w:World)(K:PySem.W.Frag)(mg:Str→Option Value)(base:Heap):Sp:=fun vs H Q _=>∃(R:KindR Pr w K mg base),∃kv bv row n b x j m,vs=[kv,bv,row]∧(KAt R.C R.fs H kv∧R.is H bv b∧R.S.lv j 32 b∧R.Row n x m row H∧n≤1000∧j+m≤100000)∧
  ∀v H',Same H H'→R.Row n (fun i=>R.S.mul b (x i)) (j+m) v H'→Q v H'
theorem d0l(T:Txt K mg t):FnOk Pr w K mg base CX0 41 t.y0v t.t0x ["kind","by","row"] (sp_times_row w K mg base):=by
  refine T.t0l.ok sc_times_row (fun vs H Q E h=>?_) (fun cdv A outer s H vs Q E hr h=>?_)
  · obtain⟨R,kv,bv,row,n,b,x,j,m,rfl,_⟩:=h
    rfl
  · obtain⟨R,kv,bv,row,n,b,x,jl,m,rfl,⟨⟨kp,dx,rfl,hk⟩,hb,lb,⟨p,us,rfl,hp,ent⟩,hn,hz⟩,k⟩:=h
    refine⟨_,(a0i (a0m (b0a a0q (by rfl) T.z_tuple boot_tuple (a0a (b0z (xs:=["x"]) rfl (show b0m ["kind","by","row"] (a0h d0x) _ from⟨rfl,by decide +kernel,by decide +kernel,by decide +kernel,by decide +kernel,by decide +kernel⟩) (e0m (pv 2)) (fun _ _ _ _ _=>(a0u (i:=3) (by show List.Nodup (["kind","by","row","x"]:List Str);decide +kernel) rfl (Or.inl rfl))) (fun _ _ _ _ _=>(pe_meth (pv 0) R.cl R.t_times R.G_times hr.m R.b_times .nil a0k (a0a (pv 1) (a0a (pv 3) a0b))))) a0b)))),?_⟩
    refine⟨_,rfl,p,rfl,⟨_,SqT.of hp⟩,b0i (n:=n) (fun j ys H2=>Same H H2∧Ents (R.Wt (fun i=>R.S.mul b (x i)) (jl+m)) ys j H2) hn ⟨Same.refl _,Ents.nil⟩ (fun j ys H2 q=>q.2.1) ?_ ?_ ?_⟩
    · rintro j ys H2 hj ⟨q,e⟩
      obtain⟨u,eu,pu⟩:=ent.2 j hj
      refine⟨⟨_,_,SqT.of (q _ _ hp),eu⟩,fun y H' hy=>?_⟩
      obtain⟨rfl,hy⟩:=hy
      have:=hy _ (SqT.of (q _ _ hp))
      rw[eu]at this
      cases this
      refine⟨⟨[some _],rfl,rfl⟩,_,rfl,_,_,_,rfl,q _ _ hk,R.l_times,_,rfl,_,rfl,_,_,_,_,_,100 * jl,100 * m,rfl,⟨⟨_,_,rfl,q _ _ hk⟩,R.same q.t hb,R.same q.t pu.1,R.S.lv_sz _ _ _ (by decide) lb,R.S.lv_sz _ _ _ (by decide) pu.2,by omega⟩,fun v H3 s3 f3=>?_⟩
      exact⟨q.trans s3,(e.mono fun _ _ _ z=>KindR.Wt.same s3.t z).snoc ⟨f3,R.S.lv_mono _ _ _ _ (by decide) (R.S.lv_mul _ _ _ _ lb pu.2)⟩⟩
    · rintro ys H2 ⟨q,e⟩
      exact⟨_,SqT.of (q _ _ hp),by rw[ent.1];exact Nat.le_refl _⟩
    · rintro ys H2 l ⟨q,e⟩ nl
      have s1':=a0g (o:=.lst ys) nl
      refine⟨l,ys,rfl,.inl ⟨SqL.of a0d,fun l2 n2=>?_⟩⟩
      have s2:=a0g (o:=.tup ys) n2
      exact k _ _ (q.trans (s1'.trans s2)) ⟨l2,ys,rfl,a0d,e.mono fun _ _ _ z=>KindR.Wt.same (s1'.trans s2).t z⟩
def MachG(R:KindR Pr w K mg base)(l:List Nat)(n:Nat)(st:Nat→R.S.W)(tb:Nat→Nat→Nat→R.S.W)(en:Nat→R.S.W)(m1 m2 m3:Nat)(v:V)(H:Hp):Prop:=
  ∃p sv tv ev,v=.ref p∧H p=some (.tup [vT l,sv,tv,ev])∧R.Row n st m1 sv H∧TupOf (fun j u H=>R.Tab n n (tb j) m2 u H) l.length tv H∧R.Row n en m3 ev H
theorem MachG.same{R:KindR Pr w K mg base}{l:List Nat}{n:Nat}{st:Nat→R.S.W}{tb:Nat→Nat→Nat→R.S.W}{en:Nat→R.S.W}{m1 m2 m3:Nat}{v:V}{H H':Hp}(s:SameT H H')(h:MachG R l n st tb en m1 m2 m3 v H):MachG R l n st tb en m1 m2 m3 v H':=by
  obtain⟨p,sv,tv,ev,rfl,hp,h1,h2,h3⟩:=h
  exact⟨p,sv,tv,ev,rfl,s _ _ hp,KindR.Row.same s h1,h2.mono s fun _ _ _ q=>KindR.Tab.same s q,KindR.Row.same s h3⟩
theorem MachG.m{R:KindR Pr w K mg base}{l:List Nat}{n:Nat}{st:Nat→R.S.W}{tb:Nat→Nat→Nat→R.S.W}{en:Nat→R.S.W}{m1 m2 m3:Nat}{v:V}{H:Hp}(h:MachG R l n st tb en m1 m2 m3 v H):MachM R l n st tb en 0 v H:=by
  obtain⟨p,sv,tv,ev,a,b,c,d,e⟩:=h
  exact⟨p,sv,tv,ev,m1,m2,m3,a,b,c,d,e⟩
theorem Mach.g{R:KindR Pr w K mg base}{l:List Nat}{n:Nat}{st:Nat→R.S.W}{tb:Nat→Nat→Nat→R.S.W}{en:Nat→R.S.W}{m:Nat}{v:V}{H:Hp}(h:Mach R l n st tb en m v H):MachG R l n st tb en m m m v H:=h
def wgh(S:SR)(l:List Nat)(n:Nat)(st:Nat→S.W)(tb:Nat→Nat→Nat→S.W)(en:Nat→S.W)(ws:List Nat):S.W:=dotW S (ahd S n st tb (wdx l ws) ws.length) en n
theorem if0(n:Nat):(if n=0 then 0 else n)=n:=by split <;>omega
structure MOk(n:Nat)(l ws:List Nat):Prop where
  W:WOk l ws 100
  nn:n≤32
theorem lv_turn{i m1 m2:Nat}:m1+i * m2+m2=m1+(i+1) * m2:=by rw[Nat.succ_mul,Nat.add_assoc]
theorem lv_le{i m2:Nat}(h:i≤100):i * m2≤100 * m2:=Nat.mul_le_mul_right m2 h
def sp_rooms(w:World)(K:PySem.W.Frag)(mg:Str→Option Value)(base:Heap):Sp:=fun vs H Q _=>∃(R:KindR Pr w K mg base),∃mv l n st tb en m1 m2 m3,vs=[mv]∧MachG R l n st tb en m1 m2 m3 mv H∧Q (.int n) H
theorem c0k(T:Txt K mg t):FnOk Pr w K mg base CX0 1 t.c1s t.b1x ["machine"] (sp_rooms w K mg base):=by
  refine T.b1z.ok sc_rooms (fun vs H Q E h=>?_) (fun cdv A outer s H vs Q E hr h=>?_)
  · obtain⟨R,mv,l,n,st,tb,en,m1,m2,m3,rfl,_⟩:=h
    rfl
  · obtain⟨R,mv,l,n,st,tb,en,m1,m2,m3,rfl,⟨p,sv,tv,ev,rfl,hp,h1,h2,h3⟩,k⟩:=h
    refine⟨_,(a0i (a0m (a0z b0l (by rfl) T.z_len PySem.boot_len (a0a (a0p a0n (pv 0) a0e (fun _ _=>rfl)) a0b)))),?_⟩
    exact⟨_,rfl,_,_,_,_,rfl,rfl,SqT.of hp,rfl,_,_,rfl,h1.len,k⟩
def sp_table_of(w:World)(K:PySem.W.Frag)(mg:Str→Option Value)(base:Heap):Sp:=fun vs H Q _=>∃(R:KindR Pr w K mg base),∃mv l n st tb en m1 m2 m3 c,vs=[mv,vT [c]]∧(MachG R l n st tb en m1 m2 m3 mv H∧LOk l∧c∈l)∧∀v,R.Tab n n (tb (l.idxOf c)) m2 v H→Q v H
theorem ok_table_of(T:Txt K mg t):FnOk Pr w K mg base CX0 1 t.a1h t.v0s ["machine","letter"] (sp_table_of w K mg base):=by
  refine T.v0w.ok sc_table_of (fun vs H Q E h=>?_) (fun cdv A outer s H vs Q E hr h=>?_)
  · obtain⟨R,mv,l,n,st,tb,en,m1,m2,m3,c,rfl,_⟩:=h
    rfl
  · obtain⟨R,mv,l,n,st,tb,en,m1,m2,m3,c,rfl,⟨⟨p,sv,tv,ev,rfl,hp,h1,⟨q,ts,rfl,hq,et⟩,h3⟩,L,hc⟩,k⟩:=h
    obtain⟨u,eu,pu⟩:=et.2 _ (idx_lt hc)
    refine⟨_,(a0i (a0m (a0p a0n (a0p a0n (pv 0) a0e (fun _ _=>rfl)) (g0e PySem.F.plainAttrs_str PySem.F.slot_str_index PySem.F.type_str_index mt_indexS (a0p a0n (pv 0) a0e (fun _ _=>rfl)) (a0a (pv 1) a0b)) (fun _ _=>rfl)))),?_⟩
    exact⟨_,rfl,_,_,_,_,rfl,rfl,SqT.of hp,rfl,_,rfl,_,_,_,_,rfl,rfl,SqT.of hp,rfl,rfl,_,rfl,_,_,_,_,rfl,rfl,occ_of L hc,_,_,_,_,rfl,rfl,SqT.of hq,e0k eu,k _ pu⟩
def sp_ahead(w:World)(K:PySem.W.Frag)(mg:Str→Option Value)(base:Heap):Sp:=fun vs H Q _=>∃(R:KindR Pr w K mg base),∃kv mv l n st tb en ws m1 m2 m3,vs=[kv,mv,vT ws]∧(KAt R.C R.fs H kv∧MachG R l n st tb en m1 m2 m3 mv H∧MOk n l ws∧m1+100 * m2+m3≤50000)∧
  ∀v H',Same H H'→R.Row n (ahd R.S n st tb (wdx l ws) ws.length) (m1+ws.length * m2) v H'→Q v H'
theorem ok_ahead(T:Txt K mg t):FnOk Pr w K mg base CX0 43 t.d1d t.b1p ["kind","machine","word"] (sp_ahead w K mg base):=by
  refine T.c1a.ok sc_ahead (fun vs H Q E h=>?_) (fun cdv A outer s H vs Q E hr h=>?_)
  · obtain⟨R,kv,mv,l,n,st,tb,en,ws,m1,m2,m3,rfl,_⟩:=h
    rfl
  · obtain⟨R,kv,mv,l,n,st,tb,en,ws,m1,m2,m3,rfl,⟨hk,hm,M,hz⟩,k⟩:=h
    have W:=M.W
    have wz:=W.le
    have hn:=M.nn
    obtain⟨p,sv,tv,ev,rfl,hp,h1,h2,h3⟩:=id hm
    refine⟨_,(a0c (b0f (a0f (i0o T) hr.m rfl T.u0q T.u0b.kp T.s0z .nil a0k (a0a (a0p a0n (pv 1) a0e (fun _ _=>rfl)) (a0a (pv 2) a0b)))) (a0c (a0s (i:=3) sc_ahead.nd rfl (Or.inl rfl) (a0p a0n (pv 1) a0e (fun _ _=>rfl))) (a0c (c0i PassesOwn.never rfl (l0y (pv 2)) (a0u (i:=4) sc_ahead.nd rfl (Or.inl rfl)) (a0i (a0s (i:=3) sc_ahead.nd rfl (Or.inl rfl) (a0f (ok_row_by T) hr.m rfl T.z0o T.a1r.kp T.b1b .nil a0k (a0a (pv 0) (a0a (pv 3) (a0a (a0f (ok_table_of T) hr.m rfl T.x0n T.v0w.kp T.x0s .nil a0k (a0a (pv 1) (a0a (pv 4) a0b))) a0b))))))) (a0i (a0m (pv 3)))))),?_⟩
    refine⟨_,rfl,_,_,_,_,rfl,rfl,SqT.of hp,rfl,_,rfl,l,ws,100,rfl,⟨W,by decide⟩,fun H1 s1=>?_⟩
    refine⟨_,rfl,_,_,_,_,rfl,rfl,SqT.of (s1 _ _ hp),rfl,?_⟩
    refine⟨_,rfl,_,rfl,W.asc,m0a (n:=ws.length) (fun i σ H2=>∃rv v4,σ=[some kv,some (.ref p),some (vT ws),some rv,v4]∧Same H H2∧R.Row n (ahd R.S n st tb (wdx l ws) i) (m1+i * m2) rv H2) ⟨_,_,rfl,s1,by rw[Nat.zero_mul];exact KindR.Row.same s1.t h1⟩ ?_ ?_⟩
    · rintro i σ H2 hi ⟨rv,v4,rfl,q,hrow⟩
      refine⟨(by show i < ws.toArray.size;simpa using hi),fun x H' hy=>?_⟩
      obtain⟨rfl,c,hc,rfl⟩:=hy
      have hc:=tx_get hc
      have li:=lv_le (i:=i) (m2:=m2) (by omega)
      refine⟨_,rfl,_,rfl,_,rfl,_,rfl,R,_,l,n,st,tb,en,m1,m2,m3,c,rfl,⟨hm.same q.t,W.lo,W.mem hc⟩,fun tbv htb=>?_⟩
      refine⟨R,_,_,_,n,n,_,_,m1+i * m2,m2,rfl,⟨hk.same q,hrow.seq,htb,by omega,by omega,by omega,by omega⟩,fun v H3 s3 r3=>?_⟩
      rw[if0]at r3
      refine⟨_,_,rfl,q.trans s3,?_⟩
      have r4:=r3
      rw[lv_turn,← wdx_at hc]at r4
      exact r4
    · rintro σ H2 ⟨rv,v4,rfl,q,hrow⟩
      exact⟨(by show ws.toArray.size≤_;simp),_,rfl,k _ _ q hrow⟩
def sp_weight(w:World)(K:PySem.W.Frag)(mg:Str→Option Value)(base:Heap):Sp:=fun vs H Q _=>∃(R:KindR Pr w K mg base),∃kv mv l n st tb en ws m1 m2 m3,vs=[kv,mv,vT ws]∧(KAt R.C R.fs H kv∧MachG R l n st tb en m1 m2 m3 mv H∧MOk n l ws∧m1+100 * m2+m3≤50000)∧
  ∀v H',Same H H'→R.is H' v (wgh R.S l n st tb en ws)→R.S.lv (m1+ws.length * m2+m3) 32 (wgh R.S l n st tb en ws)→Q v H'
theorem e0y(T:Txt K mg t):FnOk Pr w K mg base CX0 44 t.weight t.a1u ["kind","machine","word"] (sp_weight w K mg base):=by
  refine T.a1x.ok sc_weight (fun vs H Q E h=>?_) (fun cdv A outer s H vs Q E hr h=>?_)
  · obtain⟨R,kv,mv,l,n,st,tb,en,ws,m1,m2,m3,rfl,_⟩:=h
    rfl
  · obtain⟨R,kv,mv,l,n,st,tb,en,ws,m1,m2,m3,rfl,⟨hk,hm,M,hz⟩,k⟩:=h
    obtain⟨p,sv,tv,ev,rfl,hp,h1,h2,h3⟩:=id hm
    have wz:=M.W.le
    have hn:=M.nn
    have li:=lv_le (m2:=m2) wz
    refine⟨_,(a0i (a0m (a0f (ok_dot T) hr.m rfl T.d1b T.d1c.kp T.c1x .nil a0k (a0a (pv 0) (a0a (a0f (ok_ahead T) hr.m rfl T.b1m T.c1a.kp T.c1b .nil a0k (a0a (pv 0) (a0a (pv 1) (a0a (pv 2) a0b)))) (a0a (a0p a0n (pv 1) a0e (fun _ _=>rfl)) a0b)))))),?_⟩
    refine⟨_,rfl,_,rfl,_,rfl,_,rfl,R,_,_,l,n,st,tb,en,ws,m1,m2,m3,rfl,⟨hk,hm,M,hz⟩,fun v H1 s1 r1=>?_⟩
    refine⟨_,rfl,_,_,_,_,rfl,rfl,SqT.of (s1 _ _ hp),rfl,R,_,_,_,n,_,en,m1+ws.length * m2,m3,rfl,⟨hk.same s1,r1.seq,(KindR.Row.same s1.t h3).seq,by omega,by omega⟩,fun v2 H2 s2 f2 z2=>?_⟩
    exact k _ _ (s1.trans s2) f2 z2
def sp_few:Sp:=fun vs H Q _=>∃(z:Int),vs=[.int z]∧z≤20∧Q .non H
theorem b0j(T:Txt K mg t):FnOk Pr w K mg base CX0 1 t.q0m t.p0c ["count"] sp_few:=by
  refine T.o0y.ok h0m (fun vs H Q E h=>?_) (fun cdv A outer s H vs Q E hr h=>?_)
  · obtain⟨z,rfl,_⟩:=h
    rfl
  · obtain⟨z,rfl,hz,k⟩:=h
    refine⟨_,(a0i (b0n (a0t op_gt (pv 0) (pe_glob (v:=.int 20) rfl T.c_MOST_ROOMS.choose_spec ⟨_,rfl⟩) (a0w _)) (a0i f0f) a0y)),?_⟩
    refine⟨_,rfl,_,_,rfl,rfl,_,rfl,?_⟩
    refine iteP (fun h0=>absurd h0 (by omega)) (fun _=>?_)
    exact k
def sp_samel(w:World)(K:PySem.W.Frag)(mg:Str→Option Value)(base:Heap):Sp:=fun vs H Q _=>∃(l:List Nat),∃p q s1 t1 e1 s2 t2 e2,vs=[.ref p,.ref q]∧(H p=some (.tup [vT l,s1,t1,e1])∧H q=some (.tup [vT l,s2,t2,e2]))∧Q .non H
theorem c0a(T:Txt K mg t):FnOk Pr w K mg base CX0 1 t.o0k t.n0w ["one","other"] (sp_samel w K mg base):=by
  refine T.o0c.ok f0i (fun vs H Q E h=>?_) (fun cdv A outer s H vs Q E hr h=>?_)
  · obtain⟨l,p,q,s1,t1,e1,s2,t2,e2,rfl,_⟩:=h
    rfl
  · obtain⟨l,p,q,s1,t1,e1,s2,t2,e2,rfl,⟨hp,hq⟩,k⟩:=h
    refine⟨_,(a0i (b0n (a0t op_ne (a0p a0n (pv 0) a0e (fun _ _=>rfl)) (a0p a0n (pv 1) a0e (fun _ _=>rfl)) (a0w _)) (a0i f0f) a0y)),?_⟩
    refine⟨_,rfl,_,_,_,_,rfl,rfl,SqT.of hp,rfl,_,rfl,_,_,_,_,rfl,rfl,SqT.of hq,rfl,rfl,_,rfl,?_⟩
    rw[show(!decide (vT l=vT l))=false by rw[decide_eq_true rfl];rfl]
    (try refine iteF ?_)
    exact k
def cat(S:SR)(n:Nat)(x y:Nat→S.W):Nat→S.W:=fun i=>if i < n then x i else y (i - n)
theorem k0z{S:SR}{n i:Nat}{x y:Nat→S.W}(h:i < n):cat S n x y i=x i:=if_pos h
theorem f0s{S:SR}{n i:Nat}{x y:Nat→S.W}:cat S n x y (n+i)=y i:=by
  unfold cat
  rw[if_neg (by omega),Nat.add_sub_cancel_left]
def blk(S:SR)(n:Nat)(A C B:Nat→Nat→S.W):Nat→Nat→S.W:=fun i=>if i < n then cat S n (A i) (C i)else cat S n (fun _=>S.zero) (B (i - n))
theorem blk_lt{S:SR}{n i:Nat}{A C B:Nat→Nat→S.W}(h:i < n):blk S n A C B i=cat S n (A i) (C i):=if_pos h
theorem blk_ge{S:SR}{n i:Nat}{A C B:Nat→Nat→S.W}:blk S n A C B (n+i)=cat S n (fun _=>S.zero) (B i):=by
  unfold blk
  rw[if_neg (by omega),Nat.add_sub_cancel_left]
theorem d0m{R:KindR Pr w K mg base}{n l m:Nat}{x y:Nat→R.S.W}{xs ys:List V}{H:Hp}(a:Ents (R.Wt x m) xs n H)(b:Ents (R.Wt y m) ys l H):Ents (R.Wt (cat R.S n x y) m) (xs++ys) (n+l) H:=
  Ents.app (a.mono fun j _ hj q=>by show R.is _ _ (cat R.S n x y j)∧R.S.lv m 32 (cat R.S n x y j);rw[k0z hj];exact q) (b.mono fun j _ _ q=>by show R.is _ _ (cat R.S n x y (n+j))∧R.S.lv m 32 (cat R.S n x y (n+j));rw[f0s];exact q)
def sp_beside(w:World)(K:PySem.W.Frag)(mg:Str→Option Value)(base:Heap):Sp:=fun vs H Q _=>∃(R:KindR Pr w K mg base),∃kv fv sv tv n l A B C m,vs=[kv,fv,sv,tv]∧(KAt R.C R.fs H kv∧R.Tab n n A m fv H∧R.Tab l l B m sv H∧SeqOf K (fun j u H=>R.Row l (C j) m u H) n tv H∧n≤500∧l≤500)∧
  ∀v H',Same H H'→R.Tab (n+l) (n+l) (blk R.S n A C B) m v H'→Q v H'
theorem ok_beside(T:Txt K mg t):FnOk Pr w K mg base CX0 43 t.c1q t.a1d ["kind","first","second","step"] (sp_beside w K mg base):=by
  refine T.a1g.ok sc_beside (fun vs H Q E h=>?_) (fun cdv A outer s H vs Q E hr h=>?_)
  · obtain⟨R,kv,fv,sv,tv,n,l,A,B,C,m,rfl,_⟩:=h
    rfl
  · obtain⟨R,kv,fv,sv,tv,n,l,A0,B,C,m,rfl,⟨hk,⟨fp,fs,rfl,hf,ef⟩,⟨sp,ss,rfl,hs,es⟩,⟨S2,ts,o2,v2,w2,et⟩,hn,hl⟩,k⟩:=h
    have sl:1000 < sizeLine:=by decide
    have hlen:∀H',Same H H'→LenV K (.ref fp) H' n:=fun H' s'=>.inr ⟨_,SqT.of (s' _ _ hf),ef.1.symm⟩
    refine⟨_,(a0c (e0t (i₀:=4) (xs:=["row","extra"]) sc_beside.nd rfl (Or.inl rfl) rfl (show b0m ["kind","first","second","step","upper","lower"] (a0h g0q) _ from⟨rfl,by decide +kernel,by decide +kernel,by decide +kernel,by decide +kernel,by decide +kernel⟩) (i0n rfl T.z_zip (a0a (pv 1) (a0a (pv 3) a0b))) (fun _ _ _ _ _=>(show PG _ _ (gTup K 2 _)from(g0u rfl (b0k (a0u (i:=6) (by show List.Nodup (["kind","first","second","step","upper","lower","row","extra"]:List Str);decide +kernel) rfl (Or.inl rfl)) (b0k (a0u (i:=7) (by show List.Nodup (["kind","first","second","step","upper","lower","row","extra"]:List Str);decide +kernel) rfl (Or.inl rfl)) e0f))))) (fun _ _ _ _ _=>(a0x e0h (pv 6) (pv 7)))) (a0c (e0t (i₀:=5) (xs:=["row"]) sc_beside.nd rfl (Or.inl rfl) rfl (show b0m ["kind","first","second","step","upper","lower"] (a0h g0q) _ from⟨rfl,by decide +kernel,by decide +kernel,by decide +kernel,by decide +kernel,by decide +kernel⟩) (e0m (pv 2)) (fun _ _ _ _ _=>(a0u (i:=6) (by show List.Nodup (["kind","first","second","step","upper","lower","row"]:List Str);decide +kernel) rfl (Or.inl rfl))) (fun _ _ _ _ _=>(a0x e0h (a0f (f0h (w:=w) (base:=base) T) hr.m rfl T.y0s T.y0d.kp T.z0f .nil a0k (a0a (pv 0) (a0a (a0z (show CallR _ (.builtin "len") (fun xs H Q=>∃x n,xs=[x]∧LenV K x H n∧Q (V.int (n:Nat)) H)from b0l) (by rfl) T.z_len PySem.boot_len (a0a (pv 1) a0b)) a0b))) (pv 6)))) (a0i (a0m (b0a a0q (by rfl) T.z_tuple boot_tuple (a0a (a0x op_cat (pv 4) (pv 5)) a0b)))))),?_⟩
    refine⟨_,rfl,_,rfl,.tup fp,S2,_,_,fs,ts,rfl,rfl,o2,SqT.of hf,v2,b0i (n:=n) (fun j ys H2=>Same H H2∧Ents (fun i u H=>R.Row (n+l) (cat R.S n (A0 i) (C i)) m u H) ys j H2) (by omega) ⟨Same.refl _,Ents.nil⟩ (fun j ys H2 q=>q.2.1) ?_ ?_ ?_⟩
    · rintro j ys H2 hj ⟨q,e⟩
      obtain⟨u,eu,pu⟩:=ef.2 j hj
      obtain⟨v,ev,pv⟩:=et.2 j hj
      refine⟨⟨fs,ts,u,v,SqT.of (q _ _ hf),(w2 _ q).1,eu,ev⟩,fun y H' hy=>?_⟩
      obtain⟨pp,x',y',rfl,np,rfl,f1,f2⟩:=hy
      have e1:=f1 _ (SqT.of (q _ _ hf))
      rw[eu]at e1
      cases e1
      have e2:=f2 _ (w2 _ q).1
      rw[ev]at e2
      cases e2
      have s3:=a0g (o:=.tup [u,v]) np
      have q3:=q.trans s3
      obtain⟨a,as,rfl,ha,ea⟩:=KindR.Row.same q3.t pu
      obtain⟨b,bs,rfl,hb,eb⟩:=KindR.Row.same q3.t pv
      refine⟨pp,_,rfl,SqT.of a0d,rfl,_,_,rfl,_,_,rfl,rfl,⟨[some _,some _],rfl,rfl⟩,_,rfl,_,rfl,_,_,as,bs,rfl,rfl,ha,hb,(by rw[ea.1,eb.1];omega),fun p4 H4 s4 h4=>?_⟩
      exact⟨q3.trans s4,(e.mono fun _ _ _ z=>KindR.Row.same (s3.trans s4).t z).snoc ⟨p4,_,rfl,h4,(d0m ea eb).mono fun _ _ _ z=>KindR.Wt.same s4.t z⟩⟩
    · rintro ys H2 ⟨q,e⟩
      exact⟨fs,ts,SqT.of (q _ _ hf),(w2 _ q).1,.inl ef.1.symm⟩
    · rintro us H2 up ⟨q,eU⟩ nu
      have s3:=a0g (o:=.lst us) nu
      have q3:=q.trans s3
      have hu:upd H2 up (.lst us) up=some (.lst us):=a0d
      have eU:=eU.mono fun _ _ _ z=>KindR.Row.same s3.t z
      revert hu q3 eU
      clear s3 nu q
      generalize upd H2 up (.lst us)=H3
      intro q3 hu eU
      show c0b 4 (.ref up) [some kv,some (.ref fp),some (.ref sp),some tv,none,none] H3 _
      refine⟨_,rfl,sp,rfl,⟨_,SqT.of (q3 _ _ hs)⟩,b0i (n:=l) (fun j ys H2=>Same H3 H2∧Ents (fun i u H=>R.Row (n+l) (cat R.S n (fun _=>R.S.zero) (B i)) m u H) ys j H2) (by omega) ⟨Same.refl _,Ents.nil⟩ (fun j ys H2 q=>q.2.1) ?_ ?_ ?_⟩
      · rintro j ys H4 hj ⟨q,e⟩
        have q4:=q3.trans q
        obtain⟨u,eu,pu⟩:=es.2 j hj
        refine⟨⟨_,_,SqT.of (q4 _ _ hs),eu⟩,fun y H' hy=>?_⟩
        obtain⟨rfl,hy⟩:=hy
        have:=hy _ (SqT.of (q4 _ _ hs))
        rw[eu]at this
        cases this
        refine⟨⟨[some _],rfl,rfl⟩,_,rfl,_,rfl,_,n,rfl,hlen _ q4,R,_,_,n,m,rfl,⟨hk.same q4,by omega,rfl⟩,fun v H5 s5 r5=>?_⟩
        have q5:=q4.trans s5
        obtain⟨a,as,rfl,ha,ea⟩:=r5
        obtain⟨b,bs,rfl,hb,eb⟩:=KindR.Row.same q5.t pu
        refine⟨_,rfl,_,_,as,bs,rfl,rfl,ha,hb,(by rw[ea.1,eb.1];omega),fun p6 H6 s6 h6=>?_⟩
        exact⟨q.trans (s5.trans s6),(e.mono fun _ _ _ z=>KindR.Row.same (s5.trans s6).t z).snoc ⟨p6,_,rfl,h6,(d0m ea eb).mono fun _ _ _ z=>KindR.Wt.same s6.t z⟩⟩
      · rintro ys H4 ⟨q,e⟩
        exact⟨_,SqT.of (q3.trans q _ _ hs),by rw[es.1];exact Nat.le_refl _⟩
      · rintro ls H4 lp ⟨q,eL⟩ nl
        have s5:=a0g (o:=.lst ls) nl
        have q5:=q.trans s5
        show c0b 5 (.ref lp) [some kv,some (.ref fp),some (.ref sp),some tv,some (.ref up),none] _ _
        refine⟨_,rfl,_,rfl,_,_,us,ls,rfl,rfl,q5 _ _ hu,a0d,(by rw[eU.1,eL.1];omega),fun cp nc=>?_⟩
        have s6:=a0g (o:=.lst (us++ls)) nc
        refine⟨cp,us++ls,rfl,.inl ⟨SqL.of a0d,fun l2 n2=>?_⟩⟩
        have s7:=a0g (o:=.tup (us++ls)) n2
        have s67:=s6.trans s7
        have s57:=s5.trans s67
        have s37:=q.trans s57
        refine k _ _ (q3.trans s37) ⟨l2,us++ls,rfl,a0d,Ents.app (eU.mono fun i _ hi z=>?_) (eL.mono fun i _ hi z=>?_)⟩
        · show R.Row (n+l) (blk R.S n A0 C B i) m _ _
          rw[blk_lt hi]
          exact KindR.Row.same s37.t z
        · show R.Row (n+l) (blk R.S n A0 C B (n+i)) m _ _
          rw[blk_ge]
          exact KindR.Row.same s57.t z
def g0j(w:World)(K:PySem.W.Frag)(mg:Str→Option Value)(base:Heap):Sp:=fun vs H Q _=>∃(R:KindR Pr w K mg base),∃kv ov hv l n k st1 tb1 en1 st2 tb2 en2 m1 m2 m3,vs=[kv,ov,hv]∧(KAt R.C R.fs H kv∧MachG R l n st1 tb1 en1 m1 m2 m3 ov H∧MachG R l k st2 tb2 en2 m1 m2 m3 hv H∧LOk l∧n+k≤20)∧
  ∀v H',Same H H'→MachG R l (n+k) (cat R.S n st1 st2) (fun c=>blk R.S n (tb1 c) (fun _ _=>R.S.zero) (tb2 c)) (cat R.S n en1 en2) m1 m2 m3 v H'→Q v H'
theorem n0b(T:Txt K mg t):FnOk Pr w K mg base CX0 44 t.w0o t.s0w ["kind","one","other"] (g0j w K mg base):=by
  refine T.r0t.ok sc_put_beside (fun vs H Q E h=>?_) (fun cdv A outer s H vs Q E hr h=>?_)
  · obtain⟨R,kv,ov,hv,l,n,k,st1,tb1,en1,st2,tb2,en2,m1,m2,m3,rfl,_⟩:=h
    rfl
  · obtain⟨R,kv,ov,hv,l,n,j,st1,tb1,en1,st2,tb2,en2,m1,m2,m3,rfl,⟨hk,ho,hh,L,hz⟩,k⟩:=h
    have sl:1000 < sizeLine:=by decide
    have l3:=L.h3
    refine⟨_,(a0c (a0s (i:=3) sc_put_beside.nd rfl (Or.inr rfl) (b0z (xs:=["room"]) rfl (show b0m ["kind","one","other","no_step","tables"] (a0h c0t) _ from⟨rfl,by decide +kernel,by decide +kernel,by decide +kernel,by decide +kernel,by decide +kernel⟩) (b0v rfl T.z_range (a0a (a0f (c0k T) hr.m rfl T.c1c T.b1z.kp T.b1i .nil a0k (a0a (pv 1) a0b)) a0b)) (fun _ _ _ _ _=>(a0u (i:=5) (by show List.Nodup (["kind","one","other","no_step","tables","room"]:List Str);decide +kernel) rfl (Or.inl rfl))) (fun _ _ _ _ _=>(a0f (f0h (w:=w) (base:=base) T) hr.m rfl T.y0s T.y0d.kp T.z0f .nil a0k (a0a (pv 0) (a0a (a0f (c0k (w:=w) (base:=base) T) hr.m rfl T.c1c T.b1z.kp T.b1i .nil a0k (a0a (pv 2) a0b)) a0b)))))) (a0c (e0t (i₀:=4) (xs:=["first","second"]) sc_put_beside.nd rfl (Or.inl rfl) rfl (show b0m ["kind","one","other","no_step","tables"] (a0h c0t) _ from⟨rfl,by decide +kernel,by decide +kernel,by decide +kernel,by decide +kernel,by decide +kernel⟩) (i0n rfl T.z_zip (a0a (a0p a0n (pv 1) a0e (fun _ _=>rfl)) (a0a (a0p a0n (pv 2) a0e (fun _ _=>rfl)) a0b))) (fun _ _ _ _ _=>(show PG _ _ (gTup K 2 _)from(g0u rfl (b0k (a0u (i:=5) (by show List.Nodup (["kind","one","other","no_step","tables","first","second"]:List Str);decide +kernel) rfl (Or.inl rfl)) (b0k (a0u (i:=6) (by show List.Nodup (["kind","one","other","no_step","tables","first","second"]:List Str);decide +kernel) rfl (Or.inl rfl)) e0f))))) (fun _ _ _ _ _=>(a0f (ok_beside (w:=w) (base:=base) T) hr.m rfl T.a1m T.a1g.kp T.b1f .nil a0k (a0a (pv 0) (a0a (pv 5) (a0a (pv 6) (a0a (pv 3) a0b))))))) (a0i (a0m (b0q (a0a (a0p a0n (pv 1) a0e (fun _ _=>rfl)) (a0a (a0x e0h (a0p a0n (pv 1) a0e (fun _ _=>rfl)) (a0p a0n (pv 2) a0e (fun _ _=>rfl))) (a0a (b0a a0q (by rfl) T.z_tuple boot_tuple (a0a (pv 4) a0b)) (a0a (a0x e0h (a0p a0n (pv 1) a0e (fun _ _=>rfl)) (a0p a0n (pv 2) a0e (fun _ _=>rfl))) a0b))))))))),?_⟩
    refine⟨_,rfl,R,_,l,n,st1,tb1,en1,m1,m2,m3,rfl,ho,_,rfl,(by omega),(by omega),b0i (n:=n) (fun i ys H2=>Same H H2∧Ents (fun _ u H=>R.Row j (fun _=>R.S.zero) m2 u H) ys i H2) (by omega) ⟨Same.refl _,Ents.nil⟩ (fun j ys H2 q=>q.2.1) ?_ ?_ ?_⟩
    · rintro i ys H2 hi ⟨q,e⟩
      refine⟨(show i < (n:Int).toNat by omega),fun y H' hy=>?_⟩
      obtain⟨rfl,rfl⟩:=hy
      refine⟨⟨[some _],rfl,rfl⟩,_,rfl,_,rfl,R,_,l,j,st2,tb2,en2,m1,m2,m3,rfl,hh.same q.t,R,_,_,j,m2,rfl,⟨hk.same q,by omega,rfl⟩,fun v H3 s3 r3=>?_⟩
      exact⟨q.trans s3,(e.mono fun _ _ _ z=>KindR.Row.same s3.t z).snoc r3⟩
    · rintro ys H2 ⟨q,e⟩
      show(n:Int).toNat≤n
      omega
    · rintro ns H2 np ⟨q,eN⟩ nn
      have s3:=a0g (o:=.lst ns) nn
      have q3:=q.trans s3
      have hN:upd H2 np (.lst ns) np=some (.lst ns):=a0d
      have eN:=eN.mono fun _ _ _ z=>KindR.Row.same s3.t z
      revert q3 hN eN
      clear s3 nn q
      generalize upd H2 np (.lst ns)=H3
      intro q3 hN eN
      show c0b 3 (.ref np) [some kv,some ov,some hv,none,none] H3 _
      obtain⟨p1,sv1,tv1,ev1,rfl,hp1,a1,⟨t1,ts1,rfl,ht1,et1⟩,c1⟩:=ho.same q3.t
      obtain⟨p2,sv2,tv2,ev2,rfl,hp2,a2,⟨t2,ts2,rfl,ht2,et2⟩,c2⟩:=hh.same q3.t
      refine⟨_,rfl,_,_,_,_,rfl,rfl,SqT.of hp1,rfl,_,rfl,_,_,_,_,rfl,rfl,SqT.of hp2,rfl,.tup t1,.tup t2,_,_,ts1,ts2,rfl,rfl,rfl,SqT.of ht1,SqT.of ht2,b0i (n:=l.length) (fun i ys H2=>Same H3 H2∧Ents (fun c u H=>R.Tab (n+j) (n+j) (blk R.S n (tb1 c) (fun _ _=>R.S.zero) (tb2 c)) m2 u H) ys i H2) (by omega) ⟨Same.refl _,Ents.nil⟩ (fun j ys H2 q=>q.2.1) ?_ ?_ ?_⟩
      · rintro i ys H4 hi ⟨q,e⟩
        obtain⟨u,eu,pu⟩:=et1.2 i hi
        obtain⟨v,ev,pv⟩:=et2.2 i hi
        refine⟨⟨ts1,ts2,u,v,SqT.of (q _ _ ht1),SqT.of (q _ _ ht2),eu,ev⟩,fun y H' hy=>?_⟩
        obtain⟨pp,x',y',rfl,np',rfl,f1,f2⟩:=hy
        have e1:=f1 _ (SqT.of (q _ _ ht1))
        rw[eu]at e1
        cases e1
        have e2:=f2 _ (SqT.of (q _ _ ht2))
        rw[ev]at e2
        cases e2
        have s5:=a0g (o:=.tup [u,v]) np'
        have q5:=q.trans s5
        refine⟨pp,_,rfl,SqT.of a0d,rfl,_,_,rfl,_,_,rfl,rfl,⟨[some _,some _],rfl,rfl⟩,_,rfl,_,rfl,_,rfl,_,rfl,R,_,_,_,_,n,j,tb1 i,tb2 i,(fun _ _=>R.S.zero),m2,rfl,⟨(hk.same q3).same q5,KindR.Tab.same q5.t pu,KindR.Tab.same q5.t pv,SeqOf.list (q5 _ _ hN) (eN.mono fun _ _ _ z=>KindR.Row.same q5.t z),by omega,by omega⟩,fun w6 H6 s6 r6=>?_⟩
        exact⟨q5.trans s6,(e.mono fun _ _ _ z=>KindR.Tab.same (s5.trans s6).t z).snoc r6⟩
      · rintro ys H4 ⟨q,e⟩
        exact⟨ts1,ts2,SqT.of (q _ _ ht1),SqT.of (q _ _ ht2),.inl et1.1.symm⟩
      · rintro us H4 up ⟨q,eU⟩ nu
        have s5:=a0g (o:=.lst us) nu
        have q5:=q.trans s5
        have hU:upd H4 up (.lst us) up=some (.lst us):=a0d
        have eU:=eU.mono fun _ _ _ z=>KindR.Tab.same s5.t z
        revert q5 hU eU
        clear s5 nu q
        generalize upd H4 up (.lst us)=H5
        intro q5 hU eU
        show c0b 4 (.ref up) [some kv,some (.ref p1),some (.ref p2),some (.ref np),none] H5 _
        obtain⟨b1,bs1,rfl,hb1,eb1⟩:=KindR.Row.same q5.t a1
        obtain⟨b2,bs2,rfl,hb2,eb2⟩:=KindR.Row.same q5.t a2
        refine⟨_,rfl,_,_,_,_,rfl,rfl,SqT.of (q5 _ _ hp1),rfl,_,rfl,_,_,_,_,rfl,rfl,SqT.of (q5 _ _ hp1),rfl,_,rfl,_,_,_,_,rfl,rfl,SqT.of (q5 _ _ hp2),rfl,_,_,bs1,bs2,rfl,rfl,hb1,hb2,(by rw[eb1.1,eb2.1];omega),fun p6 H6 s6 h6=>?_⟩
        refine⟨_,rfl,up,us,rfl,.inl ⟨SqL.of (s6 _ _ hU),fun p7 n7=>?_⟩⟩
        have s7:=a0g (o:=.tup us) n7
        have s67:=s6.trans s7
        have q7:=q5.trans s67
        obtain⟨d1,ds1,rfl,hd1,ed1⟩:=KindR.Row.same q7.t c1
        obtain⟨d2,ds2,rfl,hd2,ed2⟩:=KindR.Row.same q7.t c2
        refine⟨_,rfl,_,_,_,_,rfl,rfl,SqT.of (q7 _ _ hp1),rfl,_,rfl,_,_,_,_,rfl,rfl,SqT.of (q7 _ _ hp2),rfl,_,_,ds1,ds2,rfl,rfl,hd1,hd2,(by rw[ed1.1,ed2.1];omega),fun p8 H8 s8 h8=>?_⟩
        refine⟨(by show 4≤sizeLine;decide),fun p9 n9=>?_⟩
        have s9:=a0g (o:=.tup [vT l,V.ref p6,V.ref p7,V.ref p8]) n9
        have s89:=s8.trans s9
        have s79:=s7.trans s89
        have hp7:upd H6 p7 (.tup us) p7=some (.tup us):=a0d
        exact k _ _ (q3.trans (q7.trans s89)) ⟨p9,_,_,_,rfl,a0d,
          ⟨p6,_,rfl,s79 _ _ h6,(d0m eb1 eb2).mono fun _ _ _ z=>KindR.Wt.same (s6.trans s79).t z⟩,
          ⟨p7,us,rfl,s89 _ _ hp7,eU.mono fun _ _ _ z=>KindR.Tab.same (s67.trans s89).t z⟩,
          ⟨p8,_,rfl,s9 _ _ h8,(d0m ed1 ed2).mono fun _ _ _ z=>KindR.Wt.same s89.t z⟩⟩
def sp_added(w:World)(K:PySem.W.Frag)(mg:Str→Option Value)(base:Heap):Sp:=g0j w K mg base
theorem g0z(T:Txt K mg t):FnOk Pr w K mg base CX0 45 t.c1y t.b1k ["kind","one","other"] (sp_added w K mg base):=by
  refine T.b1w.ok sc_added (fun vs H Q E h=>?_) (fun cdv A outer s H vs Q E hr h=>?_)
  · obtain⟨R,kv,ov,hv,l,n,k,st1,tb1,en1,st2,tb2,en2,m1,m2,m3,rfl,_⟩:=h
    rfl
  · obtain⟨R,kv,ov,hv,l,n,j,st1,tb1,en1,st2,tb2,en2,m1,m2,m3,rfl,⟨hk,ho,hh,L,hz⟩,k⟩:=h
    obtain⟨p1,sv1,tv1,ev1,rfl,hp1,_⟩:=id ho
    obtain⟨p2,sv2,tv2,ev2,rfl,hp2,_⟩:=id hh
    refine⟨_,(a0c (b0f (a0f (c0a T) hr.m rfl T.o0a T.o0c.kp T.n0x .nil a0k (a0a (pv 1) (a0a (pv 2) a0b)))) (a0c (b0f (a0f (b0j T) hr.m rfl T.p0b T.o0y.kp T.o0s .nil a0k (a0a (a0x b0x (a0f (c0k T) hr.m rfl T.c1c T.b1z.kp T.b1i .nil a0k (a0a (pv 1) a0b)) (a0f (c0k T) hr.m rfl T.c1c T.b1z.kp T.b1i .nil a0k (a0a (pv 2) a0b))) a0b))) (a0i (a0m (a0f (n0b T) hr.m rfl T.r0w T.r0t.kp T.s0e .nil a0k (a0a (pv 0) (a0a (pv 1) (a0a (pv 2) a0b)))))))),?_⟩
    refine⟨_,rfl,_,rfl,l,p1,p2,_,_,_,_,_,_,rfl,⟨hp1,hp2⟩,?_⟩
    refine⟨_,rfl,R,_,l,n,st1,tb1,en1,m1,m2,m3,rfl,ho,_,rfl,R,_,l,j,st2,tb2,en2,m1,m2,m3,rfl,hh,_,_,rfl,rfl,_,rfl,(by omega),?_⟩
    exact⟨_,rfl,_,rfl,_,rfl,R,_,_,_,l,n,j,st1,tb1,en1,st2,tb2,en2,m1,m2,m3,rfl,⟨hk,ho,hh,L,hz⟩,k⟩
def sp_lstep(T:Txt K mg t):Sp:=fun vs H Q _=>∃(R:KindR Pr w K mg base),∃nm p so row tb n x A m m',So T R nm p∧vs=[so,row,tb]∧(SortAt H so nm p∧R.Seq n x m row H∧R.Tab n n A m' tb H∧n≤32∧m+m'≤100000)∧
  ∀v H',Same H H'→R.Row n (fun j=>dotW R.S x (fun i=>A i j) n) (m+m') v H'→Q v H'
theorem ok_law_step(T:Txt K mg t):FnOk Pr w K mg base CX0 42 t.a1n t.v0p ["_law_sort_here","_law_row","_law_table_here"] (sp_lstep (w:=w) (base:=base) T):=by
  refine T.v0o.ok sc_law_step (fun vs H Q E h=>?_) (fun cdv A outer s H vs Q E hr h=>?_)
  · obtain⟨R,nm,p,so,row,tb,n,x,A,m,m',_,rfl,_⟩:=h
    rfl
  · obtain⟨R,nm,pp,so,row,tb,n,x,B,m,m',hS,rfl,⟨hso,hx,⟨p,rows,rfl,hp,ent⟩,hn,hz⟩,k⟩:=h
    have z1000:1000 < sizeLine:=by decide
    refine⟨_,(a0c (a0s (i:=3) sc_law_step.nd rfl (Or.inl rfl) (c0p a0b)) (a0c (c0i PassesOwn.never rfl (b0v rfl T.z_range (a0a (a0z b0l (by rfl) T.z_len PySem.boot_len (a0a (pv 1) a0b)) a0b)) (a0u (i:=4) sc_law_step.nd rfl (Or.inr rfl)) (a0i (b0f (g0e PySem.F.plainAttrs_list PySem.F.slot_list_append PySem.F.type_list_append b0y (pv 3) (a0a (a0f (i0c T) hr.m rfl T.y0x T.y0c.kp T.y0u .nil a0k (a0a (pv 0) (a0a (pv 1) (a0a (b0z (xs:=["_law_line_here"]) rfl (show b0m ["_law_sort_here","_law_row","_law_table_here","_law_found","_law_k"] (a0h f0d) _ from⟨rfl,by decide +kernel,by decide +kernel,by decide +kernel,by decide +kernel,by decide +kernel⟩) (e0m (pv 2)) (fun _ _ _ _ _=>(a0u (i:=5) (by show List.Nodup (["_law_sort_here","_law_row","_law_table_here","_law_found","_law_k","_law_line_here"]:List Str);decide +kernel) rfl (Or.inl rfl))) (fun _ _ _ _ _=>(a0p (show IxR _ (rIxT K)from a0n) (pv 5) (pv 4) (fun _ _=>rfl)))) a0b)))) a0b))))) (a0i (a0m (b0a a0q (by rfl) T.z_tuple boot_tuple (a0a (pv 3) a0b)))))),?_⟩
    refine⟨(by show 0≤sizeLine;decide),fun fl nf=>?_⟩
    have s0:=a0g (o:=.lst []) nf
    refine⟨_,rfl,_,n,rfl,(KindR.Seq.same s0 hx).len,_,rfl,(by omega),(by omega),h0f (lo:=0) (n:=(n:Int).toNat) (fun i σ H2=>∃v5 ys,σ=[some so,some row,some (.ref p),some (.ref fl),v5]∧Same H H2∧H2 fl=some (.lst ys)∧Ents (R.Wt (fun j=>dotW R.S x (fun i=>B i j) n) (m+m')) ys i H2) ⟨_,_,rfl,s0,a0d,Ents.nil⟩ ?_ ?_⟩
    · rintro i σ H2 hi ⟨v5,ys,rfl,q,hf,e⟩
      have hi:i < n:=by omega
      refine⟨_,rfl,.inl ⟨rfl,_,SqL.of hf⟩,_,rfl,_,rfl,_,rfl,p,rfl,⟨_,SqT.of (q _ _ hp)⟩,b0i (n:=n) (fun j zs H3=>Ents (R.Wt (fun j=>B j i) m') zs j H2∧H3=H2) (by omega) ⟨Ents.nil,rfl⟩ (fun j zs H3 c=>c.1.1) ?_ ?_ ?_⟩
      · rintro j zs H3 hj ⟨c,rfl⟩
        obtain⟨u,eu,pu⟩:=ent.2 j hj
        refine⟨⟨_,_,SqT.of (q _ _ hp),eu⟩,fun y H' hy=>?_⟩
        obtain⟨rfl,hy⟩:=hy
        have:=hy _ (SqT.of (q _ _ hp))
        rw[eu]at this
        cases this
        obtain⟨r,cs,rfl,hr',ec⟩:=KindR.Row.same q.t pu
        obtain⟨z,ez,pz⟩:=ec.2 i hi
        refine⟨⟨[some (.ref r)],rfl,rfl⟩,_,rfl,_,rfl,_,_,_,_,rfl,rfl,SqT.of hr',(show atI cs (0+(i:Int))=some z by rw[Int.zero_add];exact e0k ez),?_⟩
        exact⟨c.snoc pz,rfl⟩
      · rintro zs H3 ⟨c,rfl⟩
        exact⟨_,SqT.of (q _ _ hp),by rw[ent.1];exact Nat.le_refl _⟩
      · rintro zs H3 l ⟨c,rfl⟩ nl
        have s1:=a0g (o:=.lst zs) nl
        have q1:=q.trans s1
        refine⟨R,nm,pp,_,_,_,n,x,(fun j=>B j i),m,m',hS,rfl,⟨hso.same q1.t,KindR.Seq.same q1 hx,SeqOf.list a0d (c.mono fun _ _ _ w'=>KindR.Wt.same s1.t w'),hn,hz⟩,fun v H4 s4 f4 z4=>?_⟩
        have hf4:=(s1.trans s4) _ _ hf
        refine⟨_,_,_,rfl,rfl,hf4,(by rw[e.1];omega),?_⟩
        have st:=c0g (o:=.lst (ys++[v])) hf4
        exact⟨_,_,rfl,j0s (q1.trans s4) nf,a0d,((e.mono fun _ _ _ w'=>KindR.Wt.same (s1.trans s4).t w').snoc ⟨f4,z4⟩).mono fun _ _ _ w'=>KindR.Wt.same st w'⟩
    · rintro σ H2 ⟨v5,ys,rfl,q,hf,e⟩
      have en:(n:Int).toNat=n:=by omega
      rw[en]at e
      refine⟨_,rfl,fl,ys,rfl,.inl ⟨SqL.of hf,fun l2 n2=>?_⟩⟩
      have s2:=a0g (o:=.tup ys) n2
      exact k _ _ (q.trans s2) ⟨l2,ys,rfl,a0d,e.mono fun _ _ _ z=>KindR.Wt.same s2.t z⟩
def sp_lweigh(T:Txt K mg t):Sp:=fun vs H Q _=>∃(R:KindR Pr w K mg base),∃nm p so mv l n st tb en ws m1 m2 m3,So T R nm p∧vs=[so,mv,vT ws]∧(SortAt H so nm p∧MachG R l n st tb en m1 m2 m3 mv H∧MOk n l ws∧m1+100 * m2+m3≤50000)∧
  ∀v H',Same H H'→R.is H' v (wgh R.S l n st tb en ws)→R.S.lv (m1+ws.length * m2+m3) 32 (wgh R.S l n st tb en ws)→Q v H'
theorem i0p(T:Txt K mg t):FnOk Pr w K mg base CX0 43 t.x0z t.u0s ["_law_sort_here","_law_machine_here","_law_word"] (sp_lweigh (w:=w) (base:=base) T):=by
  refine T.t0j.ok sc_law_weigh (fun vs H Q E h=>?_) (fun cdv A outer s H vs Q E hr h=>?_)
  · obtain⟨R,nm,p,so,mv,l,n,st,tb,en,ws,m1,m2,m3,_,rfl,_⟩:=h
    rfl
  · obtain⟨R,nm,pp,so,mv,l,n,st,tb,en,ws,m1,m2,m3,hS,rfl,⟨hso,hm,M,hz⟩,k⟩:=h
    have W:=M.W
    have wz:=W.le
    have hn:=M.nn
    obtain⟨p,sv,tv,ev,rfl,hp,h1,⟨tp,ts,rfl,htp,et⟩,h3⟩:=hm
    refine⟨_,(a0c (a0s (i:=3) sc_law_weigh.nd rfl (Or.inl rfl) (a0p a0n (pv 1) a0e (fun _ _=>rfl))) (a0c (c0i PassesOwn.never rfl (l0y (pv 2)) (a0u (i:=4) sc_law_weigh.nd rfl (Or.inl rfl)) (a0i (a0s (i:=3) sc_law_weigh.nd rfl (Or.inl rfl) (a0f (ok_law_step T) hr.m rfl T.w0p T.v0o.kp T.w0j .nil a0k (a0a (pv 0) (a0a (pv 3) (a0a (a0p a0n (a0p a0n (pv 1) a0e (fun _ _=>rfl)) (g0e PySem.F.plainAttrs_str PySem.F.slot_str_index PySem.F.type_str_index mt_indexS (a0p a0n (pv 1) a0e (fun _ _=>rfl)) (a0a (pv 4) a0b)) (fun _ _=>rfl)) a0b))))))) (a0i (a0m (a0f (i0c T) hr.m rfl T.y0x T.y0c.kp T.y0u .nil a0k (a0a (pv 0) (a0a (pv 3) (a0a (a0p a0n (pv 1) a0e (fun _ _=>rfl)) a0b)))))))),?_⟩
    refine⟨_,rfl,_,_,_,_,rfl,rfl,SqT.of hp,rfl,?_⟩
    refine⟨_,rfl,_,rfl,W.asc,m0a (n:=ws.length) (fun i σ H2=>∃rv v4,σ=[some so,some (.ref p),some (vT ws),some rv,v4]∧Same H H2∧R.Row n (ahd R.S n st tb (wdx l ws) i) (m1+i * m2) rv H2) ⟨_,_,rfl,Same.refl _,by rw[Nat.zero_mul];exact h1⟩ ?_ ?_⟩
    · rintro i σ H2 hi ⟨rv,v4,rfl,q,hrow⟩
      refine⟨(by show i < ws.toArray.size;simpa using hi),fun x H' hy=>?_⟩
      obtain⟨rfl,c,hc,rfl⟩:=hy
      have hc:=tx_get hc
      have li:=lv_le (i:=i) (m2:=m2) (by omega)
      have cl:=W.mem hc
      obtain⟨tbv,etb,ptb⟩:=et.2 _ (idx_lt cl)
      refine⟨_,rfl,_,rfl,_,rfl,_,_,_,_,rfl,rfl,SqT.of (q _ _ hp),rfl,_,rfl,_,_,_,_,rfl,rfl,SqT.of (q _ _ hp),rfl,rfl,_,rfl,_,_,_,_,rfl,rfl,occ_of W.lo cl,_,_,_,_,rfl,rfl,SqT.of (q _ _ htp),e0k etb,?_⟩
      refine⟨R,nm,pp,_,_,_,n,_,_,m1+i * m2,m2,hS,rfl,⟨hso.same q.t,hrow.seq,KindR.Tab.same q.t ptb,hn,by omega⟩,fun v H3 s3 r3=>?_⟩
      refine⟨_,_,rfl,q.trans s3,?_⟩
      have r4:=r3
      rw[lv_turn,← wdx_at hc]at r4
      exact r4
    · rintro σ H2 ⟨rv,v4,rfl,q,hrow⟩
      have li:=lv_le (m2:=m2) wz
      refine⟨(by show ws.toArray.size≤_;simp),_,rfl,_,rfl,_,rfl,_,_,_,_,rfl,rfl,SqT.of (q _ _ hp),rfl,R,nm,pp,_,_,_,n,_,en,m1+ws.length * m2,m3,hS,rfl,⟨hso.same q.t,hrow.seq,(KindR.Row.same q.t h3).seq,hn,by omega⟩,fun v2 H3 s3 f3 z3=>?_⟩
      exact k _ _ (q.trans s3) f3 z3
structure Wds(l:List Nat)(z:Nat)(wss:List (List Nat)):Prop where
  al:∀ws∈wss,(∀c∈ws,c∈l)∧ws.length≤z
theorem Wds.up{l:List Nat}{z z':Nat}{wss:List (List Nat)}(h:Wds l z wss)(e:z≤z'):Wds l z' wss:=⟨fun ws hw=>⟨(h.al ws hw).1,Nat.le_trans (h.al ws hw).2 e⟩⟩
theorem Wds.app{l:List Nat}{z:Nat}{a b:List (List Nat)}(h:Wds l z a)(h':Wds l z b):Wds l z (a++b):=⟨fun ws hw=>by
  rcases List.mem_append.mp hw with q | q
  · exact h.al ws q
  · exact h'.al ws q⟩
theorem Wds.one{l ws:List Nat}{z:Nat}(h:(∀c∈ws,c∈l)∧ws.length≤z):Wds l z [ws]:=⟨fun u hu=>by rw[List.mem_singleton.mp hu];exact h⟩
def sp_lwords:Sp:=fun vs H Q _=>∃l,∃(q:Nat),∃(z:Int),vs=[vT l,.int z]∧(LOk l∧q≤6∧z=q)∧∀p H' wss,Same H H'→H' p=some (.lst (wss.map vT))→Wds l q wss→1≤wss.length→wss.length≤5000→Q (.ref p) H'
theorem pow34(i:Nat):3 ^ i≤4 ^ i:=Nat.pow_le_pow_left (by decide) i
theorem pow4{i:Nat}(h:i≤6):4 ^ i≤4096:=Nat.pow_le_pow_right (n:=4) (by decide) h
theorem pow3{i:Nat}(h:i≤6):3 ^ i≤729:=Nat.pow_le_pow_right (n:=3) (by decide) h
theorem ok_law_words(T:Txt K mg t):FnOk Pr w K mg base CX0 1 t.y0o t.u0m ["_law_letters_here","_law_most"] sp_lwords:=by
  refine T.t0f.ok sc_law_words (fun vs H Q E h=>?_) (fun cdv A outer s H vs Q E hr h=>?_)
  · obtain⟨l,q,z,rfl,_⟩:=h
    rfl
  · obtain⟨l,q,z,rfl,⟨L,hq,rfl⟩,k⟩:=h
    have sl:10000 < sizeLine:=by decide
    have l3:=L.h3
    have l1:=L.h1
    refine⟨_,(a0c (a0s (i:=2) sc_law_words.nd rfl (Or.inl rfl) (c0p (a0a b0e a0b))) (a0c (a0s (i:=3) sc_law_words.nd rfl (Or.inl rfl) (c0p (a0a b0e a0b))) (a0c (c0i PassesOwn.never rfl (b0v rfl T.z_range (a0a (pv 1) a0b)) (a0u (i:=4) sc_law_words.nd rfl (Or.inl rfl)) (a0c (a0s (i:=5) sc_law_words.nd rfl (Or.inl rfl) (c0p a0b)) (a0c (c0i PassesOwn.never rfl (k0b (pv 3)) (a0u (i:=6) sc_law_words.nd rfl (Or.inl rfl)) (a0i (c0i PassesOwn.never rfl (l0y (pv 0)) (a0u (i:=7) sc_law_words.nd rfl (Or.inl rfl)) (a0i (b0f (g0e PySem.F.plainAttrs_list PySem.F.slot_list_append PySem.F.type_list_append b0y (pv 5) (a0a (a0x f0g (pv 6) (pv 7)) a0b))))))) (a0c (a0s (i:=3) sc_law_words.nd rfl (Or.inl rfl) (pv 5)) (a0i (a0s (i:=2) sc_law_words.nd rfl (Or.inl rfl) (a0x op_cat (pv 2) (pv 3)))))))) (a0i (a0m (pv 2)))))),?_⟩
    have em:V.str (Str.ofString "")=vT []:=by rw[em_is];rfl
    refine⟨(by show 1≤sizeLine;decide),fun f0 nf=>?_⟩
    have s0:=a0g (o:=.lst [V.str (Str.ofString "")]) nf
    have h0:upd H f0 (.lst [V.str (Str.ofString "")]) f0=some (.lst [V.str (Str.ofString "")]):=a0d
    revert s0 h0
    generalize upd H f0 (.lst [V.str (Str.ofString "")])=H0
    intro s0 h0
    refine⟨(by show 1≤sizeLine;decide),fun g0 ng=>?_⟩
    have s1:=a0g (o:=.lst [V.str (Str.ofString "")]) ng
    have h1:upd H0 g0 (.lst [V.str (Str.ofString "")]) g0=some (.lst [V.str (Str.ofString "")]):=a0d
    revert s1 h1
    generalize upd H0 g0 (.lst [V.str (Str.ofString "")])=H1
    intro s1 h1
    have h0:=s1 _ _ h0
    rw[em]at h0 h1
    refine⟨_,rfl,_,rfl,(by omega),(by omega),h0f (lo:=0) (n:=(q:Int).toNat) (fun i σ H2=>∃fp lp wf wl v4 v5 v6 v7,σ=[some (vT l),some (.int q),some (.ref fp),some (.ref lp),v4,v5,v6,v7]∧Same H H2∧H2 fp=some (.lst (wf.map vT))∧H2 lp=some (.lst (wl.map vT))∧Wds l i wf∧Wds l i wl∧1≤wf.length∧wf.length≤4 ^ i∧wl.length≤3 ^ i) ⟨f0,g0,[[]],[[]],_,_,_,_,rfl,s0.trans s1,h0,h1,Wds.one ⟨by simp,by simp⟩,Wds.one ⟨by simp,by simp⟩,by simp,by simp,by simp⟩ ?_ ?_⟩
    · rintro i σ H2 hi ⟨fp,lp,wf,wl,v4,v5,v6,v7,rfl,q2,hf,hl,W1,W2,z1,z4,z3⟩
      have hi:i < q:=by omega
      have p3:=pow3 (i:=i) (by omega)
      have p4:=pow4 (i:=i) (by omega)
      refine⟨(by show 0≤sizeLine;decide),fun gp ng=>?_⟩
      have s3:=a0g (o:=.lst []) ng
      refine⟨_,rfl,lp,rfl,⟨_,SqL.of (s3 _ _ hl)⟩,h0g (K:=K) (a:=lp) (xs:=wl.map vT) (fun j σ H3=>∃gs v6 v7,σ=[some (vT l),some (.int q),some (.ref fp),some (.ref lp),some (.int (0+(i:Int))),some (.ref gp),v6,v7]∧Same H2 H3∧H3 gp=some (.lst (gs.map vT))∧Wds l (i+1) gs∧gs.length=j * l.length) ⟨[],_,_,rfl,s3,a0d,⟨by simp⟩,by simp⟩ (fun j σ H3 _ ⟨_,_,_,_,x,_⟩=>SqL.of (x _ _ hl)) ?_ ?_⟩
      · rintro j y σ H3 hj ⟨gs,v6,v7,rfl,q3,hg,W3,zg⟩
        obtain⟨ws,ew,rfl⟩:∃ws,wl[j]? = some ws∧y=vT ws:=by
          rw[List.getElem?_map]at hj
          cases e:wl[j]? with
          | none=>rw[e]at hj;cases hj
          | some z=>rw[e]at hj;exact⟨z,rfl,(Option.some.inj hj).symm⟩
        have jl:j < wl.length:=(List.getElem?_eq_some_iff.mp ew).1
        have Ww:=W2.al ws (List.mem_of_getElem? ew)
        refine⟨_,rfl,_,rfl,L.asc,m0a (n:=l.length) (fun m σ H4=>∃gs v7,σ=[some (vT l),some (.int q),some (.ref fp),some (.ref lp),some (.int (0+(i:Int))),some (.ref gp),some (vT ws),v7]∧Same H2 H4∧H4 gp=some (.lst (gs.map vT))∧Wds l (i+1) gs∧gs.length=j * l.length+m) ⟨gs,_,rfl,q3,hg,W3,zg⟩ ?_ ?_⟩
        · rintro m σ H4 hm ⟨gs,v7,rfl,q4,hg,W3,zg⟩
          refine⟨(by show m < l.toArray.size;simpa using hm),fun x H' hy=>?_⟩
          obtain⟨rfl,c,hc,rfl⟩:=hy
          have hc:=tx_get hc
          have jm:j * l.length≤729 * 3:=Nat.mul_le_mul (by omega) l3
          refine⟨_,rfl,.inl ⟨rfl,_,SqL.of hg⟩,_,rfl,_,rfl,_,_,rfl,rfl,(by show(tx ws).length+(tx [c]).length≤_;rw[b0p,b0p];simp;omega),?_⟩
          refine⟨_,_,_,rfl,rfl,hg,(by rw[List.length_map,zg];omega),?_⟩
          refine⟨gs++[ws++[c]],_,rfl,j0s q4 ng,?_,W3.app (Wds.one ⟨fun c' hc'=>?_,by rw[List.length_append];have:=Ww.2;simp;omega⟩),by rw[List.length_append,zg];rfl⟩
          · rw[a0d,List.map_append]
            show some (HO.lst (gs.map vT++[V.str (tx ws++tx [c])]))=_
            rw[tx_app];rfl
          · rcases List.mem_append.mp hc' with h | h
            · exact Ww.1 c' h
            · rw[List.mem_singleton.mp h];exact List.mem_of_getElem? hc
        · rintro σ H4 ⟨gs,v7,rfl,q4,hg,W3,zg⟩
          exact⟨(by show l.toArray.size≤_;simp),gs,_,_,rfl,q4,hg,W3,by rw[zg,Nat.succ_mul]⟩
      · rintro σ H3 ⟨gs,v6,v7,rfl,q3,hg,W3,zg⟩
        rw[List.length_map]at zg
        have zg3:gs.length≤3 ^ (i+1):=by
          rw[zg,Nat.pow_succ]
          exact Nat.mul_le_mul z3 l3
        have p34:=pow34 i
        have e4:4 ^ (i+1)=4 ^ i * 4:=Nat.pow_succ ..
        have e3:3 ^ (i+1)=3 ^ i * 3:=Nat.pow_succ ..
        refine⟨_,rfl,?_⟩
        refine⟨_,rfl,_,rfl,_,_,wf.map vT,gs.map vT,rfl,rfl,q3 _ _ hf,hg,(by rw[List.length_map,List.length_map];omega),fun np nn=>?_⟩
        have s5:=a0g (o:=.lst (wf.map vT++gs.map vT)) nn
        exact⟨np,gp,wf++gs,gs,_,_,_,_,rfl,(q2.trans q3).trans s5,by rw[a0d,List.map_append],s5 _ _ hg,(W1.up (Nat.le_succ _)).app W3,W3,by rw[List.length_append];omega,by rw[List.length_append];omega,zg3⟩
    · rintro σ H2 ⟨fp,lp,wf,wl,v4,v5,v6,v7,rfl,q2,hf,hl,W1,W2,z1,z4,z3⟩
      have en:(q:Int).toNat=q:=by omega
      rw[en]at W1 z4
      have p4:=pow4 hq
      exact⟨_,rfl,k _ _ _ q2 hf W1 z1 (by omega)⟩
def b0h(S:SR)(p:Nat):Nat→S.W:=fun i=>if i=p then S.one else S.zero
theorem unitW_lv{S:SR}{p i:Nat}:S.lv 1 32 (b0h S p i):=by
  unfold b0h
  split
  · exact S.lv_mono _ _ _ _ (by decide) S.lv_one
  · exact S.lv_mono _ _ _ _ (by decide) (S.lv_zero _)
def sp_unit(w:World)(K:PySem.W.Frag)(mg:Str→Option Value)(base:Heap):Sp:=fun vs H Q _=>∃(R:KindR Pr w K mg base),∃kv,∃(z zp:Int),∃(n p:Nat),vs=[kv,.int z,.int zp]∧(KAt R.C R.fs H kv∧n≤1000∧z=n∧zp=p)∧
  ∀v H',Same H H'→R.Row n (b0h R.S p) 1 v H'→Q v H'
theorem m0z(T:Txt K mg t):FnOk Pr w K mg base CX0 41 t.unit t.c1l ["kind","size","place"] (sp_unit w K mg base):=by
  refine T.c1m.ok sc_unit (fun vs H Q E h=>?_) (fun cdv A outer s H vs Q E hr h=>?_)
  · obtain⟨R,kv,z,zp,n,p,rfl,_⟩:=h
    rfl
  · obtain⟨R,kv,z,zp,n,p,rfl,⟨⟨kp,dx,rfl,hk⟩,hn,rfl,rfl⟩,k⟩:=h
    refine⟨_,(a0i (a0m (b0a a0q (by rfl) T.z_tuple boot_tuple (a0a (b0z (xs:=["other"]) rfl (show b0m ["kind","size","place"] (a0h s_unit) _ from⟨rfl,by decide +kernel,by decide +kernel,by decide +kernel,by decide +kernel,by decide +kernel⟩) (b0v rfl T.z_range (a0a (pv 1) a0b)) (fun _ _ _ _ _=>(a0u (i:=3) (by show List.Nodup (["kind","size","place","other"]:List Str);decide +kernel) rfl (Or.inl rfl))) (fun _ _ _ _ _=>(pe_ifExp (a0t c0j (pv 3) (pv 2) (a0w _)) (g0v (pv 0) R.cl R.t_one R.G_one hr.m R.b_one .nil a0k) (g0v (pv 0) R.cl R.t_nought R.G_nought hr.m R.b_nought .nil a0k)))) a0b)))),?_⟩
    refine⟨_,rfl,_,rfl,(by omega),(by omega),b0i (n:=n) (fun j ys H2=>Same H H2∧Ents (R.Wt (b0h R.S p) 1) ys j H2) hn ⟨Same.refl _,Ents.nil⟩ (fun j ys H2 q=>q.2.1) ?_ ?_ ?_⟩
    · rintro j ys H2 hj ⟨q,e⟩
      refine⟨(show j < (n:Int).toNat by omega),fun y H' hy=>?_⟩
      obtain⟨rfl,rfl⟩:=hy
      have lv:R.S.lv 1 32 (b0h R.S p j):=unitW_lv
      refine⟨⟨[some _],rfl,rfl⟩,_,rfl,_,rfl,rfl,_,rfl,?_⟩
      refine iteI (fun e0=>?_) (fun e0=>?_)
      · have e1:b0h R.S p j=R.S.one:=if_pos (by omega)
        refine⟨_,rfl,_,_,_,rfl,q _ _ hk,R.l_one,_,rfl,⟨_,_,rfl,q _ _ hk⟩,fun v H3 s3 f3=>?_⟩
        exact⟨q.trans s3,(e.mono fun _ _ _ z=>KindR.Wt.same s3.t z).snoc ⟨by rw[e1];exact f3,lv⟩⟩
      · have e1:b0h R.S p j=R.S.zero:=if_neg (by omega)
        refine⟨_,rfl,_,_,_,rfl,q _ _ hk,R.l_nought,_,rfl,⟨_,_,rfl,q _ _ hk⟩,fun v H3 s3 f3=>?_⟩
        exact⟨q.trans s3,(e.mono fun _ _ _ z=>KindR.Wt.same s3.t z).snoc ⟨by rw[e1];exact f3,lv⟩⟩
    · rintro ys H2 ⟨q,e⟩
      show(n:Int).toNat≤n
      omega
    · rintro ys H2 l ⟨q,e⟩ nl
      have s1':=a0g (o:=.lst ys) nl
      refine⟨l,ys,rfl,.inl ⟨SqL.of a0d,fun l2 n2=>?_⟩⟩
      have s2:=a0g (o:=.tup ys) n2
      exact k _ _ (q.trans (s1'.trans s2)) ⟨l2,ys,rfl,a0d,e.mono fun _ _ _ z=>KindR.Wt.same (s1'.trans s2).t z⟩
theorem f0b{S:SR}(f:Nat→S.W)(n:Nat):∀k,sm S f (n+k)=S.add (sm S f n) (sm S (fun i=>f (n+i)) k)
  | 0=>by show sm S f n=S.add _ S.zero;rw[S.add_zero]
  | k+1=>by
    show S.add (sm S f (n+k)) (f (n+k))=S.add _ (S.add (sm S (fun i=>f (n+i)) k) (f (n+k)))
    rw[f0b f n k,S.add_assoc]
theorem ahd_fst{S:SR}{n k:Nat}{st1 st2:Nat→S.W}{tb1 C tb2:Nat→Nat→Nat→S.W}{wd:Nat→Nat}:∀i j,j < n→ahd S (n+k) (cat S n st1 st2) (fun c=>blk S n (tb1 c) (C c) (tb2 c)) wd i j=ahd S n st1 tb1 wd i j
  | 0,j,h=>k0z h
  | i+1,j,h=>by
    show sm S (fun a=>S.mul (ahd S (n+k) (cat S n st1 st2) (fun c=>blk S n (tb1 c) (C c) (tb2 c)) wd i a) (blk S n (tb1 (wd i)) (C (wd i)) (tb2 (wd i)) a j)) (n+k)=sm S (fun a=>S.mul (ahd S n st1 tb1 wd i a) (tb1 (wd i) a j)) n
    rw[f0b,a0o (g:=fun a=>S.mul (ahd S n st1 tb1 wd i a) (tb1 (wd i) a j)) (fun a ha=>by rw[ahd_fst i a ha,blk_lt ha,k0z h]),a0o (n:=k) (g:=fun _=>S.zero) (fun a _=>by rw[blk_ge,k0z h,S.mul_zero]),f0t,S.add_zero]
theorem ahd_snd{S:SR}{n k:Nat}{st1 st2:Nat→S.W}{tb1 C tb2:Nat→Nat→Nat→S.W}{wd:Nat→Nat}(i j:Nat):ahd S (n+k) (cat S n st1 st2) (fun c=>blk S n (tb1 c) (C c) (tb2 c)) wd (i+1) (n+j) =
    S.add (sm S (fun a=>S.mul (ahd S n st1 tb1 wd i a) (C (wd i) a j)) n) (sm S (fun a=>S.mul (ahd S (n+k) (cat S n st1 st2) (fun c=>blk S n (tb1 c) (C c) (tb2 c)) wd i (n+a)) (tb2 (wd i) a j)) k):=by
  show sm S (fun a=>S.mul (ahd S (n+k) (cat S n st1 st2) (fun c=>blk S n (tb1 c) (C c) (tb2 c)) wd i a) (blk S n (tb1 (wd i)) (C (wd i)) (tb2 (wd i)) a (n+j))) (n+k)=_
  rw[f0b]
  congr 1
  · exact a0o fun a ha=>by rw[ahd_fst i a ha,blk_lt ha,f0s]
  · exact a0o fun a _=>by rw[blk_ge,f0s]
theorem dot_cat{S:SR}{n k:Nat}{x:Nat→S.W}{y1 y2:Nat→S.W}:dotW S x (cat S n y1 y2) (n+k)=S.add (dotW S x y1 n) (dotW S (fun i=>x (n+i)) y2 k):=by
  unfold dotW
  rw[f0b]
  congr 1
  · exact a0o fun a ha=>by rw[k0z ha]
  · exact a0o fun a _=>by rw[f0s]
theorem k0u{S:SR}{n:Nat}{x x' y:Nat→S.W}(h:∀i,i < n→x i=x' i):dotW S x y n=dotW S x' y n:=a0o fun i hi=>by rw[h i hi]
theorem h0j{S:SR}{n:Nat}{st:Nat→S.W}{tb:Nat→Nat→Nat→S.W}{wd wd':Nat→Nat}:∀{k:Nat},(∀i,i < k→wd i=wd' i)→ahd S n st tb wd k=ahd S n st tb wd' k
  | 0,_=>rfl
  | k+1,h=>by
    show(fun j=>sm S (fun i=>S.mul (ahd S n st tb wd k i) (tb (wd k) i j)) n)=fun j=>sm S (fun i=>S.mul (ahd S n st tb wd' k i) (tb (wd' k) i j)) n
    rw[h0j fun i hi=>h i (Nat.lt_succ_of_lt hi),h k (Nat.lt_succ_self k)]
theorem wdx_take{l ws:List Nat}{i k:Nat}(h:k < i):wdx l (ws.take i) k=wdx l ws k:=by
  unfold wdx
  rw[List.getD_eq_getElem?_getD,List.getD_eq_getElem?_getD,List.getElem?_take_of_lt h]
theorem wdx_drop{l ws:List Nat}{i k:Nat}:wdx l (ws.drop i) k=wdx l ws (i+k):=by
  unfold wdx
  rw[List.getD_eq_getElem?_getD,List.getD_eq_getElem?_getD,List.getElem?_drop]
theorem wgh_take{S:SR}{l ws:List Nat}{n i:Nat}{st en:Nat→S.W}{tb:Nat→Nat→Nat→S.W}(h:i≤ws.length):wgh S l n st tb en (ws.take i)=dotW S (ahd S n st tb (wdx l ws) i) en n:=by
  unfold wgh
  rw[List.length_take,Nat.min_eq_left h,h0j fun k hk=>wdx_take hk]
theorem wgh_drop{S:SR}{l ws:List Nat}{n i:Nat}{st en:Nat→S.W}{tb:Nat→Nat→Nat→S.W}:wgh S l n st tb en (ws.drop i)=dotW S (ahd S n st tb (fun q=>wdx l ws (i+q)) (ws.length - i)) en n:=by
  unfold wgh
  rw[List.length_drop,h0j (wd':=fun q=>wdx l ws (i+q)) fun k _=>wdx_drop]
theorem MOk.sub{n:Nat}{l ws vs:List Nat}(M:MOk n l ws)(h:∀c∈vs,c∈ws)(z:vs.length≤ws.length):MOk n l vs:=⟨⟨M.W.lo,fun c hc=>M.W.al c (h c hc),Nat.le_trans z M.W.le⟩,M.nn⟩
def sp_outer(w:World)(K:PySem.W.Frag)(mg:Str→Option Value)(base:Heap):Sp:=fun vs H Q _=>∃(R:KindR Pr w K mg base),∃kv col row h n x y m m',vs=[kv,col,row]∧(KAt R.C R.fs H kv∧R.Row h x m col H∧R.Row n y m' row H∧h≤1000∧n≤1000∧m+m'≤100000)∧
  ∀v H',Same H H'→R.Tab h n (fun i j=>R.S.mul (x i) (y j)) (m+m') v H'→Q v H'
theorem ok_outer(T:Txt K mg t):FnOk Pr w K mg base CX0 42 t.outer t.b1y ["kind","column","row"] (sp_outer w K mg base):=by
  refine T.b1r.ok sc_outer (fun vs H Q E h=>?_) (fun cdv A outer s H vs Q E hr h=>?_)
  · obtain⟨R,kv,col,row,h,n,x,y,m,m',rfl,_⟩:=h
    rfl
  · obtain⟨R,kv,col,row,h,n,x,y,m,m',rfl,⟨hk,⟨p,us,rfl,hp,ent⟩,hy,hh,hn,hz⟩,k⟩:=h
    refine⟨_,(a0i (a0m (b0a a0q (by rfl) T.z_tuple boot_tuple (a0a (b0z (xs:=["x"]) rfl (show b0m ["kind","column","row"] (a0h m0t) _ from⟨rfl,by decide +kernel,by decide +kernel,by decide +kernel,by decide +kernel,by decide +kernel⟩) (e0m (pv 1)) (fun _ _ _ _ _=>(a0u (i:=3) (by show List.Nodup (["kind","column","row","x"]:List Str);decide +kernel) rfl (Or.inl rfl))) (fun _ _ _ _ _=>(a0f (d0l (w:=w) (base:=base) T) hr.m rfl T.u0u T.t0l.kp T.u0x .nil a0k (a0a (pv 0) (a0a (pv 3) (a0a (pv 2) a0b)))))) a0b)))),?_⟩
    refine⟨_,rfl,p,rfl,⟨_,SqT.of hp⟩,b0i (n:=h) (fun j ys H2=>Same H H2∧Ents (fun i u H=>R.Row n (fun j=>R.S.mul (x i) (y j)) (m+m') u H) ys j H2) hh ⟨Same.refl _,Ents.nil⟩ (fun j ys H2 q=>q.2.1) ?_ ?_ ?_⟩
    · rintro j ys H2 hj ⟨q,e⟩
      obtain⟨u,eu,pu⟩:=ent.2 j hj
      refine⟨⟨_,_,SqT.of (q _ _ hp),eu⟩,fun z H' hz'=>?_⟩
      obtain⟨rfl,hz'⟩:=hz'
      have:=hz' _ (SqT.of (q _ _ hp))
      rw[eu]at this
      cases this
      refine⟨⟨[some _],rfl,rfl⟩,_,rfl,_,rfl,_,rfl,R,_,_,_,n,x j,y,m,m',rfl,⟨hk.same q,R.same q.t pu.1,pu.2,KindR.Row.same q.t hy,hn,hz⟩,fun v H3 s3 r3=>?_⟩
      exact⟨q.trans s3,(e.mono fun _ _ _ z=>KindR.Row.same s3.t z).snoc r3⟩
    · rintro ys H2 ⟨q,e⟩
      exact⟨_,SqT.of (q _ _ hp),by rw[ent.1];exact Nat.le_refl _⟩
    · rintro ys H2 l ⟨q,e⟩ nl
      have s1':=a0g (o:=.lst ys) nl
      refine⟨l,ys,rfl,.inl ⟨SqL.of a0d,fun l2 n2=>?_⟩⟩
      have s2:=a0g (o:=.tup ys) n2
      exact k _ _ (q.trans (s1'.trans s2)) ⟨l2,ys,rfl,a0d,e.mono fun _ _ _ z=>KindR.Row.same (s1'.trans s2).t z⟩
def sp_joined(w:World)(K:PySem.W.Frag)(mg:Str→Option Value)(base:Heap):Sp:=fun vs H Q _=>∃(R:KindR Pr w K mg base),∃kv ov hv l n k st1 tb1 en1 st2 tb2 en2 m,vs=[kv,ov,hv]∧(KAt R.C R.fs H kv∧MachG R l n st1 tb1 en1 m m m ov H∧MachG R l k st2 tb2 en2 m m m hv H∧LOk l∧n+k≤20∧m≤100)∧
  ∀v H',Same H H'→MachG R l (n+k) (cat R.S n st1 fun j=>R.S.mul (dotW R.S st1 en1 n) (st2 j)) (fun c=>blk R.S n (tb1 c) (fun i j=>R.S.mul (dotW R.S (tb1 c i) en1 n) (st2 j)) (tb2 c)) (cat R.S n (fun _=>R.S.zero) en2) (2 * m+m) (m+m+m) m v H'→Q v H'
theorem b0o(T:Txt K mg t):FnOk Pr w K mg base CX0 45 t.c1o t.z0q ["kind","one","other"] (sp_joined w K mg base):=by
  refine T.a1s.ok sc_joined (fun vs H Q E h=>?_) (fun cdv A outer s H vs Q E hr h=>?_)
  · obtain⟨R,kv,ov,hv,l,n,k,st1,tb1,en1,st2,tb2,en2,m,rfl,_⟩:=h
    rfl
  · obtain⟨R,kv,ov,hv,l,n,j,st1,tb1,en1,st2,tb2,en2,m,rfl,⟨hk,ho,hh,L,hz,hm⟩,k⟩:=h
    have sl:1000 < sizeLine:=by decide
    have l3:=L.h3
    obtain⟨p1,sv1,tv1,ev1,rfl,hp1,a1,⟨t1,ts1,rfl,ht1,et1⟩,c1⟩:=id ho
    obtain⟨p2,sv2,tv2,ev2,rfl,hp2,a2,⟨t2,ts2,rfl,ht2,et2⟩,c2⟩:=id hh
    have M0:MOk n l []:=⟨⟨L,by simp,by simp⟩,by omega⟩
    have em:V.str (Str.ofString "")=vT []:=by rw[em_is];rfl
    refine⟨_,(a0c (b0f (a0f (c0a T) hr.m rfl T.o0a T.o0c.kp T.n0x .nil a0k (a0a (pv 1) (a0a (pv 2) a0b)))) (a0c (b0f (a0f (b0j T) hr.m rfl T.p0b T.o0y.kp T.o0s .nil a0k (a0a (a0x b0x (a0f (c0k T) hr.m rfl T.c1c T.b1z.kp T.b1i .nil a0k (a0a (pv 1) a0b)) (a0f (c0k T) hr.m rfl T.c1c T.b1z.kp T.b1i .nil a0k (a0a (pv 2) a0b))) a0b))) (a0c (a0s (i:=3) sc_joined.nd rfl (Or.inl rfl) (a0x e0h (a0p a0n (pv 1) a0e (fun _ _=>rfl)) (a0f (d0l T) hr.m rfl T.u0u T.t0l.kp T.u0x .nil a0k (a0a (pv 0) (a0a (a0f (e0y T) hr.m rfl T.a1a T.a1x.kp T.a1l .nil a0k (a0a (pv 0) (a0a (pv 1) (a0a b0e a0b)))) (a0a (a0p a0n (pv 2) a0e (fun _ _=>rfl)) a0b)))))) (a0c (a0s (i:=4) sc_joined.nd rfl (Or.inl rfl) (c0p a0b)) (a0c (c0i PassesOwn.never rfl (i0n rfl T.z_zip (a0a (a0p a0n (pv 1) a0e (fun _ _=>rfl)) (a0a (a0p a0n (pv 2) a0e (fun _ _=>rfl)) a0b))) (g0u rfl (b0k (a0u (i:=5) sc_joined.nd rfl (Or.inl rfl)) (b0k (a0u (i:=6) sc_joined.nd rfl (Or.inl rfl)) e0f))) (a0c (a0s (i:=7) sc_joined.nd rfl (Or.inl rfl) (a0f (ok_outer T) hr.m rfl T.c1f T.b1r.kp T.b1t .nil a0k (a0a (pv 0) (a0a (a0f (i0s T) hr.m rfl T.v0i T.v0e.kp T.u0p .nil a0k (a0a (pv 0) (a0a (pv 5) (a0a (a0p a0n (pv 1) a0e (fun _ _=>rfl)) a0b)))) (a0a (a0p a0n (pv 2) a0e (fun _ _=>rfl)) a0b))))) (a0i (b0f (g0e PySem.F.plainAttrs_list PySem.F.slot_list_append PySem.F.type_list_append b0y (pv 4) (a0a (a0f (ok_beside T) hr.m rfl T.a1m T.a1g.kp T.b1f .nil a0k (a0a (pv 0) (a0a (pv 5) (a0a (pv 6) (a0a (pv 7) a0b))))) a0b)))))) (a0i (a0m (b0q (a0a (a0p a0n (pv 1) a0e (fun _ _=>rfl)) (a0a (pv 3) (a0a (b0a a0q (by rfl) T.z_tuple boot_tuple (a0a (pv 4) a0b)) (a0a (a0x e0h (a0f (f0h T) hr.m rfl T.y0s T.y0d.kp T.z0f .nil a0k (a0a (pv 0) (a0a (a0f (c0k T) hr.m rfl T.c1c T.b1z.kp T.b1i .nil a0k (a0a (pv 1) a0b)) a0b))) (a0p a0n (pv 2) a0e (fun _ _=>rfl))) a0b)))))))))))),?_⟩
    refine⟨_,rfl,_,rfl,l,p1,p2,_,_,_,_,_,_,rfl,⟨hp1,hp2⟩,?_⟩
    refine⟨_,rfl,R,_,l,n,st1,tb1,en1,m,m,m,rfl,ho,_,rfl,R,_,l,j,st2,tb2,en2,m,m,m,rfl,hh,_,_,rfl,rfl,_,rfl,(by omega),?_⟩
    refine⟨_,rfl,_,_,_,_,rfl,rfl,SqT.of hp1,rfl,_,rfl,_,rfl,_,rfl,?_⟩
    rw[em]
    refine⟨R,_,_,l,n,st1,tb1,en1,[],m,m,m,rfl,⟨hk,ho,M0,by omega⟩,fun wv H1 s1 f1 z1=>?_⟩
    rw[List.length_nil,Nat.zero_mul,Nat.add_zero,show m+m=2 * m by omega]at z1
    refine⟨_,rfl,_,_,_,_,rfl,rfl,SqT.of (s1 _ _ hp2),rfl,R,_,_,_,j,_,st2,2 * m,m,rfl,⟨hk.same s1,f1,z1,KindR.Row.same s1.t a2,by omega,by omega⟩,fun rv H2 s2 r2=>?_⟩
    have s2':=s1.trans s2
    obtain⟨b1,bs1,rfl,hb1,eb1⟩:=Row.up (m':=2 * m+m) (by omega) (KindR.Row.same s2'.t a1)
    obtain⟨b2,bs2,rfl,hb2,eb2⟩:=r2
    refine⟨_,_,bs1,bs2,rfl,rfl,hb1,hb2,(by rw[eb1.1,eb2.1];omega),fun p3 H3 s3 h3=>?_⟩
    have s3':=s2'.trans s3
    have hst:R.Row (n+j) (cat R.S n st1 fun i=>R.S.mul (dotW R.S st1 en1 n) (st2 i)) (2 * m+m) (.ref p3) H3:=⟨p3,_,rfl,h3,(d0m eb1 eb2).mono fun _ _ _ z=>KindR.Wt.same s3.t z⟩
    show c0b 3 (.ref p3) [some kv,some (.ref p1),some (.ref p2),none,none,none,none,none] H3 _
    refine⟨(by show 0≤sizeLine;decide),fun fl nf=>?_⟩
    have s4:=a0g (o:=.lst []) nf
    have s4':=s3'.trans s4
    refine⟨_,rfl,_,_,_,_,rfl,rfl,SqT.of (s4' _ _ hp1),rfl,_,rfl,_,_,_,_,rfl,rfl,SqT.of (s4' _ _ hp2),rfl,.tup t1,.tup t2,_,_,ts1,ts2,rfl,rfl,rfl,SqT.of (s4' _ _ ht1),SqT.of (s4' _ _ ht2),n0s (K:=K) (xs:=ts1) (ys:=ts2) (fun i σ H2=>∃v5 v6 v7 ys,σ=[some kv,some (.ref p1),some (.ref p2),some (.ref p3),some (.ref fl),v5,v6,v7]∧Same H3 H2∧H2 fl=some (.lst ys)∧Ents (fun c u H=>R.Tab (n+j) (n+j) (blk R.S n (tb1 c) (fun i j=>R.S.mul (dotW R.S (tb1 c i) en1 n) (st2 j)) (tb2 c)) (m+m+m) u H) ys i H2) (by rw[et1.1,et2.1]) ⟨_,_,_,[],rfl,s4,a0d,Ents.nil⟩ (fun i σ H2 _ ⟨_,_,_,_,_,q,_⟩=>⟨SqT.of ((s3'.trans q) _ _ ht1),SqT.of ((s3'.trans q) _ _ ht2)⟩) ?_ ?_⟩
    · rintro i u v pp σ H5 hu hv np ⟨v5,v6,v7,ys,rfl,q,hf,e⟩
      obtain⟨hi,pu⟩:=et1.at hu
      obtain⟨_,pv⟩:=et2.at hv
      have s6:=a0g (o:=.tup [u,v]) np
      have q6:=(s3'.trans q).trans s6
      refine⟨pp,_,rfl,SqT.of a0d,rfl,_,_,rfl,_,_,rfl,rfl,?_⟩
      refine⟨_,rfl,_,rfl,_,rfl,_,rfl,_,_,_,_,rfl,rfl,SqT.of (q6 _ _ hp1),rfl,R,_,_,_,n,n,tb1 i,en1,m,m,rfl,⟨hk.same q6,KindR.Tab.same q6.t pu,(KindR.Row.same q6.t c1).seq,by omega,by omega,by omega⟩,fun cv H7 s7 r7=>?_⟩
      have q7:=q6.trans s7
      refine⟨_,rfl,_,_,_,_,rfl,rfl,SqT.of (q7 _ _ hp2),rfl,R,_,_,_,n,j,_,st2,m+m,m,rfl,⟨hk.same q7,r7,KindR.Row.same q7.t a2,by omega,by omega,by omega⟩,fun ov H8 s8 r8=>?_⟩
      have q8:=q7.trans s8
      show c0b 7 ov [some kv,some (.ref p1),some (.ref p2),some (.ref p3),some (.ref fl),some u,some v,v7] H8 _
      have s58:=s6.trans (s7.trans s8)
      refine⟨_,rfl,.inl ⟨rfl,_,SqL.of (s58 _ _ hf)⟩,_,rfl,_,rfl,_,rfl,_,rfl,R,_,_,_,_,n,j,tb1 i,tb2 i,_,m+m+m,rfl,⟨hk.same q8,Tab.up (by omega) (KindR.Tab.same q8.t pu),Tab.up (by omega) (KindR.Tab.same q8.t pv),r8.seq,by omega,by omega⟩,fun bv H9 s9 r9=>?_⟩
      have s59:=s58.trans s9
      have hf9:=s59 _ _ hf
      refine⟨_,_,_,rfl,rfl,hf9,(by rw[e.1];omega),?_⟩
      have st:=c0g (o:=.lst (ys++[bv])) hf9
      exact⟨_,_,_,_,rfl,j0s (q.trans s59) nf,a0d,((e.mono fun _ _ _ w'=>KindR.Tab.same s59.t w').snoc r9).mono fun _ _ _ w'=>KindR.Tab.same st w'⟩
    · rintro σ H5 ⟨v5,v6,v7,ys,rfl,q,hf,e⟩
      rw[et1.1]at e
      have q5:=s3'.trans q
      refine⟨_,rfl,_,_,_,_,rfl,rfl,SqT.of (q5 _ _ hp1),rfl,_,rfl,_,rfl,fl,ys,rfl,.inl ⟨SqL.of hf,fun p6 n6=>?_⟩⟩
      have s6:=a0g (o:=.tup ys) n6
      have q6:=q5.trans s6
      refine⟨_,rfl,_,rfl,R,_,l,n,st1,tb1,en1,m,m,m,rfl,ho.same q6.t,R,_,_,n,m,rfl,⟨hk.same q6,by omega,rfl⟩,fun nv H7 s7 r7=>?_⟩
      have q7:=q6.trans s7
      obtain⟨d1,ds1,rfl,hd1,ed1⟩:=r7
      obtain⟨d2,ds2,rfl,hd2,ed2⟩:=KindR.Row.same q7.t c2
      refine⟨_,rfl,_,_,_,_,rfl,rfl,SqT.of (q7 _ _ hp2),rfl,_,_,ds1,ds2,rfl,rfl,hd1,hd2,(by rw[ed1.1,ed2.1];omega),fun p8 H8 s8 h8=>?_⟩
      refine⟨(by show 4≤sizeLine;decide),fun p9 n9=>?_⟩
      have s9:=a0g (o:=.tup [vT l,V.ref p3,V.ref p6,V.ref p8]) n9
      have s89:=s8.trans s9
      have s79:=s7.trans s89
      have hp6:upd H5 p6 (.tup ys) p6=some (.tup ys):=a0d
      exact k _ _ (q7.trans s89) ⟨p9,_,_,_,rfl,a0d,KindR.Row.same (q.trans (s6.trans s79)).t hst,
        ⟨p6,ys,rfl,s79 _ _ hp6,e.mono fun _ _ _ z=>KindR.Tab.same (s6.trans s79).t z⟩,
        ⟨p8,_,rfl,s9 _ _ h8,(d0m ed1 ed2).mono fun _ _ _ z=>KindR.Wt.same s89.t z⟩⟩
def crs(S:SR)(k:Nat)(x y:Nat→S.W):Nat→S.W:=fun a=>S.mul (x (a / k)) (y (a % k))
def crsT(S:SR)(k:Nat)(A B:Nat→Nat→S.W):Nat→Nat→S.W:=fun a=>crs S k (A (a / k)) (B (a % k))
theorem div_at{i j k:Nat}(h:j < k):(i * k+j) / k=i:=by
  rw[Nat.add_comm,Nat.add_mul_div_right _ _ (by omega),Nat.div_eq_of_lt h,Nat.zero_add]
theorem mod_at{i j k:Nat}(h:j < k):(i * k+j) % k=j:=by
  rw[Nat.add_comm,Nat.add_mul_mod_self_right,Nat.mod_eq_of_lt h]
theorem crs_at{S:SR}{i j k:Nat}{x y:Nat→S.W}(h:j < k):crs S k x y (i * k+j)=S.mul (x i) (y j):=by
  unfold crs
  rw[div_at h,mod_at h]
theorem crsT_at{S:SR}{i j k:Nat}{A B:Nat→Nat→S.W}(h:j < k):crsT S k A B (i * k+j)=crs S k (A i) (B j):=by
  unfold crsT
  rw[div_at h,mod_at h]
theorem mul_lt{i n k:Nat}(h:i < n):i * k+k≤n * k:=by
  rw[← Nat.succ_mul]
  exact Nat.mul_le_mul_right k h
def sp_cross_row(w:World)(K:PySem.W.Frag)(mg:Str→Option Value)(base:Heap):Sp:=fun vs H Q _=>∃(R:KindR Pr w K mg base),∃kv ov hv n k x y m m',vs=[kv,ov,hv]∧(KAt R.C R.fs H kv∧R.Row n x m ov H∧R.Row k y m' hv H∧n≤500∧k≤500∧n * k≤500∧m+m'≤100000)∧
  ∀v H',Same H H'→R.Row (n * k) (crs R.S k x y) (m+m') v H'→Q v H'
theorem e0z(T:Txt K mg t):FnOk Pr w K mg base CX0 42 t.y0i t.t0p ["kind","one","other"] (sp_cross_row w K mg base):=by
  refine T.u0h.ok sc_cross_row (fun vs H Q E h=>?_) (fun cdv A outer s H vs Q E hr h=>?_)
  · obtain⟨R,kv,ov,hv,n,k,x,y,m,m',rfl,_⟩:=h
    rfl
  · obtain⟨R,kv,ov,hv,n,j,x,y,m,m',rfl,⟨hk,⟨p,us,rfl,hp,ent⟩,hy,hn,hj,hz,hm⟩,k⟩:=h
    have sl:1000 < sizeLine:=by decide
    refine⟨_,(a0c (a0s (i:=3) sc_cross_row.nd rfl (Or.inl rfl) (b0q a0b)) (a0c (c0i PassesOwn.never rfl (e0m (pv 1)) (a0u (i:=4) sc_cross_row.nd rfl (Or.inl rfl)) (a0i (a0s (i:=3) sc_cross_row.nd rfl (Or.inl rfl) (a0x e0h (pv 3) (a0f (d0l T) hr.m rfl T.u0u T.t0l.kp T.u0x .nil a0k (a0a (pv 0) (a0a (pv 4) (a0a (pv 2) a0b)))))))) (a0i (a0m (pv 3))))),?_⟩
    refine⟨(by show 0≤sizeLine;decide),fun p0 n0=>?_⟩
    have s0:=a0g (o:=.tup []) n0
    refine⟨_,rfl,p,rfl,⟨_,SqT.of (s0 _ _ hp)⟩,m0a (n:=n) (fun i σ H2=>∃tv v4,σ=[some kv,some (.ref p),some hv,some tv,v4]∧Same H H2∧R.Row (i * j) (crs R.S j x y) (m+m') tv H2) ⟨_,_,rfl,s0,⟨p0,[],rfl,a0d,by rw[Nat.zero_mul];exact Ents.nil⟩⟩ ?_ ?_⟩
    · rintro i σ H2 hi ⟨tv,v4,rfl,q,⟨tp,as,rfl,ha,ea⟩⟩
      obtain⟨u,eu,pu⟩:=ent.2 i hi
      refine⟨⟨_,_,SqT.of (q _ _ hp),eu⟩,fun z H' hz'=>?_⟩
      obtain⟨rfl,hz'⟩:=hz'
      have:=hz' _ (SqT.of (q _ _ hp))
      rw[eu]at this
      cases this
      have ml:=mul_lt (k:=j) hi
      refine⟨_,rfl,_,rfl,_,rfl,_,rfl,R,_,_,_,j,x i,y,m,m',rfl,⟨hk.same q,R.same q.t pu.1,pu.2,KindR.Row.same q.t hy,by omega,hm⟩,fun v H3 s3 r3=>?_⟩
      obtain⟨b,bs,rfl,hb,eb⟩:=r3
      refine⟨_,_,as,bs,rfl,rfl,s3 _ _ ha,hb,(by rw[ea.1,eb.1];omega),fun p4 H4 s4 h4=>?_⟩
      refine⟨_,_,rfl,q.trans (s3.trans s4),⟨p4,_,rfl,h4,?_⟩⟩
      rw[Nat.succ_mul]
      refine Ents.app (ea.mono fun _ _ _ z=>KindR.Wt.same (s3.trans s4).t z) (eb.mono fun b _ hb' z=>?_)
      show R.is _ _ (crs R.S j x y (i * j+b))∧R.S.lv (m+m') 32 (crs R.S j x y (i * j+b))
      rw[crs_at hb']
      exact KindR.Wt.same s4.t z
    · rintro σ H2 ⟨tv,v4,rfl,q,r⟩
      exact⟨⟨_,SqT.of (q _ _ hp),by rw[ent.1];exact Nat.le_refl _⟩,_,rfl,k _ _ q r⟩
def l0c(w:World)(K:PySem.W.Frag)(mg:Str→Option Value)(base:Heap):Sp:=fun vs H Q _=>∃(R:KindR Pr w K mg base),∃kv ov hv n k A B m m',vs=[kv,ov,hv]∧(KAt R.C R.fs H kv∧R.Tab n n A m ov H∧R.Tab k k B m' hv H∧n≤500∧k≤500∧n * k≤500∧m+m'≤100000)∧
  ∀v H',Same H H'→R.Tab (n * k) (n * k) (crsT R.S k A B) (m+m') v H'→Q v H'
theorem l0k(T:Txt K mg t):FnOk Pr w K mg base CX0 43 t.t0c t.r0k ["kind","one","other"] (l0c w K mg base):=by
  refine T.r0p.ok sc_cross_table (fun vs H Q E h=>?_) (fun cdv A outer s H vs Q E hr h=>?_)
  · obtain⟨R,kv,ov,hv,n,k,A,B,m,m',rfl,_⟩:=h
    rfl
  · obtain⟨R,kv,ov,hv,n,j,A0,B,m,m',rfl,⟨hk,⟨p,us,rfl,hp,ent⟩,⟨p',us',rfl,hp',ent'⟩,hn,hj,hz,hm⟩,k⟩:=h
    have sl:1000 < sizeLine:=by decide
    refine⟨_,(a0c (a0s (i:=3) sc_cross_table.nd rfl (Or.inl rfl) (c0p a0b)) (a0c (c0i PassesOwn.never rfl (e0m (pv 1)) (a0u (i:=4) sc_cross_table.nd rfl (Or.inr rfl)) (a0i (b0f (g0e PySem.F.plainAttrs_list PySem.F.slot_list_extend PySem.F.type_list_extend mt_extend (pv 3) (a0a (b0z (xs:=["second"]) rfl (show b0m ["kind","one","other","told","row"] (a0h d0b) _ from⟨rfl,by decide +kernel,by decide +kernel,by decide +kernel,by decide +kernel,by decide +kernel⟩) (e0m (pv 2)) (fun _ _ _ _ _=>(a0u (i:=5) (by show List.Nodup (["kind","one","other","told","row","second"]:List Str);decide +kernel) rfl (Or.inl rfl))) (fun _ _ _ _ _=>(a0f (e0z (w:=w) (base:=base) T) hr.m rfl T.v0h T.u0h.kp T.t0b .nil a0k (a0a (pv 0) (a0a (pv 4) (a0a (pv 5) a0b)))))) a0b))))) (a0i (a0m (b0a a0q (by rfl) T.z_tuple boot_tuple (a0a (pv 3) a0b)))))),?_⟩
    refine⟨(by show 0≤sizeLine;decide),fun fl nf=>?_⟩
    have s0:=a0g (o:=.lst []) nf
    refine⟨_,rfl,p,rfl,⟨_,SqT.of (s0 _ _ hp)⟩,m0a (n:=n) (fun i σ H2=>∃v4 ys,σ=[some kv,some (.ref p),some (.ref p'),some (.ref fl),v4]∧Same H H2∧H2 fl=some (.lst ys)∧Ents (fun a u H=>R.Row (n * j) (crsT R.S j A0 B a) (m+m') u H) ys (i * j) H2) ⟨_,[],rfl,s0,a0d,by rw[Nat.zero_mul];exact Ents.nil⟩ ?_ ?_⟩
    · rintro i σ H2 hi ⟨v4,ys,rfl,q,hf,e⟩
      obtain⟨u,eu,pu⟩:=ent.2 i hi
      refine⟨⟨_,_,SqT.of (q _ _ hp),eu⟩,fun z H' hz'=>?_⟩
      obtain⟨rfl,hz'⟩:=hz'
      have:=hz' _ (SqT.of (q _ _ hp))
      rw[eu]at this
      cases this
      have ml:=mul_lt (k:=j) hi
      refine⟨_,rfl,.inl ⟨rfl,_,SqL.of hf⟩,_,rfl,p',rfl,⟨_,SqT.of (q _ _ hp')⟩,b0i (n:=j) (fun b zs H3=>Same H' H3∧Ents (fun b u H=>R.Row (n * j) (crs R.S j (A0 i) (B b)) (m+m') u H) zs b H3) (by omega) ⟨Same.refl _,Ents.nil⟩ (fun b zs H3 c=>c.2.1) ?_ ?_ ?_⟩
      · rintro b zs H3 hb ⟨q3,c⟩
        have q':=q.trans q3
        obtain⟨v,ev,pv⟩:=ent'.2 b hb
        refine⟨⟨_,_,SqT.of (q' _ _ hp'),ev⟩,fun z H' hz'=>?_⟩
        obtain⟨rfl,hz'⟩:=hz'
        have:=hz' _ (SqT.of (q' _ _ hp'))
        rw[ev]at this
        cases this
        refine⟨⟨[some _],rfl,rfl⟩,_,rfl,_,rfl,_,rfl,R,_,_,_,n,j,A0 i,B b,m,m',rfl,⟨hk.same q',KindR.Row.same q'.t pu,KindR.Row.same q'.t pv,hn,hj,hz,hm⟩,fun w4 H4 s4 r4=>?_⟩
        exact⟨q3.trans s4,(c.mono fun _ _ _ z=>KindR.Row.same s4.t z).snoc r4⟩
      · rintro zs H3 ⟨q3,c⟩
        exact⟨_,SqT.of ((q.trans q3) _ _ hp'),by rw[ent'.1];exact Nat.le_refl _⟩
      · rintro zs H3 lp ⟨q3,c⟩ nl
        have s4:=a0g (o:=.lst zs) nl
        have q4:=q3.trans s4
        have hf4:=q4 _ _ hf
        refine⟨_,_,ys,zs,rfl,rfl,hf4,a0d,(by rw[e.1,c.1];omega),?_⟩
        have st:=c0g (o:=.lst (ys++zs)) hf4
        refine⟨_,_,rfl,j0s (q.trans q4) nf,a0d,?_⟩
        rw[Nat.succ_mul]
        refine Ents.app (e.mono fun _ _ _ z=>KindR.Row.same (q4.t.trans st) z) (c.mono fun b _ hb z=>?_)
        show R.Row (n * j) (crsT R.S j A0 B (i * j+b)) (m+m') _ _
        rw[crsT_at hb]
        exact KindR.Row.same (s4.t.trans st) z
    · rintro σ H2 ⟨v4,ys,rfl,q,hf,e⟩
      refine⟨⟨_,SqT.of (q _ _ hp),by rw[ent.1];exact Nat.le_refl _⟩,_,rfl,fl,ys,rfl,.inl ⟨SqL.of hf,fun l2 n2=>?_⟩⟩
      have s2:=a0g (o:=.tup ys) n2
      exact k _ _ (q.trans s2) ⟨l2,ys,rfl,a0d,e.mono fun _ _ _ z=>KindR.Row.same s2.t z⟩
def l0v(w:World)(K:PySem.W.Frag)(mg:Str→Option Value)(base:Heap):Sp:=fun vs H Q _=>∃(R:KindR Pr w K mg base),∃kv ov hv l n k st1 tb1 en1 st2 tb2 en2,vs=[kv,ov,hv]∧(KAt R.C R.fs H kv∧MachG R l n st1 tb1 en1 1 1 1 ov H∧MachG R l k st2 tb2 en2 1 1 1 hv H∧LOk l∧n≤100∧k≤100∧n * k≤20)∧
  ∀v H',Same H H'→MachG R l (n * k) (crs R.S k st1 st2) (fun c=>crsT R.S k (tb1 c) (tb2 c)) (crs R.S k en1 en2) 2 2 2 v H'→Q v H'
theorem d0v(T:Txt K mg t):FnOk Pr w K mg base CX0 45 t.b1n t.y0h ["kind","one","other"] (l0v w K mg base):=by
  refine T.y0b.ok sc_crossed (fun vs H Q E h=>?_) (fun cdv A outer s H vs Q E hr h=>?_)
  · obtain⟨R,kv,ov,hv,l,n,k,st1,tb1,en1,st2,tb2,en2,rfl,_⟩:=h
    rfl
  · obtain⟨R,kv,ov,hv,l,n,j,st1,tb1,en1,st2,tb2,en2,rfl,⟨hk,ho,hh,L,hn,hj,hz⟩,k⟩:=h
    have sl:1000 < sizeLine:=by decide
    have l3:=L.h3
    obtain⟨p1,sv1,tv1,ev1,rfl,hp1,a1,⟨t1,ts1,rfl,ht1,et1⟩,c1⟩:=id ho
    obtain⟨p2,sv2,tv2,ev2,rfl,hp2,a2,⟨t2,ts2,rfl,ht2,et2⟩,c2⟩:=id hh
    have ez:(n:Int) * j=((n * j:Nat):Int):=(Int.natCast_mul n j).symm
    refine⟨_,(a0c (b0f (a0f (c0a T) hr.m rfl T.o0a T.o0c.kp T.n0x .nil a0k (a0a (pv 1) (a0a (pv 2) a0b)))) (a0c (b0f (a0f (b0j T) hr.m rfl T.p0b T.o0y.kp T.o0s .nil a0k (a0a (a0x g0x (a0f (c0k T) hr.m rfl T.c1c T.b1z.kp T.b1i .nil a0k (a0a (pv 1) a0b)) (a0f (c0k T) hr.m rfl T.c1c T.b1z.kp T.b1i .nil a0k (a0a (pv 2) a0b))) a0b))) (a0c (a0s (i:=3) sc_crossed.nd rfl (Or.inl rfl) (a0f (e0z T) hr.m rfl T.v0h T.u0h.kp T.t0b .nil a0k (a0a (pv 0) (a0a (a0p a0n (pv 1) a0e (fun _ _=>rfl)) (a0a (a0p a0n (pv 2) a0e (fun _ _=>rfl)) a0b))))) (a0c (e0t (i₀:=4) (xs:=["first","second"]) sc_crossed.nd rfl (Or.inl rfl) rfl (show b0m ["kind","one","other","start","tables"] (a0h g0p) _ from⟨rfl,by decide +kernel,by decide +kernel,by decide +kernel,by decide +kernel,by decide +kernel⟩) (i0n rfl T.z_zip (a0a (a0p a0n (pv 1) a0e (fun _ _=>rfl)) (a0a (a0p a0n (pv 2) a0e (fun _ _=>rfl)) a0b))) (fun _ _ _ _ _=>(show PG _ _ (gTup K 2 _)from(g0u rfl (b0k (a0u (i:=5) (by show List.Nodup (["kind","one","other","start","tables","first","second"]:List Str);decide +kernel) rfl (Or.inl rfl)) (b0k (a0u (i:=6) (by show List.Nodup (["kind","one","other","start","tables","first","second"]:List Str);decide +kernel) rfl (Or.inl rfl)) e0f))))) (fun _ _ _ _ _=>(a0f (l0k (w:=w) (base:=base) T) hr.m rfl T.q0s T.r0p.kp T.r0l .nil a0k (a0a (pv 0) (a0a (pv 5) (a0a (pv 6) a0b)))))) (a0i (a0m (b0q (a0a (a0p a0n (pv 1) a0e (fun _ _=>rfl)) (a0a (pv 3) (a0a (b0a a0q (by rfl) T.z_tuple boot_tuple (a0a (pv 4) a0b)) (a0a (a0f (e0z T) hr.m rfl T.v0h T.u0h.kp T.t0b .nil a0k (a0a (pv 0) (a0a (a0p a0n (pv 1) a0e (fun _ _=>rfl)) (a0a (a0p a0n (pv 2) a0e (fun _ _=>rfl)) a0b)))) a0b))))))))))),?_⟩
    refine⟨_,rfl,_,rfl,l,p1,p2,_,_,_,_,_,_,rfl,⟨hp1,hp2⟩,?_⟩
    refine⟨_,rfl,R,_,l,n,st1,tb1,en1,1,1,1,rfl,ho,_,rfl,R,_,l,j,st2,tb2,en2,1,1,1,rfl,hh,_,_,rfl,rfl,.inl ⟨by omega,by omega⟩,_,rfl,(by rw[ez];omega),?_⟩
    refine⟨_,rfl,_,rfl,_,_,_,_,rfl,rfl,SqT.of hp1,rfl,_,rfl,_,_,_,_,rfl,rfl,SqT.of hp2,rfl,R,_,_,_,n,j,st1,st2,1,1,rfl,⟨hk,a1,a2,by omega,by omega,by omega,by decide⟩,fun sv H1 s1 r1=>?_⟩
    show c0b 3 sv [some kv,some (.ref p1),some (.ref p2),none,none] H1 _
    refine⟨_,rfl,_,_,_,_,rfl,rfl,SqT.of (s1 _ _ hp1),rfl,_,rfl,_,_,_,_,rfl,rfl,SqT.of (s1 _ _ hp2),rfl,.tup t1,.tup t2,_,_,ts1,ts2,rfl,rfl,rfl,SqT.of (s1 _ _ ht1),SqT.of (s1 _ _ ht2),b0i (n:=l.length) (fun i ys H2=>Same H1 H2∧Ents (fun c u H=>R.Tab (n * j) (n * j) (crsT R.S j (tb1 c) (tb2 c)) 2 u H) ys i H2) (by omega) ⟨Same.refl _,Ents.nil⟩ (fun j ys H2 q=>q.2.1) ?_ ?_ ?_⟩
    · rintro i ys H4 hi ⟨q,e⟩
      have q1:=s1.trans q
      obtain⟨u,eu,pu⟩:=et1.2 i hi
      obtain⟨v,ev,pv⟩:=et2.2 i hi
      refine⟨⟨ts1,ts2,u,v,SqT.of (q1 _ _ ht1),SqT.of (q1 _ _ ht2),eu,ev⟩,fun y H' hy=>?_⟩
      obtain⟨pp,x',y',rfl,np',rfl,f1,f2⟩:=hy
      have e1:=f1 _ (SqT.of (q1 _ _ ht1))
      rw[eu]at e1
      cases e1
      have e2:=f2 _ (SqT.of (q1 _ _ ht2))
      rw[ev]at e2
      cases e2
      have s5:=a0g (o:=.tup [u,v]) np'
      have q5:=q1.trans s5
      refine⟨pp,_,rfl,SqT.of a0d,rfl,_,_,rfl,_,_,rfl,rfl,⟨[some _,some _],rfl,rfl⟩,_,rfl,_,rfl,_,rfl,R,_,_,_,n,j,tb1 i,tb2 i,1,1,rfl,⟨hk.same q5,KindR.Tab.same q5.t pu,KindR.Tab.same q5.t pv,by omega,by omega,by omega,by decide⟩,fun w6 H6 s6 r6=>?_⟩
      exact⟨q.trans (s5.trans s6),(e.mono fun _ _ _ z=>KindR.Tab.same (s5.trans s6).t z).snoc r6⟩
    · rintro ys H4 ⟨q,e⟩
      exact⟨ts1,ts2,SqT.of ((s1.trans q) _ _ ht1),SqT.of ((s1.trans q) _ _ ht2),.inl et1.1.symm⟩
    · rintro us H4 up ⟨q,eU⟩ nu
      have s5:=a0g (o:=.lst us) nu
      have q5:=q.trans s5
      have hU:upd H4 up (.lst us) up=some (.lst us):=a0d
      have eU:=eU.mono fun _ _ _ z=>KindR.Tab.same s5.t z
      revert q5 hU eU
      clear s5 nu q
      generalize upd H4 up (.lst us)=H5
      intro q5 hU eU
      show c0b 4 (.ref up) [some kv,some (.ref p1),some (.ref p2),some sv,none] H5 _
      have q5':=s1.trans q5
      refine⟨_,rfl,_,_,_,_,rfl,rfl,SqT.of (q5' _ _ hp1),rfl,_,rfl,_,rfl,up,us,rfl,.inl ⟨SqL.of hU,fun p7 n7=>?_⟩⟩
      have s7:=a0g (o:=.tup us) n7
      have q7:=q5'.trans s7
      have hp7:upd H5 p7 (.tup us) p7=some (.tup us):=a0d
      refine⟨_,rfl,_,rfl,_,_,_,_,rfl,rfl,SqT.of (q7 _ _ hp1),rfl,_,rfl,_,_,_,_,rfl,rfl,SqT.of (q7 _ _ hp2),rfl,R,_,_,_,n,j,en1,en2,1,1,rfl,⟨hk.same q7,KindR.Row.same q7.t c1,KindR.Row.same q7.t c2,by omega,by omega,by omega,by decide⟩,fun ev H8 s8 r8=>?_⟩
      refine⟨(by show 4≤sizeLine;decide),fun p9 n9=>?_⟩
      have s9:=a0g (o:=.tup [vT l,sv,V.ref p7,ev]) n9
      have s89:=s8.trans s9
      have s79:=s7.trans s89
      exact k _ _ (q7.trans s89) ⟨p9,_,_,_,rfl,a0d,KindR.Row.same (q5.trans s79).t r1,
        ⟨p7,us,rfl,s89 _ _ hp7,eU.mono fun _ _ _ z=>KindR.Tab.same s79.t z⟩,KindR.Row.same s9.t r8⟩
theorem l0a{S:SR}{n:Nat}{tb:Nat→Nat→Nat→S.W}{wd wd':Nat→Nat}:∀{k:Nat} (c:Nat→S.W),(∀i,i < k→wd i=wd' i)→bhd S n tb wd k c=bhd S n tb wd' k c
  | 0,_,_=>rfl
  | k+1,c,h=>by
    show bhd S n tb wd k _=bhd S n tb wd' k _
    rw[l0a _ fun i hi=>h i (Nat.lt_succ_of_lt hi),h k (Nat.lt_succ_self k)]
theorem cut_dot{S:SR}{n:Nat}{st:Nat→S.W}{tb:Nat→Nat→Nat→S.W}{wd:Nat→Nat}(i:Nat):∀(k:Nat) (c:Nat→S.W),dotW S (ahd S n st tb wd i) (bhd S n tb (fun j=>wd (i+j)) k c) n=dotW S (ahd S n st tb wd (i+k)) c n
  | 0,_=>rfl
  | k+1,c=>by
    show dotW S _ (bhd S n tb (fun j=>wd (i+j)) k fun a=>sm S (fun j=>S.mul (tb (wd (i+k)) a j) (c j)) n) n=_
    rw[cut_dot i k]
    exact(j0i (ahd S n st tb wd (i+k)) (tb (wd (i+k))) c n n).symm
theorem bhd_first{S:SR}{n:Nat}{tb:Nat→Nat→Nat→S.W}{wd:Nat→Nat}:∀(k:Nat) (c:Nat→S.W),bhd S n tb wd (k+1) c=fun a=>sm S (fun j=>S.mul (tb (wd 0) a j) (bhd S n tb (fun i=>wd (i+1)) k c j)) n
  | 0,_=>rfl
  | k+1,c=>by
    show bhd S n tb wd (k+1) _=_
    rw[bhd_first k]
    rfl
def sp_mirrored(w:World)(K:PySem.W.Frag)(mg:Str→Option Value)(base:Heap):Sp:=fun vs H Q _=>∃(R:KindR Pr w K mg base),∃mv l n st tb en m1 m2 m3,vs=[mv]∧(MachG R l n st tb en m1 m2 m3 mv H∧LOk l∧n≤500)∧
  ∀v H',Same H H'→MachG R l n en (fun c i j=>tb c j i) st m3 m2 m1 v H'→Q v H'
theorem ok_mirrored(T:Txt K mg t):FnOk Pr w K mg base CX0 43 t.b1g t.w0s ["machine"] (sp_mirrored w K mg base):=by
  refine T.w0w.ok sc_mirrored (fun vs H Q E h=>?_) (fun cdv A outer s H vs Q E hr h=>?_)
  · obtain⟨R,mv,l,n,st,tb,en,m1,m2,m3,rfl,_⟩:=h
    rfl
  · obtain⟨R,mv,l,n,st,tb,en,m1,m2,m3,rfl,⟨⟨p,sv,tv,ev,rfl,hp,h1,⟨tp,ts,rfl,htp,et⟩,h3⟩,L,hn⟩,k⟩:=h
    have l3:=L.h3
    refine⟨_,(a0c (e0t (i₀:=1) (xs:=["table"]) sc_mirrored.nd rfl (Or.inl rfl) rfl (show b0m ["machine","tables"] (a0h f0c) _ from⟨rfl,by decide +kernel,by decide +kernel,by decide +kernel,by decide +kernel,by decide +kernel⟩) (e0m (a0p a0n (pv 0) a0e (fun _ _=>rfl))) (fun _ _ _ _ _=>(a0u (i:=2) (by show List.Nodup (["machine","tables","table"]:List Str);decide +kernel) rfl (Or.inl rfl))) (fun _ _ _ _ _=>(a0f (g0y (w:=w) (base:=base) T) hr.m rfl T.s0q T.s0i.kp T.r0s .nil a0k (a0a (pv 2) a0b)))) (a0i (a0m (b0q (a0a (a0p a0n (pv 0) a0e (fun _ _=>rfl)) (a0a (a0p a0n (pv 0) a0e (fun _ _=>rfl)) (a0a (b0a a0q (by rfl) T.z_tuple boot_tuple (a0a (pv 1) a0b)) (a0a (a0p a0n (pv 0) a0e (fun _ _=>rfl)) a0b)))))))),?_⟩
    refine⟨_,rfl,_,_,_,_,rfl,rfl,SqT.of hp,rfl,tp,rfl,⟨_,SqT.of htp⟩,b0i (n:=l.length) (fun i ys H2=>Same H H2∧Ents (fun c u H=>R.Tab n n (fun i j=>tb c j i) m2 u H) ys i H2) (by omega) ⟨Same.refl _,Ents.nil⟩ (fun j ys H2 q=>q.2.1) ?_ ?_ ?_⟩
    · rintro j ys H2 hj ⟨q,e⟩
      obtain⟨u,eu,pu⟩:=et.2 j hj
      refine⟨⟨_,_,SqT.of (q _ _ htp),eu⟩,fun y H' hy=>?_⟩
      obtain⟨rfl,hy⟩:=hy
      have:=hy _ (SqT.of (q _ _ htp))
      rw[eu]at this
      cases this
      refine⟨⟨[some _],rfl,rfl⟩,_,rfl,R,_,n,n,tb j,m2,rfl,⟨KindR.Tab.same q.t pu,by omega,by omega⟩,fun v H3 s3 r3=>?_⟩
      rw[if0]at r3
      exact⟨q.trans s3,(e.mono fun _ _ _ z=>KindR.Tab.same s3.t z).snoc r3⟩
    · rintro ys H2 ⟨q,e⟩
      exact⟨_,SqT.of (q _ _ htp),by rw[et.1];exact Nat.le_refl _⟩
    · rintro us H4 up ⟨q,eU⟩ nu
      have s5:=a0g (o:=.lst us) nu
      have q5:=q.trans s5
      have hU:upd H4 up (.lst us) up=some (.lst us):=a0d
      have eU:=eU.mono fun _ _ _ z=>KindR.Tab.same s5.t z
      revert q5 hU eU
      clear s5 nu q
      generalize upd H4 up (.lst us)=H5
      intro q5 hU eU
      show c0b 1 (.ref up) [some (.ref p),none] H5 _
      refine⟨_,rfl,_,_,_,_,rfl,rfl,SqT.of (q5 _ _ hp),rfl,_,rfl,_,_,_,_,rfl,rfl,SqT.of (q5 _ _ hp),rfl,_,rfl,up,us,rfl,.inl ⟨SqL.of hU,fun p7 n7=>?_⟩⟩
      have s7:=a0g (o:=.tup us) n7
      have q7:=q5.trans s7
      have hp7:upd H5 p7 (.tup us) p7=some (.tup us):=a0d
      refine⟨_,rfl,_,_,_,_,rfl,rfl,SqT.of (q7 _ _ hp),rfl,(by show 4≤sizeLine;decide),fun p9 n9=>?_⟩
      have s9:=a0g (o:=.tup [vT l,ev,V.ref p7,sv]) n9
      have q9:=q7.trans s9
      exact k _ _ q9 ⟨p9,_,_,_,rfl,a0d,KindR.Row.same q9.t h3,⟨p7,us,rfl,s9 _ _ hp7,eU.mono fun _ _ _ z=>KindR.Tab.same (s7.trans s9).t z⟩,KindR.Row.same q9.t h1⟩
def sp_turned(w:World)(K:PySem.W.Frag)(mg:Str→Option Value)(base:Heap):Sp:=fun vs H Q _=>∃(R:KindR Pr w K mg base),∃kv mv l n st tb en m1 m2 m3,vs=[kv,mv]∧(MachG R l n st tb en m1 m2 m3 mv H∧LOk l∧n≤20)∧
  ∀v H',Same H H'→MachG R l n en (fun c i j=>tb c j i) st m3 m2 m1 v H'→Q v H'
theorem d0u(T:Txt K mg t):FnOk Pr w K mg base CX0 44 t.turned t.z0s ["kind","machine"] (sp_turned w K mg base):=by
  refine T.a1z.ok sc_turned (fun vs H Q E h=>?_) (fun cdv A outer s H vs Q E hr h=>?_)
  · obtain⟨R,kv,mv,l,n,st,tb,en,m1,m2,m3,rfl,_⟩:=h
    rfl
  · obtain⟨R,kv,mv,l,n,st,tb,en,m1,m2,m3,rfl,⟨hm,L,hn⟩,k⟩:=h
    refine⟨_,(a0c (b0f (a0f (b0j T) hr.m rfl T.p0b T.o0y.kp T.o0s .nil a0k (a0a (a0f (c0k T) hr.m rfl T.c1c T.b1z.kp T.b1i .nil a0k (a0a (pv 1) a0b)) a0b))) (a0i (a0m (a0f (ok_mirrored T) hr.m rfl T.v0y T.w0w.kp T.w0m .nil a0k (a0a (pv 1) a0b))))),?_⟩
    refine⟨_,rfl,R,_,l,n,st,tb,en,m1,m2,m3,rfl,hm,_,rfl,(by omega),?_⟩
    exact⟨_,rfl,R,_,l,n,st,tb,en,m1,m2,m3,rfl,⟨hm,L,by omega⟩,k⟩
theorem dot_comm{S:SR}{x y:Nat→S.W}{n:Nat}:dotW S x y n=dotW S y x n:=a0o fun _ _=>S.mul_comm _ _
theorem m0d{S:SR}{n:Nat}{en:Nat→S.W}{tb:Nat→Nat→Nat→S.W}{wd:Nat→Nat}:∀k,ahd S n en (fun c i j=>tb c j i) wd k=bhd S n tb (fun i=>wd (k - 1 - i)) k en
  | 0=>rfl
  | k+1=>by
    rw[bhd_first]
    funext j
    show sm S (fun i=>S.mul (ahd S n en (fun c i j=>tb c j i) wd k i) (tb (wd k) j i)) n=sm S (fun i=>S.mul (tb (wd (k+1 - 1 - 0)) j i) (bhd S n tb (fun i=>wd (k+1 - 1 - (i+1))) k en i)) n
    rw[m0d k,l0a (wd:=fun i=>wd (k+1 - 1 - (i+1))) (wd':=fun i=>wd (k - 1 - i)) en fun i _=>by congr 1;omega]
    exact a0o fun i _=>S.mul_comm _ _
theorem wdx_rev{l ws:List Nat}{i:Nat}(h:i < ws.length):wdx l ws.reverse i=wdx l ws (ws.length - 1 - i):=by
  unfold wdx
  rw[List.getD_eq_getElem?_getD,List.getD_eq_getElem?_getD,List.getElem?_reverse h]
theorem wgh_turned{S:SR}{l ws:List Nat}{n:Nat}{st en:Nat→S.W}{tb:Nat→Nat→Nat→S.W}:wgh S l n en (fun c i j=>tb c j i) st ws=wgh S l n st tb en ws.reverse:=by
  unfold wgh
  rw[dot_comm,m0d,List.length_reverse]
  have c:=cut_dot (S:=S) (n:=n) (st:=st) (tb:=tb) (wd:=wdx l ws.reverse) 0 ws.length en
  rw[Nat.zero_add]at c
  rw[← c]
  show dotW S st _ n=dotW S st _ n
  rw[l0a (wd:=fun j=>wdx l ws.reverse (0+j)) (wd':=fun i=>wdx l ws (ws.length - 1 - i)) en fun i hi=>by rw[Nat.zero_add];exact wdx_rev hi]
def ctab(S:SR)(n:Nat)(st:Nat→S.W)(A:Nat→Nat→S.W)(en:Nat→S.W):Nat→Nat→S.W:=fun i=>if i < 1 then cat S 1 (fun _=>dotW S st (fun a=>dotW S (A a) en n) n) (fun j=>dotW S st (fun a=>A a j) n)else cat S 1 (fun _=>dotW S (A (i - 1)) en n) (A (i - 1))
theorem ctab_0{S:SR}{n:Nat}{st:Nat→S.W}{A:Nat→Nat→S.W}{en:Nat→S.W}:ctab S n st A en 0=cat S 1 (fun _=>dotW S st (fun a=>dotW S (A a) en n) n) (fun j=>dotW S st (fun a=>A a j) n):=if_pos (by decide)
theorem ctab_s{S:SR}{n i:Nat}{st:Nat→S.W}{A:Nat→Nat→S.W}{en:Nat→S.W}:ctab S n st A en (1+i)=cat S 1 (fun _=>dotW S (A i) en n) (A i):=by
  unfold ctab
  rw[if_neg (by omega),Nat.add_sub_cancel_left]
section
variable{S:SR}{n:Nat}{st en:Nat→S.W}{tb:Nat→Nat→Nat→S.W}{wd:Nat→Nat}
def cX(S:SR)(n:Nat)(st:Nat→S.W)(tb:Nat→Nat→Nat→S.W)(en:Nat→S.W)(wd:Nat→Nat)(k:Nat):Nat→S.W:=ahd S (1+n) (b0h S 0) (fun c=>ctab S n st (tb c) en) wd k
theorem cX_step(k j:Nat):cX S n st tb en wd (k+1) j=S.add (S.mul (cX S n st tb en wd k 0) (ctab S n st (tb (wd k)) en 0 j)) (sm S (fun i=>S.mul (cX S n st tb en wd k (1+i)) (ctab S n st (tb (wd k)) en (1+i) j)) n):=by
  show sm S (fun i=>S.mul (cX S n st tb en wd k i) (ctab S n st (tb (wd k)) en i j)) (1+n)=_
  rw[f0b]
  congr 1
  show S.add S.zero _=_
  rw[zero_add]
theorem cX_rooms:∀k j,cX S n st tb en wd k (1+j)=sm S (fun q=>S.mul (cX S n st tb en wd q 0) (ahd S n st tb (fun r=>wd (q+r)) (k - q) j)) k
  | 0,j=>by
    show b0h S 0 (1+j)=S.zero
    exact if_neg (by omega)
  | k+1,j=>by
    rw[cX_step,ctab_0,f0s]
    show _=S.add (sm S (fun q=>S.mul (cX S n st tb en wd q 0) (ahd S n st tb (fun r=>wd (q+r)) (k+1 - q) j)) k) (S.mul (cX S n st tb en wd k 0) (ahd S n st tb (fun r=>wd (k+r)) (k+1 - k) j))
    rw[S.add_comm]
    congr 1
    · rw[a0o (n:=n) (g:=fun i=>sm S (fun q=>S.mul (S.mul (cX S n st tb en wd q 0) (ahd S n st tb (fun r=>wd (q+r)) (k - q) i)) (tb (wd k) i j)) k) (fun i _=>by rw[ctab_s,f0s,cX_rooms k i,e0n]),h0l]
      refine a0o fun q hq=>?_
      rw[show k+1 - q=(k - q)+1 by omega]
      show _=S.mul _ (sm S (fun a=>S.mul (ahd S n st tb (fun r=>wd (q+r)) (k - q) a) (tb (wd (q+(k - q))) a j)) n)
      rw[f0o,show q+(k - q)=k by omega]
      exact a0o fun a _=>S.mul_assoc _ _ _
    · rw[show k+1 - k=0+1 by omega]
      rfl
theorem cX_between(k:Nat):cX S n st tb en wd (k+1) 0=dotW S (fun j=>cX S n st tb en wd (k+1) (1+j)) en n:=by
  have e0:∀j,cX S n st tb en wd (k+1) (1+j)=S.add (S.mul (cX S n st tb en wd k 0) (dotW S st (fun a=>tb (wd k) a j) n)) (sm S (fun i=>S.mul (cX S n st tb en wd k (1+i)) (tb (wd k) i j)) n):=fun j=>by
    rw[cX_step,ctab_0,f0s]
    congr 1
    exact a0o fun i _=>by rw[ctab_s,f0s]
  rw[cX_step,ctab_0,k0z (by decide),a0o (n:=n) (g:=fun i=>S.mul (cX S n st tb en wd k (1+i)) (dotW S (tb (wd k) i) en n)) (fun i _=>by rw[ctab_s,k0z (by decide)])]
  unfold dotW
  rw[a0o (f:=fun j=>S.mul (cX S n st tb en wd (k+1) (1+j)) (en j)) (g:=fun j=>S.add (S.mul (S.mul (cX S n st tb en wd k 0) (sm S (fun a=>S.mul (st a) (tb (wd k) a j)) n)) (en j)) (S.mul (sm S (fun i=>S.mul (cX S n st tb en wd k (1+i)) (tb (wd k) i j)) n) (en j))) (fun j _=>by rw[e0];rw[S.mul_comm,S.distrib,S.mul_comm (en j),S.mul_comm (en j)];rfl),l0w]
  congr 1
  · rw[a0o (n:=n) (f:=fun i=>S.mul (S.mul (cX S n st tb en wd k 0) (sm S (fun a=>S.mul (st a) (tb (wd k) a i)) n)) (en i)) (g:=fun j=>S.mul (cX S n st tb en wd k 0) (S.mul (sm S (fun a=>S.mul (st a) (tb (wd k) a j)) n) (en j))) (fun j _=>S.mul_assoc _ _ _),← f0o,j0i st (tb (wd k)) en n n]
  · exact(j0i (fun i=>cX S n st tb en wd k (1+i)) (tb (wd k)) en n n).symm
theorem cX_pieces(k:Nat):cX S n st tb en wd (k+1) 0=sm S (fun q=>S.mul (cX S n st tb en wd q 0) (dotW S (ahd S n st tb (fun r=>wd (q+r)) (k+1 - q)) en n)) (k+1):=by
  rw[cX_between]
  unfold dotW
  rw[a0o (n:=n) (g:=fun j=>sm S (fun q=>S.mul (S.mul (cX S n st tb en wd q 0) (ahd S n st tb (fun r=>wd (q+r)) (k+1 - q) j)) (en j)) (k+1)) (fun j _=>by show S.mul (cX S n st tb en wd (k+1) (1+j)) (en j)=_;rw[cX_rooms,e0n]),h0l]
  refine a0o fun q _=>?_
  rw[f0o]
  exact a0o fun j _=>S.mul_assoc _ _ _
theorem cX_zero:cX S n st tb en wd 0 0=S.one:=by
  show(if(0:Nat)=0 then S.one else S.zero)=S.one
  exact if_pos rfl
end
theorem l0t{S:SR}{l ws:List Nat}{n:Nat}{st en:Nat→S.W}{tb:Nat→Nat→Nat→S.W}:wgh S l (1+n) (b0h S 0) (fun c=>ctab S n st (tb c) en) (b0h S 0) ws=cX S n st tb en (wdx l ws) ws.length 0:=by
  unfold wgh dotW
  rw[a0o (g:=fun i=>if 0=i then cX S n st tb en (wdx l ws) ws.length i else S.zero) fun i _=>by
    unfold b0h
    by_cases h:i=0
    · rw[if_pos h,if_pos h.symm,S.mul_one];rfl
    · rw[if_neg h,if_neg (fun z=>h z.symm),S.mul_zero],m0j _ _ _ (by omega)]
theorem ents_one{R:KindR Pr w K mg base}{m:Nat}{v:V}{x:R.S.W}{H:Hp}(h:R.is H v x)(z:R.S.lv m 32 x):Ents (R.Wt (fun _=>x) m) [v] 1 H:=Ents.nil.snoc ⟨h,z⟩
theorem Ents.up{R:KindR Pr w K mg base}{n m m':Nat}{x:Nat→R.S.W}{vs:List V}{H:Hp}(h:m≤m')(r:Ents (R.Wt x m) vs n H):Ents (R.Wt x m') vs n H:=by
  obtain⟨d,rfl⟩:∃d,m'=m+d:=⟨m' - m,by omega⟩
  exact r.mono fun _ _ _ q=>⟨q.1,lv_ups q.2⟩
def j0o(w:World)(K:PySem.W.Frag)(mg:Str→Option Value)(base:Heap):Sp:=fun vs H Q _=>∃(R:KindR Pr w K mg base),∃kv mv tv l n st tb en A,vs=[kv,mv,tv]∧(KAt R.C R.fs H kv∧MachG R l n st tb en 1 1 1 mv H∧R.Tab n n A 1 tv H∧n≤30)∧
  ∀v H',Same H H'→R.Tab (1+n) (1+n) (ctab R.S n st A en) 3 v H'→Q v H'
theorem k0f(T:Txt K mg t):FnOk Pr w K mg base CX0 43 t.r0u t.q0f ["kind","machine","table"] (j0o w K mg base):=by
  refine T.q0e.ok sc_closed_table (fun vs H Q E h=>?_) (fun cdv A outer s H vs Q E hr h=>?_)
  · obtain⟨R,kv,mv,tv,l,n,st,tb,en,A,rfl,_⟩:=h
    rfl
  · obtain⟨R,kv,mv,tv,l,n,st,tb,en,A0,rfl,⟨hk,⟨p,sv,tvv,ev,rfl,hp,h1,h2,h3⟩,ht,hn⟩,k⟩:=h
    have sl:1000 < sizeLine:=by decide
    refine⟨_,(a0c (a0s (i:=3) sc_closed_table.nd rfl (Or.inl rfl) (a0f (i0s T) hr.m rfl T.v0i T.v0e.kp T.u0p .nil a0k (a0a (pv 0) (a0a (pv 2) (a0a (a0p a0n (pv 1) a0e (fun _ _=>rfl)) a0b))))) (a0c (a0s (i:=4) sc_closed_table.nd rfl (Or.inl rfl) (a0x e0h (b0q (a0a (a0f (ok_dot T) hr.m rfl T.d1b T.d1c.kp T.c1x .nil a0k (a0a (pv 0) (a0a (a0p a0n (pv 1) a0e (fun _ _=>rfl)) (a0a (pv 3) a0b)))) a0b)) (a0f (ok_row_by T) hr.m rfl T.z0o T.a1r.kp T.b1b .nil a0k (a0a (pv 0) (a0a (a0p a0n (pv 1) a0e (fun _ _=>rfl)) (a0a (pv 2) a0b)))))) (a0c (e0t (i₀:=5) (xs:=["x","row"]) sc_closed_table.nd rfl (Or.inl rfl) rfl (show b0m ["kind","machine","table","back","first","others"] (a0h c0s) _ from⟨rfl,by decide +kernel,by decide +kernel,by decide +kernel,by decide +kernel,by decide +kernel⟩) (i0n rfl T.z_zip (a0a (pv 3) (a0a (pv 2) a0b))) (fun _ _ _ _ _=>(show PG _ _ (gTup K 2 _)from(g0u rfl (b0k (a0u (i:=6) (by show List.Nodup (["kind","machine","table","back","first","others","x","row"]:List Str);decide +kernel) rfl (Or.inl rfl)) (b0k (a0u (i:=7) (by show List.Nodup (["kind","machine","table","back","first","others","x","row"]:List Str);decide +kernel) rfl (Or.inl rfl)) e0f))))) (fun _ _ _ _ _=>(a0x e0h (b0q (a0a (pv 6) a0b)) (pv 7)))) (a0i (a0m (b0a a0q (by rfl) T.z_tuple boot_tuple (a0a (a0x op_cat (c0p (a0a (pv 4) a0b)) (pv 5)) a0b))))))),?_⟩
    refine⟨_,rfl,_,rfl,_,rfl,_,_,_,_,rfl,rfl,SqT.of hp,rfl,R,_,_,_,n,n,A0,en,1,1,rfl,⟨hk,ht,h3.seq,by omega,by omega,by decide⟩,fun bv H1 s1 r1=>?_⟩
    show c0b 3 bv [some kv,some (.ref p),some tv,none,none,none] H1 _
    refine⟨_,rfl,_,rfl,_,_,_,_,rfl,rfl,SqT.of (s1 _ _ hp),rfl,_,rfl,R,_,_,_,n,st,_,1,2,rfl,⟨hk.same s1,(KindR.Row.same s1.t h1).seq,r1.seq,by omega,by decide⟩,fun dv' H2 s2 f2 z2=>?_⟩
    refine⟨(by show 1≤sizeLine;decide),fun p3 n3=>?_⟩
    have s3:=a0g (o:=.tup [dv']) n3
    have hp3:upd H2 p3 (.tup [dv']) p3=some (.tup [dv']):=a0d
    have f3:=R.same s3.t f2
    revert s3 hp3 f3
    generalize upd H2 p3 (.tup [dv'])=H3
    intro s3 hp3 f3
    have q3:=s1.trans (s2.trans s3)
    refine⟨_,rfl,_,rfl,_,_,_,_,rfl,rfl,SqT.of (q3 _ _ hp),rfl,_,rfl,R,_,_,_,n,n,st,A0,1,1,rfl,⟨hk.same q3,(KindR.Row.same q3.t h1).seq,KindR.Tab.same q3.t ht,by omega,by omega,by omega,by decide⟩,fun rv H4 s4 r4=>?_⟩
    rw[if0]at r4
    obtain⟨p4,rs,rfl,h4,e4⟩:=r4
    refine⟨_,_,[dv'],rs,rfl,rfl,s4 _ _ hp3,h4,(by rw[e4.1];show 1+_≤_;omega),fun p5 H5 s5 h5=>?_⟩
    have q45:=s4.trans s5
    have q5:=q3.trans q45
    have hfirst:R.Row (1+n) (ctab R.S n st A0 en 0) 3 (.ref p5) H5:=by
      rw[ctab_0]
      exact⟨p5,_,rfl,h5,d0m (ents_one (R.same q45.t f3) z2) (Ents.up (by decide) (e4.mono fun _ _ _ z=>KindR.Wt.same s5.t z))⟩
    show c0b 4 (.ref p5) [some kv,some (.ref p),some tv,some bv,none,none] H5 _
    have r1:=KindR.Row.same ((s2.trans s3).trans q45).t r1
    obtain⟨bp,bs,rfl,hb,eb⟩:=r1
    obtain⟨tp,ts,rfl,htp,et⟩:=KindR.Tab.same q5.t ht
    clear h4 e4 f2 f3 hp3 s2 s3 s4 s5 q45 h5
    refine⟨_,rfl,_,rfl,.tup bp,.tup tp,_,_,bs,ts,rfl,rfl,rfl,SqT.of hb,SqT.of htp,b0i (n:=n) (fun j ys H2=>Same H5 H2∧Ents (fun i u H=>R.Row (1+n) (ctab R.S n st A0 en (1+i)) 3 u H) ys j H2) (by omega) ⟨Same.refl _,Ents.nil⟩ (fun j ys H2 q=>q.2.1) ?_ ?_ ?_⟩
    · rintro j ys H6 hj ⟨q,e⟩
      obtain⟨u,eu,pu⟩:=eb.2 j hj
      obtain⟨v,ev',pv⟩:=et.2 j hj
      refine⟨⟨bs,ts,u,v,SqT.of (q _ _ hb),SqT.of (q _ _ htp),eu,ev'⟩,fun y H' hy=>?_⟩
      obtain⟨pp,x',y',rfl,np,rfl,f1,f2⟩:=hy
      have e1:=f1 _ (SqT.of (q _ _ hb))
      rw[eu]at e1
      cases e1
      have e2:=f2 _ (SqT.of (q _ _ htp))
      rw[ev']at e2
      cases e2
      have s7:=a0g (o:=.tup [u,v]) np
      refine⟨pp,_,rfl,SqT.of a0d,rfl,_,_,rfl,_,_,rfl,rfl,⟨[some _,some _],rfl,rfl⟩,_,rfl,(by show 1≤sizeLine;decide),fun p8 n8=>?_⟩
      have s8:=a0g (o:=.tup [u]) n8
      have hp8:upd (upd H6 pp (.tup [u,v])) p8 (.tup [u]) p8=some (.tup [u]):=a0d
      have s78:=s7.trans s8
      revert s78 hp8
      generalize upd (upd H6 pp (.tup [u,v])) p8 (.tup [u])=H8
      intro hp8 s78
      have q8:=q.trans s78
      obtain⟨a,as,rfl,ha,ea⟩:=KindR.Row.same q8.t pv
      refine⟨_,rfl,_,_,[u],as,rfl,rfl,hp8,ha,(by rw[ea.1];show 1+_≤_;omega),fun p9 H9 s9 h9=>?_⟩
      refine⟨q8.trans s9,(e.mono fun _ _ _ z=>KindR.Row.same (s78.trans s9).t z).snoc ?_⟩
      rw[ctab_s]
      exact⟨p9,_,rfl,h9,d0m (ents_one (R.same (q8.trans s9).t pu.1) (lv_ups (d:=1) pu.2)) (Ents.up (by decide) (ea.mono fun _ _ _ z=>KindR.Wt.same s9.t z))⟩
    · rintro ys H6 ⟨q,e⟩
      exact⟨bs,ts,SqT.of (q _ _ hb),SqT.of (q _ _ htp),.inl eb.1.symm⟩
    · rintro us H6 up ⟨q,eU⟩ nu
      have s7:=a0g (o:=.lst us) nu
      have q7:=q.trans s7
      have hU:upd H6 up (.lst us) up=some (.lst us):=a0d
      have eU:=eU.mono fun _ _ _ z=>KindR.Row.same s7.t z
      revert q7 hU eU
      clear s7 nu q
      generalize upd H6 up (.lst us)=H7
      intro q7 hU eU
      show c0b 5 (.ref up) [some kv,some (.ref p),some (.ref tp),some (.ref bp),some (.ref p5),none] H7 _
      refine⟨_,rfl,(by show 1≤sizeLine;decide),fun fp nf=>?_⟩
      have s8:=a0g (o:=.lst [.ref p5]) nf
      refine⟨_,rfl,_,_,[.ref p5],us,rfl,rfl,a0d,s8 _ _ hU,(by rw[eU.1];show 1+_≤_;omega),fun cp nc=>?_⟩
      have s9:=a0g (o:=.lst ([.ref p5]++us)) nc
      refine⟨cp,[.ref p5]++us,rfl,.inl ⟨SqL.of a0d,fun l2 n2=>?_⟩⟩
      have s10:=a0g (o:=.tup ([.ref p5]++us)) n2
      have s810:=s8.trans (s9.trans s10)
      have s710:=q7.trans s810
      refine k _ _ (q5.trans s710) ⟨l2,_,rfl,a0d,Ents.app ?_ (eU.mono fun i _ hi z=>KindR.Row.same s810.t z)⟩
      exact Ents.nil.snoc (KindR.Row.same s710.t hfirst)
def spx_closable(w:World)(K:PySem.W.Frag)(mg:Str→Option Value)(base:Heap)(t:Adr):Sp:=fun vs H Q E=>∃(R:KindR Pr w K mg base),∃kv v x,vs=[kv,v]∧(KAt R.C R.fs H kv∧R.is H v x)∧(x=R.S.zero→∀H',Same H H'→Q .non H')∧(x≠R.S.zero→∀H',Same H H'→E (.ref t.y0e) none H')
theorem i0a(T:Txt K mg t):FnOk Pr w K mg base (CX1 Pr w) 41 t.q0x t.p0v ["kind","empty_weight"] (spx_closable w K mg base t):=by
  refine T.p0k.okx i0w (fun vs H Q E h=>?_) (fun cdv A outer s H vs Q E hr h=>?_)
  · obtain⟨R,kv,v,x,rfl,_⟩:=h
    rfl
  · obtain⟨R,kv,v,x,rfl,⟨⟨kp,dx,rfl,hk⟩,hv⟩,k0,k1⟩:=h
    refine⟨_,(a0i (b0n (a0t (op_neD hr.units) (pv 1) (g0v (pv 0) R.cl R.t_nought R.G_nought hr.m R.b_nought .nil a0k) (a0w _)) (a0i (ps_raise thru_cx rfl T.u0v.ex rfl T.u0i (a0a b0e a0b))) a0y)),?_⟩
    refine⟨_,rfl,_,rfl,_,_,_,rfl,hk,R.l_nought,_,rfl,⟨_,_,rfl,hk⟩,fun z H1 s1 f1=>?_⟩
    by_cases e:x=R.S.zero
    · refine R.neD (R.same s1.t hv) f1 e ⟨_,rfl,?_⟩
      (try refine iteF ?_)
      exact k0 e _ s1
    · refine R.neT (R.same s1.t hv) f1 e ⟨_,rfl,?_⟩
      refine iteT ?_
      exact⟨(by show 1≤sizeLine;decide),k1 e _ s1⟩
def spx_closed(w:World)(K:PySem.W.Frag)(mg:Str→Option Value)(base:Heap)(t:Adr):Sp:=fun vs H Q E=>∃(R:KindR Pr w K mg base),∃kv mv l n st tb en,vs=[kv,mv]∧(KAt R.C R.fs H kv∧MachG R l n st tb en 1 1 1 mv H∧LOk l∧n≤19)∧
  (dotW R.S st en n=R.S.zero→∀v H',Same H H'→MachG R l (1+n) (b0h R.S 0) (fun c=>ctab R.S n st (tb c) en) (b0h R.S 0) 1 3 1 v H'→Q v H')∧(dotW R.S st en n≠R.S.zero→∀H',Same H H'→E (.ref t.y0e) none H')
theorem okx_closed(T:Txt K mg t):FnOk Pr w K mg base (CX1 Pr w) 45 t.c1n t.z0z ["kind","machine"] (spx_closed w K mg base t):=by
  refine T.a1f.okx sc_closed (fun vs H Q E h=>?_) (fun cdv A outer s H vs Q E hr h=>?_)
  · obtain⟨R,kv,mv,l,n,st,tb,en,rfl,_⟩:=h
    rfl
  · obtain⟨R,kv,mv,l,n,st,tb,en,rfl,⟨hk,hm,L,hn⟩,k0,k1⟩:=h
    have sl:1000 < sizeLine:=by decide
    have l3:=L.h3
    have M0:MOk n l []:=⟨⟨L,by simp,by simp⟩,by omega⟩
    have em:V.str (Str.ofString "")=vT []:=by rw[em_is];rfl
    refine⟨_,(a0c (b0f (PEX.thru thru_cx (px_call (i0a T) hr.m rfl T.p0u T.p0k.kp T.p0n .nil (a0a (pv 0) (a0a (a0f (e0y T) hr.m rfl T.a1a T.a1x.kp T.a1l .nil a0k (a0a (pv 0) (a0a (pv 1) (a0a b0e a0b)))) a0b))))) (a0c (a0s (i:=2) sc_closed.nd rfl (Or.inl rfl) (a0x b0x (a0f (c0k T) hr.m rfl T.c1c T.b1z.kp T.b1i .nil a0k (a0a (pv 1) a0b)) a0e)) (a0c (b0f (a0f (b0j T) hr.m rfl T.p0b T.o0y.kp T.o0s .nil a0k (a0a (pv 2) a0b))) (a0c (e0t (i₀:=3) (xs:=["table"]) sc_closed.nd rfl (Or.inl rfl) rfl (show b0m ["kind","machine","size","tables","between"] (a0h j0m) _ from⟨rfl,by decide +kernel,by decide +kernel,by decide +kernel,by decide +kernel,by decide +kernel⟩) (e0m (a0p a0n (pv 1) a0e (fun _ _=>rfl))) (fun _ _ _ _ _=>(a0u (i:=5) (by show List.Nodup (["kind","machine","size","tables","between","table"]:List Str);decide +kernel) rfl (Or.inl rfl))) (fun _ _ _ _ _=>(a0f (k0f (w:=w) (base:=base) T) hr.m rfl T.p0x T.q0e.kp T.q0d .nil a0k (a0a (pv 0) (a0a (pv 1) (a0a (pv 5) a0b)))))) (a0c (a0s (i:=4) sc_closed.nd rfl (Or.inl rfl) (a0f (m0z T) hr.m rfl T.c1j T.c1m.kp T.c1r .nil a0k (a0a (pv 0) (a0a (pv 2) (a0a a0e a0b))))) (a0i (a0m (b0q (a0a (a0p a0n (pv 1) a0e (fun _ _=>rfl)) (a0a (pv 4) (a0a (b0a a0q (by rfl) T.z_tuple boot_tuple (a0a (pv 3) a0b)) (a0a (pv 4) a0b)))))))))))),?_⟩
    refine⟨_,rfl,_,rfl,_,rfl,?_⟩
    rw[em]
    refine⟨R,_,_,l,n,st,tb,en,[],1,1,1,rfl,⟨hk,hm,M0,by decide⟩,fun wv H1 s1 f1 z1=>?_⟩
    refine⟨R,_,_,_,rfl,⟨hk.same s1,f1⟩,fun e H2 s2=>?_,fun e H2 s2=>k1 e _ (s1.trans s2)⟩
    have q2:=s1.trans s2
    have k0:=k0 e
    refine⟨_,rfl,R,_,l,n,st,tb,en,1,1,1,rfl,hm.same q2.t,_,_,rfl,rfl,?_⟩
    show c0b 2 (.int ((n:Int)+1)) [some kv,some mv,none,none,none] H2 _
    refine⟨_,rfl,_,rfl,(by omega),?_⟩
    obtain⟨p,sv,tv,ev,rfl,hp,h1,⟨tp,ts,rfl,htp,et⟩,h3⟩:=id (hm.same q2.t)
    refine⟨_,rfl,_,_,_,_,rfl,rfl,SqT.of hp,rfl,tp,rfl,⟨_,SqT.of htp⟩,b0i (n:=l.length) (fun i ys H3=>Same H2 H3∧Ents (fun c u H=>R.Tab (1+n) (1+n) (ctab R.S n st (tb c) en) 3 u H) ys i H3) (by omega) ⟨Same.refl _,Ents.nil⟩ (fun j ys H2 q=>q.2.1) ?_ ?_ ?_⟩
    · rintro j ys H3 hj ⟨q,e⟩
      obtain⟨u,eu,pu⟩:=et.2 j hj
      refine⟨⟨_,_,SqT.of (q _ _ htp),eu⟩,fun y H' hy=>?_⟩
      obtain⟨rfl,hy⟩:=hy
      have:=hy _ (SqT.of (q _ _ htp))
      rw[eu]at this
      cases this
      refine⟨⟨[some _],rfl,rfl⟩,_,rfl,_,rfl,_,rfl,R,_,_,_,l,n,st,tb,en,tb j,rfl,⟨hk.same (q2.trans q),hm.same (q2.trans q).t,KindR.Tab.same q.t pu,by omega⟩,fun v H4 s4 r4=>?_⟩
      exact⟨q.trans s4,(e.mono fun _ _ _ z=>KindR.Tab.same s4.t z).snoc r4⟩
    · rintro ys H3 ⟨q,e⟩
      exact⟨_,SqT.of (q _ _ htp),by rw[et.1];exact Nat.le_refl _⟩
    · rintro us H4 up ⟨q,eU⟩ nu
      have s5:=a0g (o:=.lst us) nu
      have q5:=q.trans s5
      have hU:upd H4 up (.lst us) up=some (.lst us):=a0d
      have eU:=eU.mono fun _ _ _ z=>KindR.Tab.same s5.t z
      revert q5 hU eU
      clear s5 nu q
      generalize upd H4 up (.lst us)=H5
      intro q5 hU eU
      show c0b 3 (.ref up) [some kv,some (.ref p),some (.int ((n:Int)+1)),none,none] H5 _
      refine⟨_,rfl,_,rfl,R,_,_,_,1+n,0,rfl,⟨hk.same (q2.trans q5),by omega,by omega,rfl⟩,fun bv H6 s6 r6=>?_⟩
      show c0b 4 bv [some kv,some (.ref p),some (.int ((n:Int)+1)),some (.ref up),none] H6 _
      have q6:=q5.trans s6
      refine⟨_,rfl,_,_,_,_,rfl,rfl,SqT.of (q6 _ _ hp),rfl,_,rfl,_,rfl,up,us,rfl,.inl ⟨SqL.of (s6 _ _ hU),fun p7 n7=>?_⟩⟩
      have s7:=a0g (o:=.tup us) n7
      have hp7:upd H6 p7 (.tup us) p7=some (.tup us):=a0d
      refine⟨_,rfl,(by show 4≤sizeLine;decide),fun p9 n9=>?_⟩
      have s9:=a0g (o:=.tup [vT l,bv,V.ref p7,bv]) n9
      have s79:=s7.trans s9
      exact k0 _ _ (q2.trans (q6.trans s79)) ⟨p9,_,_,_,rfl,a0d,KindR.Row.same s79.t r6,⟨p7,us,rfl,s9 _ _ hp7,eU.mono fun _ _ _ z=>KindR.Tab.same (s6.trans s79).t z⟩,KindR.Row.same s79.t r6⟩
def sp_closed(w:World)(K:PySem.W.Frag)(mg:Str→Option Value)(base:Heap):Sp:=fun vs H Q _=>∃(R:KindR Pr w K mg base),∃kv mv l n st tb en,vs=[kv,mv]∧(KAt R.C R.fs H kv∧MachG R l n st tb en 1 1 1 mv H∧LOk l∧n≤19∧dotW R.S st en n=R.S.zero)∧
  ∀v H',Same H H'→MachG R l (1+n) (b0h R.S 0) (fun c=>ctab R.S n st (tb c) en) (b0h R.S 0) 1 3 1 v H'→Q v H'
theorem ok_closed(T:Txt K mg t):FnOk Pr w K mg base CX0 45 t.c1n t.z0z ["kind","machine"] (sp_closed w K mg base):=
  (okx_closed T).quiet.imp fun vs H Q E h=>by
    obtain⟨R,kv,mv,l,n,st,tb,en,rfl,⟨hk,hm,L,hn,e⟩,k⟩:=h
    exact⟨R,kv,mv,l,n,st,tb,en,rfl,⟨hk,hm,L,hn⟩,fun _=>k,fun ne=>absurd e ne⟩
def srow(S:SR)(W:List Nat)(c i:Nat):Nat→S.W:=fun j=>if W[i]? = some c∧j=i+1 then S.one else S.zero
def m0h(w:World)(K:PySem.W.Frag)(mg:Str→Option Value)(base:Heap):Sp:=fun vs H Q _=>∃(R:KindR Pr w K mg base),∃kv c W,∃(z:Int),∃(i:Nat),vs=[kv,vT [c],vT W,.int z]∧(KAt R.C R.fs H kv∧W.length≤100∧z=i)∧
  ∀v H',Same H H'→R.Row (W.length+1) (srow R.S W c i) 1 v H'→Q v H'
theorem n0a(T:Txt K mg t):FnOk Pr w K mg base CX0 42 t.w0b t.s0m ["kind","letter","word","place"] (m0h w K mg base):=by
  refine T.s0o.ok m0m (fun vs H Q E h=>?_) (fun cdv A outer s H vs Q E hr h=>?_)
  · obtain⟨R,kv,c,W,z,i,rfl,_⟩:=h
    rfl
  · obtain⟨R,kv,c,W,z,i,rfl,⟨hk,hW,rfl⟩,k⟩:=h
    have sl:1000 < sizeLine:=by decide
    have lw:∀H,LenV K (vT W) H W.length:=fun H=>⟨by rw[b0p];omega,(b0p W).symm⟩
    refine⟨_,(a0c (b0n (PW.pt (j0z (a0t op_lt (pv 3) (a0z b0l (by rfl) T.z_len PySem.boot_len (a0a (pv 2) a0b)) (a0w _)) (j0y (a0t c0j (a0p ix_str (pv 2) (pv 3) (fun _ _=>rfl)) (pv 1) (a0w _))))) (a0i (a0m (a0f (m0z T) hr.m rfl T.c1j T.c1m.kp T.c1r .nil a0k (a0a (pv 0) (a0a (a0x b0x (a0z b0l (by rfl) T.z_len PySem.boot_len (a0a (pv 2) a0b)) a0e) (a0a (a0x b0x (pv 3) a0e) a0b)))))) a0y) (a0i (a0m (a0f (f0h T) hr.m rfl T.y0s T.y0d.kp T.z0f .nil a0k (a0a (pv 0) (a0a (a0x b0x (a0z b0l (by rfl) T.z_len PySem.boot_len (a0a (pv 2) a0b)) a0e) a0b)))))),?_⟩
    have none_:W[i]?≠some c→∀v H',Same H H'→R.Row (W.length+1) (fun _=>R.S.zero) 1 v H'→Q v H':=fun h v H' s' r=>k v H' s' (Row.congr (fun j _=>by unfold srow;rw[if_neg (fun z=>h z.1)]) r)
    refine⟨_,rfl,_,rfl,_,_,rfl,lw _,_,_,rfl,rfl,_,rfl,?_⟩
    refine iteP (fun h0=>?_) (fun h0=>?_)
    · have hi:i < W.length:=by omega
      obtain⟨c',hc⟩:∃c',W[i]? = some c':=⟨W[i],by simp[hi]⟩
      have ac:atI (tx W).cps.toList (i:Int)=some c':=e0k (by show W.toArray.toList[_]? = _;simpa using hc)
      refine⟨_,rfl,_,rfl,_,_,_,rfl,rfl,(by rw[b0p];omega),ac,_,rfl,rfl,_,rfl,?_⟩
      by_cases ecc:c'=c
      · subst ecc
        rw[show decide (V.str (⟨#[c']⟩:Str)=vT [c'])=true from decide_eq_true rfl]
        refine iteT ?_
        refine⟨_,rfl,_,rfl,_,_,rfl,lw _,_,_,rfl,rfl,_,rfl,_,_,rfl,rfl,R,_,_,_,W.length+1,i+1,rfl,⟨hk,by omega,by omega,by omega⟩,fun v H' s' r=>k v H' s' (Row.congr (fun j _=>?_) r)⟩
        unfold b0h srow
        by_cases hj:j=i+1
        · rw[if_pos hj,if_pos ⟨hc,hj⟩]
        · rw[if_neg hj,if_neg fun z=>hj z.2]
      · rw[show decide (V.str (⟨#[c']⟩:Str)=vT [c])=false from decide_eq_false fun z=>ecc (by have:=congrArg (fun v=>match v with | V.str s=>s.cps.toList | _=>[]) z;simpa [tx,vT] using this)]
        refine iteF ?_
        refine⟨_,rfl,_,rfl,_,_,rfl,lw _,_,_,rfl,rfl,R,_,_,W.length+1,1,rfl,⟨hk,by omega,by omega⟩,none_ fun z=>ecc (by rw[hc]at z;exact Option.some.inj z)⟩
    · refine⟨_,rfl,_,rfl,_,_,rfl,lw _,_,_,rfl,rfl,R,_,_,W.length+1,1,rfl,⟨hk,by omega,by omega⟩,none_ fun z=>?_⟩
      have:=(List.getElem?_eq_some_iff.mp z).1
      omega
def sp_single(w:World)(K:PySem.W.Frag)(mg:Str→Option Value)(base:Heap):Sp:=fun vs H Q _=>∃(R:KindR Pr w K mg base),∃kv l W bv b j,vs=[kv,vT l,vT W,bv]∧(KAt R.C R.fs H kv∧WOk l W 100∧W.length≤19∧R.is H bv b∧R.S.lv j 32 b∧j≤1000)∧
  ∀v H',Same H H'→MachG R l (W.length+1) (fun i=>R.S.mul b (b0h R.S 0 i)) (fun c i=>srow R.S W (l.getD c 0) i) (b0h R.S W.length) (j+1) 1 1 v H'→Q v H'
theorem ok_single(T:Txt K mg t):FnOk Pr w K mg base CX0 44 t.c1i t.b1h ["kind","letters","word","by"] (sp_single w K mg base):=by
  refine T.z0w.ok sc_single (fun vs H Q E h=>?_) (fun cdv A outer s H vs Q E hr h=>?_)
  · obtain⟨R,kv,l,W,bv,b,j,rfl,_⟩:=h
    rfl
  · obtain⟨R,kv,l,W,bv,b,jl,rfl,⟨hk,O,h19,hb,lb,hj⟩,k⟩:=h
    have L:=O.lo
    have l3:=L.h3
    have sl:1000 < sizeLine:=by decide
    have lw:∀H,LenV K (vT W) H W.length:=fun H=>⟨by rw[b0p];omega,(b0p W).symm⟩
    refine⟨_,(a0c (b0f (a0f (i0o T) hr.m rfl T.u0q T.u0b.kp T.s0z .nil a0k (a0a (pv 1) (a0a (pv 2) a0b)))) (a0c (a0s (i:=4) sc_single.nd rfl (Or.inl rfl) (a0x b0x (a0z b0l (by rfl) T.z_len PySem.boot_len (a0a (pv 2) a0b)) a0e)) (a0c (b0f (a0f (b0j T) hr.m rfl T.p0b T.o0y.kp T.o0s .nil a0k (a0a (pv 4) a0b))) (a0c (a0s (i:=5) sc_single.nd rfl (Or.inl rfl) (c0p a0b)) (a0c (c0i PassesOwn.never rfl (l0y (pv 1)) (a0u (i:=6) sc_single.nd rfl (Or.inr rfl)) (a0i (b0f (g0e PySem.F.plainAttrs_list PySem.F.slot_list_append PySem.F.type_list_append b0y (pv 5) (a0a (b0a a0q (by rfl) T.z_tuple boot_tuple (a0a (b0z (xs:=["place"]) rfl (show b0m ["kind","letters","word","by","size","tables","letter","start"] (a0h j0k) _ from⟨rfl,by decide +kernel,by decide +kernel,by decide +kernel,by decide +kernel,by decide +kernel⟩) (b0v rfl T.z_range (a0a (pv 4) a0b)) (fun _ _ _ _ _=>(a0u (i:=8) (by show List.Nodup (["kind","letters","word","by","size","tables","letter","start","place"]:List Str);decide +kernel) rfl (Or.inl rfl))) (fun _ _ _ _ _=>(a0f (n0a (w:=w) (base:=base) T) hr.m rfl T.s0t T.s0o.kp T.s0d .nil a0k (a0a (pv 0) (a0a (pv 6) (a0a (pv 2) (a0a (pv 8) a0b))))))) a0b)) a0b))))) (a0c (a0s (i:=7) sc_single.nd rfl (Or.inl rfl) (a0f (d0l T) hr.m rfl T.u0u T.t0l.kp T.u0x .nil a0k (a0a (pv 0) (a0a (pv 3) (a0a (a0f (m0z T) hr.m rfl T.c1j T.c1m.kp T.c1r .nil a0k (a0a (pv 0) (a0a (pv 4) (a0a a0e a0b)))) a0b))))) (a0i (a0m (b0q (a0a (pv 1) (a0a (pv 7) (a0a (b0a a0q (by rfl) T.z_tuple boot_tuple (a0a (pv 5) a0b)) (a0a (a0f (m0z T) hr.m rfl T.c1j T.c1m.kp T.c1r .nil a0k (a0a (pv 0) (a0a (pv 4) (a0a (a0z b0l (by rfl) T.z_len PySem.boot_len (a0a (pv 2) a0b)) a0b)))) a0b))))))))))))),?_⟩
    refine⟨_,rfl,_,rfl,l,W,100,rfl,⟨O,by decide⟩,fun H1 s1=>?_⟩
    refine⟨_,rfl,_,_,rfl,lw _,_,_,rfl,rfl,?_⟩
    show c0b 4 (.int ((W.length:Int)+1)) [some kv,some (vT l),some (vT W),some bv,none,none,none,none] H1 _
    refine⟨_,rfl,_,rfl,(by omega),?_⟩
    refine⟨(by show 0≤sizeLine;decide),fun fl nf=>?_⟩
    have s2:=a0g (o:=.lst []) nf
    refine⟨_,rfl,_,rfl,L.asc,m0a (n:=l.length) (fun i σ H2=>∃v6 ys,σ=[some kv,some (vT l),some (vT W),some bv,some (.int ((W.length:Int)+1)),some (.ref fl),v6,none]∧Same H1 H2∧H2 fl=some (.lst ys)∧Ents (fun c u H=>R.Tab (W.length+1) (W.length+1) (fun i=>srow R.S W (l.getD c 0) i) 1 u H) ys i H2) ⟨_,[],rfl,s2,a0d,Ents.nil⟩ ?_ ?_⟩
    · rintro i σ H2 hi ⟨v6,ys,rfl,q,hf,e⟩
      refine⟨(by show i < l.toArray.size;simpa using hi),fun x H' hy=>?_⟩
      obtain⟨rfl,c,hc,rfl⟩:=hy
      have hc:=tx_get hc
      have ec:l.getD i 0=c:=by rw[List.getD_eq_getElem?_getD,hc];rfl
      have q1:=s1.trans q
      refine⟨_,rfl,.inl ⟨rfl,_,SqL.of hf⟩,_,rfl,_,rfl,(by omega),(by omega),b0i (n:=W.length+1) (fun b zs H3=>Same H' H3∧Ents (fun b u H=>R.Row (W.length+1) (srow R.S W c b) 1 u H) zs b H3) (by omega) ⟨Same.refl _,Ents.nil⟩ (fun b zs H3 c=>c.2.1) ?_ ?_ ?_⟩
      · rintro b' zs H3 hb' ⟨q3,cc⟩
        refine⟨(show b' < ((W.length:Int)+1).toNat by omega),fun y H'' hy=>?_⟩
        obtain⟨rfl,rfl⟩:=hy
        refine⟨⟨[some _],rfl,rfl⟩,_,rfl,_,rfl,_,rfl,_,rfl,R,_,c,W,_,b',rfl,⟨hk.same (q1.trans q3),by omega,by omega⟩,fun v H4 s4 r4=>?_⟩
        exact⟨q3.trans s4,(cc.mono fun _ _ _ z=>KindR.Row.same s4.t z).snoc r4⟩
      · rintro zs H3 ⟨q3,cc⟩
        show((W.length:Int)+1).toNat≤W.length+1
        omega
      · rintro zs H3 lp ⟨q3,cc⟩ nl
        have s4:=a0g (o:=.lst zs) nl
        refine⟨lp,zs,rfl,.inl ⟨SqL.of a0d,fun l2 n2=>?_⟩⟩
        have s5:=a0g (o:=.tup zs) n2
        have s45:=s4.trans s5
        have q5:=q3.trans s45
        have hf5:=q5 _ _ hf
        refine⟨_,_,_,rfl,rfl,hf5,(by rw[e.1];omega),?_⟩
        have st:=c0g (o:=.lst (ys++[.ref l2])) hf5
        refine⟨_,_,rfl,j0s (q.trans q5) nf,a0d,((e.mono fun _ _ _ w'=>KindR.Tab.same q5.t w').snoc ?_).mono fun _ _ _ w'=>KindR.Tab.same st w'⟩
        rw[ec]
        exact⟨l2,zs,rfl,a0d,cc.mono fun _ _ _ z=>KindR.Row.same s45.t z⟩
    · rintro σ H2 ⟨v6,ys,rfl,q,hf,e⟩
      have q1:=s1.trans q
      refine⟨(by show l.toArray.size≤_;simp),_,rfl,_,rfl,_,rfl,_,rfl,R,_,_,_,W.length+1,0,rfl,⟨hk.same q1,by omega,by omega,rfl⟩,fun uv H3 s3 r3=>?_⟩
      have q3:=q1.trans s3
      refine⟨R,_,_,_,W.length+1,b,_,jl,1,rfl,⟨hk.same q3,R.same q3.t hb,lb,r3,by omega,by omega⟩,fun sv H4 s4 r4=>?_⟩
      have q4:=q3.trans s4
      show c0b 7 sv [some kv,some (vT l),some (vT W),some bv,some (.int ((W.length:Int)+1)),some (.ref fl),v6,none] H4 _
      have hf4:=(s3.trans s4) _ _ hf
      refine⟨_,rfl,_,rfl,_,rfl,fl,ys,rfl,.inl ⟨SqL.of hf4,fun p5 n5=>?_⟩⟩
      have s5:=a0g (o:=.tup ys) n5
      have hp5:upd H4 p5 (.tup ys) p5=some (.tup ys):=a0d
      have q5:=q4.trans s5
      refine⟨_,rfl,_,rfl,_,rfl,_,_,rfl,lw _,R,_,_,_,W.length+1,W.length,rfl,⟨hk.same q5,by omega,by omega,rfl⟩,fun ev H6 s6 r6=>?_⟩
      refine⟨(by show 4≤sizeLine;decide),fun p9 n9=>?_⟩
      have s9:=a0g (o:=.tup [vT l,sv,V.ref p5,ev]) n9
      have s69:=s6.trans s9
      exact k _ _ (q5.trans s69) ⟨p9,_,_,_,rfl,a0d,KindR.Row.same (s5.trans s69).t r4,⟨p5,ys,rfl,s69 _ _ hp5,e.mono fun _ _ _ z=>KindR.Tab.same ((s3.trans s4).trans (s5.trans s69)).t z⟩,KindR.Row.same s9.t r6⟩
theorem m0e{S:SR}{l ws W:List Nat}{b:S.W}(L:LOk l)(hw:∀c∈ws,c∈l):∀k,k≤ws.length→∀j,ahd S (W.length+1) (fun i=>S.mul b (b0h S 0 i)) (fun c i=>srow S W (l.getD c 0) i) (wdx l ws) k j=if j=k∧ws.take k=W.take k∧k≤W.length then b else S.zero
  | 0,_,j=>by
    show S.mul b (if j=0 then S.one else S.zero)=_
    by_cases h:j=0
    · rw[if_pos h,if_pos ⟨h,by simp,by omega⟩,S.mul_one]
    · rw[if_neg h,if_neg fun z=>h z.1,S.mul_zero]
  | k+1,hk,j=>by
    have ih:=m0e (W:=W) (b:=b) L hw k (by omega)
    obtain⟨c,hc⟩:∃c,ws[k]? = some c:=⟨ws[k],by simp⟩
    have cl:=hw c (List.mem_of_getElem? hc)
    have ec:l.getD (wdx l ws k) 0=c:=by
      rw[wdx_at hc,List.getD_eq_getElem?_getD,List.getElem?_eq_getElem (idx_lt cl),List.getElem_idxOf];rfl
    show sm S (fun i=>S.mul (ahd S (W.length+1) (fun i=>S.mul b (b0h S 0 i)) (fun c i=>srow S W (l.getD c 0) i) (wdx l ws) k i) (srow S W (l.getD (wdx l ws k) 0) i j)) (W.length+1)=_
    rw[ec]
    have tk:ws.take (k+1)=ws.take k++[c]:=by rw[List.take_add_one,hc];rfl
    by_cases hA:ws.take k=W.take k∧k≤W.length
    · rw[a0o (g:=fun i=>if k=i then S.mul b (srow S W c i j)else S.zero) fun i _=>by
        rw[ih i]
        by_cases h:i=k
        · rw[if_pos ⟨h,hA⟩,if_pos h.symm]
        · rw[if_neg fun z=>h z.1,if_neg (fun z=>h z.symm),zero_mul],m0j _ _ _ (by omega)]
      unfold srow
      by_cases h:W[k]? = some c∧j=k+1
      · rw[if_pos h,if_pos ⟨h.2,by rw[tk,List.take_add_one,h.1,hA.1];rfl,(List.getElem?_eq_some_iff.mp h.1).1⟩,S.mul_one]
      · rw[if_neg h,if_neg,S.mul_zero]
        rintro⟨h1,h2,h3⟩
        refine h ⟨?_,h1⟩
        obtain⟨d,hd⟩:∃d,W[k]? = some d:=⟨W[k],by simp⟩
        rw[tk,List.take_add_one,hd,hA.1]at h2
        have:=List.append_cancel_left h2
        rw[hd]
        have e:[c]=[d]:=this
        cases e;rfl
    · rw[a0o (g:=fun _=>S.zero) fun i _=>by rw[ih i,if_neg fun z=>hA z.2,zero_mul],f0t,if_neg]
      rintro⟨h1,h2,h3⟩
      refine hA ⟨?_,by omega⟩
      have:=congrArg (List.take k) h2
      rw[List.take_take,List.take_take,Nat.min_eq_left (by omega)]at this
      exact this
theorem wgh_single{S:SR}{l ws W:List Nat}{b:S.W}(L:LOk l)(hw:∀c∈ws,c∈l):wgh S l (W.length+1) (fun i=>S.mul b (b0h S 0 i)) (fun c i=>srow S W (l.getD c 0) i) (b0h S W.length) ws=if ws=W then b else S.zero:=by
  unfold wgh dotW
  rw[a0o (g:=fun i=>if W.length=i then ahd S (W.length+1) (fun i=>S.mul b (b0h S 0 i)) (fun c i=>srow S W (l.getD c 0) i) (wdx l ws) ws.length i else S.zero) fun i _=>by
    unfold b0h
    by_cases h:i=W.length
    · rw[if_pos h,if_pos h.symm,S.mul_one]
    · rw[if_neg h,if_neg (fun z=>h z.symm),S.mul_zero],m0j _ _ _ (by omega),m0e L hw _ (Nat.le_refl _)]
  by_cases h:ws=W
  · subst h
    rw[if_pos ⟨rfl,rfl,Nat.le_refl _⟩,if_pos rfl]
  · rw[if_neg h,if_neg]
    rintro⟨h1,h2,h3⟩
    rw[List.take_length,← h1,List.take_length]at h2
    exact h h2
theorem ahd_snd0{S:SR}{n k:Nat}{st1 st2:Nat→S.W}{tb1 tb2:Nat→Nat→Nat→S.W}{wd:Nat→Nat}:∀i j,ahd S (n+k) (cat S n st1 st2) (fun c=>blk S n (tb1 c) (fun _ _=>S.zero) (tb2 c)) wd i (n+j)=ahd S k st2 tb2 wd i j
  | 0,j=>f0s
  | i+1,j=>by
    rw[ahd_snd (C:=fun _ _ _=>S.zero),a0o (n:=n) (g:=fun _=>S.zero) (fun a _=>S.mul_zero _),f0t,zero_add]
    show _=sm S (fun a=>S.mul (ahd S k st2 tb2 wd i a) (tb2 (wd i) a j)) k
    exact a0o fun a _=>by rw[ahd_snd0 i a]
theorem wgh_added{S:SR}{l:List Nat}{n k:Nat}{st1 st2 en1 en2:Nat→S.W}{tb1 tb2:Nat→Nat→Nat→S.W}{ws:List Nat} :
    wgh S l (n+k) (cat S n st1 st2) (fun c=>blk S n (tb1 c) (fun _ _=>S.zero) (tb2 c)) (cat S n en1 en2) ws=S.add (wgh S l n st1 tb1 en1 ws) (wgh S l k st2 tb2 en2 ws):=by
  unfold wgh
  rw[dot_cat,k0u (n:=n) fun i hi=>ahd_fst (C:=fun _ _ _=>S.zero) _ i hi,k0u (n:=k) fun i _=>ahd_snd0 _ i]
theorem ahd_join{S:SR}{n k:Nat}{st1 st2 en1:Nat→S.W}{tb1 tb2:Nat→Nat→Nat→S.W}{wd:Nat→Nat}:∀i j,ahd S (n+k) (cat S n st1 fun a=>S.mul (dotW S st1 en1 n) (st2 a)) (fun c=>blk S n (tb1 c) (fun a b=>S.mul (dotW S (tb1 c a) en1 n) (st2 b)) (tb2 c)) wd i (n+j) =
    sm S (fun q=>S.mul (dotW S (ahd S n st1 tb1 wd q) en1 n) (ahd S k st2 tb2 (fun r=>wd (q+r)) (i - q) j)) (i+1)
  | 0,j=>by
    show cat S n _ _ (n+j)=S.add S.zero (S.mul (dotW S st1 en1 n) (st2 j))
    rw[f0s,zero_add]
  | i+1,j=>by
    rw[ahd_snd (C:=fun c a b=>S.mul (dotW S (tb1 c a) en1 n) (st2 b))]
    show _=S.add (sm S (fun q=>S.mul (dotW S (ahd S n st1 tb1 wd q) en1 n) (ahd S k st2 tb2 (fun r=>wd (q+r)) (i+1 - q) j)) (i+1)) (S.mul (dotW S (ahd S n st1 tb1 wd (i+1)) en1 n) (ahd S k st2 tb2 (fun r=>wd (i+1+r)) (i+1 - (i+1)) j))
    rw[S.add_comm]
    congr 1
    · rw[a0o (n:=k) (g:=fun a=>sm S (fun q=>S.mul (S.mul (dotW S (ahd S n st1 tb1 wd q) en1 n) (ahd S k st2 tb2 (fun r=>wd (q+r)) (i - q) a)) (tb2 (wd i) a j)) (i+1)) (fun a _=>by rw[ahd_join i a,e0n]),h0l]
      refine a0o fun q hq=>?_
      rw[show i+1 - q=(i - q)+1 by omega]
      show _=S.mul _ (sm S (fun a=>S.mul (ahd S k st2 tb2 (fun r=>wd (q+r)) (i - q) a) (tb2 (wd (q+(i - q))) a j)) k)
      rw[f0o,show q+(i - q)=i by omega]
      exact a0o fun a _=>S.mul_assoc _ _ _
    · rw[Nat.sub_self]
      show sm S (fun a=>S.mul (ahd S n st1 tb1 wd i a) (S.mul (dotW S (tb1 (wd i) a) en1 n) (st2 j))) n=S.mul (sm S (fun b=>S.mul (sm S (fun a=>S.mul (ahd S n st1 tb1 wd i a) (tb1 (wd i) a b)) n) (en1 b)) n) (st2 j)
      have e:=j0i (ahd S n st1 tb1 wd i) (tb1 (wd i)) en1 n n
      rw[e,e0n]
      exact a0o fun a _=>(S.mul_assoc _ _ _).symm
theorem dot_zero{S:SR}{n:Nat}{x:Nat→S.W}:dotW S x (fun _=>S.zero) n=S.zero:=by
  unfold dotW
  rw[a0o (g:=fun _=>S.zero) fun i _=>S.mul_zero _,f0t]
theorem l0s{S:SR}{l ws:List Nat}{n k:Nat}{st1 st2 en1 en2:Nat→S.W}{tb1 tb2:Nat→Nat→Nat→S.W} :
    wgh S l (n+k) (cat S n st1 fun a=>S.mul (dotW S st1 en1 n) (st2 a)) (fun c=>blk S n (tb1 c) (fun a b=>S.mul (dotW S (tb1 c a) en1 n) (st2 b)) (tb2 c)) (cat S n (fun _=>S.zero) en2) ws =
    sm S (fun q=>S.mul (wgh S l n st1 tb1 en1 (ws.take q)) (wgh S l k st2 tb2 en2 (ws.drop q))) (ws.length+1):=by
  rw[a0o (g:=fun q=>S.mul (dotW S (ahd S n st1 tb1 (wdx l ws) q) en1 n) (dotW S (ahd S k st2 tb2 (fun r=>wdx l ws (q+r)) (ws.length - q)) en2 k)) fun q hq=>by rw[wgh_take (by omega),wgh_drop]]
  show dotW S _ _ _=_
  rw[dot_cat,dot_zero,zero_add,k0u (n:=k) fun i _=>ahd_join _ i]
  unfold dotW
  rw[a0o (n:=k) (g:=fun a=>sm S (fun q=>S.mul (S.mul (sm S (fun i=>S.mul (ahd S n st1 tb1 (wdx l ws) q i) (en1 i)) n) (ahd S k st2 tb2 (fun r=>wdx l ws (q+r)) (ws.length - q) a)) (en2 a)) (ws.length+1)) (fun a _=>by rw[e0n]),h0l]
  refine a0o fun q _=>?_
  rw[f0o]
  exact a0o fun a _=>S.mul_assoc _ _ _
theorem sm_prod{S:SR}(f:Nat→Nat→S.W)(k:Nat):∀n,sm S (fun a=>f (a / k) (a % k)) (n * k)=sm S (fun i=>sm S (f i) k) n
  | 0=>by rw[Nat.zero_mul];rfl
  | n+1=>by
    rw[Nat.succ_mul,f0b,sm_prod f k n]
    show S.add _ _=S.add _ (sm S (f n) k)
    congr 1
    exact a0o fun j hj=>by rw[div_at hj,mod_at hj]
theorem sm_mm{S:SR}(p q:Nat→S.W)(n k:Nat):sm S (fun i=>sm S (fun j=>S.mul (p i) (q j)) k) n=S.mul (sm S p n) (sm S q k):=by
  rw[e0n]
  exact a0o fun i _=>(f0o _ _ _).symm
theorem mul4{S:SR}(a b c d:S.W):S.mul (S.mul a b) (S.mul c d)=S.mul (S.mul a c) (S.mul b d):=by
  rw[S.mul_assoc,S.mul_assoc,← S.mul_assoc b c d,S.mul_comm b c,S.mul_assoc c b d]
theorem dot_crs{S:SR}{n k:Nat}{x1 x2 y1 y2:Nat→S.W}:dotW S (crs S k x1 x2) (crs S k y1 y2) (n * k)=S.mul (dotW S x1 y1 n) (dotW S x2 y2 k):=by
  unfold dotW
  rw[← sm_mm,← sm_prod (fun i j=>S.mul (S.mul (x1 i) (y1 i)) (S.mul (x2 j) (y2 j)))]
  exact a0o fun a _=>mul4 _ _ _ _
theorem ahd_crs{S:SR}{n k:Nat}{st1 st2:Nat→S.W}{tb1 tb2:Nat→Nat→Nat→S.W}{wd:Nat→Nat}:∀i,ahd S (n * k) (crs S k st1 st2) (fun c=>crsT S k (tb1 c) (tb2 c)) wd i=crs S k (ahd S n st1 tb1 wd i) (ahd S k st2 tb2 wd i)
  | 0=>rfl
  | i+1=>by
    funext j
    show sm S (fun a=>S.mul (ahd S (n * k) (crs S k st1 st2) (fun c=>crsT S k (tb1 c) (tb2 c)) wd i a) (crs S k (fun b=>tb1 (wd i) b (j / k)) (fun b=>tb2 (wd i) b (j % k)) a)) (n * k)=_
    rw[ahd_crs i]
    exact dot_crs
theorem wgh_crs{S:SR}{l ws:List Nat}{n k:Nat}{st1 st2 en1 en2:Nat→S.W}{tb1 tb2:Nat→Nat→Nat→S.W} :
    wgh S l (n * k) (crs S k st1 st2) (fun c=>crsT S k (tb1 c) (tb2 c)) (crs S k en1 en2) ws=S.mul (wgh S l n st1 tb1 en1 ws) (wgh S l k st2 tb2 en2 ws):=by
  unfold wgh
  rw[ahd_crs,dot_crs]
def cv(S:SR)(f g:List Nat→S.W)(ws:List Nat):S.W:=sm S (fun q=>S.mul (f (ws.take q)) (g (ws.drop q))) (ws.length+1)
theorem m0k{S:SR}(f:Nat→S.W):∀n,sm S f (n+1)=S.add (f 0) (sm S (fun i=>f (i+1)) n)
  | 0=>by show S.add S.zero (f 0)=S.add (f 0) S.zero;rw[S.add_comm]
  | n+1=>by
    show S.add (sm S f (n+1)) (f (n+1))=S.add (f 0) (S.add (sm S (fun i=>f (i+1)) n) (f (n+1)))
    rw[m0k f n,S.add_assoc]
theorem sm_back{S:SR}:∀(n:Nat) (f:Nat→S.W),sm S (fun q=>f (n - q)) (n+1)=sm S f (n+1)
  | 0,_=>rfl
  | n+1,f=>by
    rw[m0k,a0o (g:=fun q=>f (n - q)) (fun q _=>by rw[Nat.add_sub_add_right]),sm_back n f]
    show S.add (f (n+1 - 0)) (sm S f (n+1))=S.add (sm S f (n+1)) (f (n+1))
    rw[S.add_comm];rfl
theorem cv_rev{S:SR}(f g:List Nat→S.W)(ws:List Nat):cv S f g ws.reverse=cv S (fun u=>g u.reverse) (fun u=>f u.reverse) ws:=by
  unfold cv
  rw[List.length_reverse,← sm_back]
  refine a0o fun q hq=>?_
  have e1:ws.reverse.take (ws.length - q)=(ws.drop q).reverse:=by rw[List.take_reverse];congr 1;congr 1;omega
  have e2:ws.reverse.drop (ws.length - q)=(ws.take q).reverse:=by rw[List.drop_reverse];congr 1;congr 1;omega
  rw[e1,e2,S.mul_comm]
theorem cv_addR{S:SR}(f g h:List Nat→S.W)(ws:List Nat):cv S f (fun u=>S.add (g u) (h u)) ws=S.add (cv S f g ws) (cv S f h ws):=by
  unfold cv
  rw[← l0w]
  exact a0o fun q _=>S.distrib _ _ _
theorem cv_addL{S:SR}(f g h:List Nat→S.W)(ws:List Nat):cv S (fun u=>S.add (f u) (g u)) h ws=S.add (cv S f h ws) (cv S g h ws):=by
  unfold cv
  rw[← l0w]
  refine a0o fun q _=>?_
  rw[S.mul_comm,S.distrib,S.mul_comm,S.mul_comm (h _)]
theorem sm_tri{S:SR}(F:Nat→Nat→S.W):∀n,sm S (fun p=>sm S (fun q=>F q p) (p+1)) n=sm S (fun q=>sm S (fun r=>F q (q+r)) (n - q)) n
  | 0=>rfl
  | n+1=>by
    show S.add (sm S (fun p=>sm S (fun q=>F q p) (p+1)) n) (sm S (fun q=>F q n) (n+1))=S.add (sm S (fun q=>sm S (fun r=>F q (q+r)) (n+1 - q)) n) (sm S (fun r=>F n (n+r)) (n+1 - n))
    have e1:sm S (fun q=>sm S (fun r=>F q (q+r)) (n+1 - q)) n=S.add (sm S (fun q=>sm S (fun r=>F q (q+r)) (n - q)) n) (sm S (fun q=>F q n) n):=by
      rw[← l0w]
      refine a0o fun q hq=>?_
      rw[show n+1 - q=(n - q)+1 by omega]
      show S.add _ (F q (q+(n - q)))=_
      rw[show q+(n - q)=n by omega]
    have e2:sm S (fun r=>F n (n+r)) (n+1 - n)=F n n:=by
      rw[show n+1 - n=1 by omega]
      show S.add S.zero (F n (n+0))=_
      rw[S.add_comm,S.add_zero];rfl
    rw[e1,e2,sm_tri F n,S.add_assoc]
    rfl
theorem cv_assoc{S:SR}(f g h:List Nat→S.W)(ws:List Nat):cv S (cv S f g) h ws=cv S f (cv S g h) ws:=by
  unfold cv
  have e1:∀p,p < ws.length+1→S.mul (sm S (fun q=>S.mul (f ((ws.take p).take q)) (g ((ws.take p).drop q))) ((ws.take p).length+1)) (h (ws.drop p))=sm S (fun q=>S.mul (S.mul (f (ws.take q)) (g ((ws.take p).drop q))) (h (ws.drop p))) (p+1):=fun p hp=>by
    rw[e0n,List.length_take,Nat.min_eq_left (by omega)]
    refine a0o fun q hq=>?_
    rw[List.take_take,Nat.min_eq_left (by omega)]
  rw[a0o e1,sm_tri (fun q p=>S.mul (S.mul (f (ws.take q)) (g ((ws.take p).drop q))) (h (ws.drop p)))]
  refine a0o fun q hq=>?_
  rw[f0o,List.length_drop,show ws.length+1 - q=ws.length - q+1 by omega]
  refine a0o fun r hr=>?_
  rw[S.mul_assoc,List.drop_drop,List.take_drop]
def e0(S:SR)(ws:List Nat):S.W:=if ws=[]then S.one else S.zero
theorem zero_mul'{S:SR}(x:S.W):S.mul S.zero x=S.zero:=by rw[S.mul_comm,S.mul_zero]
theorem cv_e{S:SR}(f:List Nat→S.W)(ws:List Nat):cv S (e0 S) f ws=f ws:=by
  unfold cv
  rw[m0k,a0o (g:=fun _=>S.zero),f0t,S.add_zero]
  · show S.mul (e0 S (ws.take 0)) (f (ws.drop 0))=_
    rw[List.take_zero,List.drop_zero,show e0 S []=S.one from if_pos rfl,S.mul_comm,S.mul_one]
  · intro q hq
    rw[show e0 S (ws.take (q+1))=S.zero from if_neg (by
      intro z
      have:=congrArg List.length z
      rw[List.length_take,List.length_nil]at this
      omega),zero_mul']
theorem cv_e'{S:SR}(f:List Nat→S.W)(ws:List Nat):cv S f (e0 S) ws=f ws:=by
  have:=cv_rev f (e0 S) ws.reverse
  rw[List.reverse_reverse]at this
  rw[this]
  have e:(fun u:List Nat=>e0 S u.reverse)=e0 S:=by
    funext u
    unfold e0
    by_cases z:u=[]
    · subst z;rfl
    · rw[if_neg z,if_neg (fun h=>z (List.reverse_eq_nil_iff.mp h))]
  rw[e,cv_e,List.reverse_reverse]
theorem star_one{S:SR}{a x y:List Nat→S.W}(ha:a []=S.zero)(hx:∀ws,x ws=S.add (e0 S ws) (cv S x a ws))(hy:∀ws,y ws=S.add (e0 S ws) (cv S y a ws)):∀(n:Nat) (ws:List Nat),ws.length=n→x ws=y ws:=by
  intro n
  induction n using Nat.strongRecOn with
  | _ n ih=>
    intro ws hw
    rw[hx,hy]
    congr 1
    unfold cv
    show S.add (sm S (fun q=>S.mul (x (ws.take q)) (a (ws.drop q))) ws.length) (S.mul (x (ws.take ws.length)) (a (ws.drop ws.length)))=S.add (sm S (fun q=>S.mul (y (ws.take q)) (a (ws.drop q))) ws.length) (S.mul (y (ws.take ws.length)) (a (ws.drop ws.length)))
    rw[List.drop_length,ha,S.mul_zero,S.mul_zero,a0o (n:=ws.length)]
    intro q hq
    rw[ih q (by omega) (ws.take q) (by rw[List.length_take];omega)]
theorem star_left{S:SR}{a x:List Nat→S.W}(ha:a []=S.zero)(hx:∀ws,x ws=S.add (e0 S ws) (cv S x a ws))(ws:List Nat):x ws=S.add (e0 S ws) (cv S a x ws):=by
  refine star_one ha hx (y:=fun u=>S.add (e0 S u) (cv S a x u)) (fun u=>?_) ws.length ws rfl
  rw[cv_addL,cv_e,cv_assoc]
  have e:cv S a x u=S.add (a u) (cv S a (cv S x a) u):=by
    rw[show x=fun u=>S.add (e0 S u) (cv S x a u)from funext hx,cv_addR,cv_e']
    congr 2
    funext v
    rw[← show x=fun u=>S.add (e0 S u) (cv S x a u)from funext hx]
  rw[e]
theorem star_eq{S:SR}{l:List Nat}{n:Nat}{st en:Nat→S.W}{tb:Nat→Nat→Nat→S.W}(h0:dotW S st en n=S.zero)(ws:List Nat) :
    wgh S l (1+n) (b0h S 0) (fun c=>ctab S n st (tb c) en) (b0h S 0) ws=S.add (e0 S ws) (cv S (wgh S l (1+n) (b0h S 0) (fun c=>ctab S n st (tb c) en) (b0h S 0)) (wgh S l n st tb en) ws):=by
  have a0:wgh S l n st tb en []=S.zero:=h0
  have xq:∀q,q≤ws.length→wgh S l (1+n) (b0h S 0) (fun c=>ctab S n st (tb c) en) (b0h S 0) (ws.take q)=cX S n st tb en (wdx l ws) q 0:=fun q hq=>by
    rw[l0t,List.length_take,Nat.min_eq_left hq]
    unfold cX
    rw[h0j fun i hi=>wdx_take hi]
  unfold cv
  show _=S.add (e0 S ws) (S.add (sm S (fun q=>S.mul (wgh S l (1+n) (b0h S 0) (fun c=>ctab S n st (tb c) en) (b0h S 0) (ws.take q)) (wgh S l n st tb en (ws.drop q))) ws.length) (S.mul (wgh S l (1+n) (b0h S 0) (fun c=>ctab S n st (tb c) en) (b0h S 0) (ws.take ws.length)) (wgh S l n st tb en (ws.drop ws.length))))
  rw[List.drop_length,a0,S.mul_zero,S.add_zero,a0o (g:=fun q=>S.mul (cX S n st tb en (wdx l ws) q 0) (dotW S (ahd S n st tb (fun r=>wdx l ws (q+r)) (ws.length - q)) en n)) fun q hq=>by rw[xq q (by omega),wgh_drop]]
  rw[l0t]
  cases hl:ws.length with
  | zero=>
    have:ws=[]:=List.length_eq_zero_iff.mp hl
    rw[cX_zero,show e0 S ws=S.one from if_pos this]
    show S.one=S.add S.one S.zero
    rw[S.add_zero]
  | succ k=>
    rw[cX_pieces,show e0 S ws=S.zero from if_neg (fun z=>by rw[z]at hl;cases hl),S.add_comm,S.add_zero]
theorem SameX.put{a b:Addr}{H H1:Hp}{o:HO}(s:SameX a H H1)(n:H b=none):SameX a H (L2.upd H1 b o):=fun c u hc hu=>by
  rw[b0b (a0v hu n)];exact s c u hc hu
theorem Dr.put{a b:Addr}{H:Hp}{o:HO}(d:Dr H a)(n:b≠a):Dr (L2.upd H b o) a:=by
  obtain⟨x,h | ⟨y,h⟩⟩:=d
  · exact⟨x,.inl (by rw[b0b (Ne.symm n)];exact h)⟩
  · exact⟨x,.inr ⟨y,by rw[b0b (Ne.symm n)];exact h⟩⟩
theorem iteD{b:Bool}{A B:Prop}(h1:b=true→A)(h2:b=false→B):if b=true then A else B:=by
  cases b with
  | true=>exact h1 rfl
  | false=>exact h2 rfl
theorem none_back'{H H':Hp}{a:Addr}(s:Same H H')(n:H' a=none):H a=none:=by
  cases e:H a with
  | none=>rfl
  | some o=>rw[s _ _ e]at n;cases n
def ExW(R:KindR Pr w K mg base):Nat→V→Hp→Prop:=fun _ u H=>∃x,R.is H u x∧R.S.lv 1 32 x
theorem ExW.same{R:KindR Pr w K mg base}{j:Nat}{u:V}{H H':Hp}(s:SameT H H')(h:ExW R j u H):ExW R j u H':=by
  obtain⟨x,a,b⟩:=h
  exact⟨x,R.same s a,b⟩
theorem ents_ex{R:KindR Pr w K mg base}{n:Nat}{vs:List V}{H:Hp}(h:Ents (ExW R) vs n H):∃x,Ents (R.Wt x 1) vs n H:=by
  have c:∀j,∃x:R.S.W,j < n→∃u,vs[j]? = some u∧R.is H u x∧R.S.lv 1 32 x:=fun j=>by
    by_cases hj:j < n
    · obtain⟨u,e,x,a,b⟩:=h.2 j hj
      exact⟨x,fun _=>⟨u,e,a,b⟩⟩
    · exact⟨R.S.zero,fun z=>absurd z hj⟩
  exact⟨fun j=>(c j).choose,h.1,fun j hj=>by
    obtain⟨u,e,a,b⟩:=(c j).choose_spec hj
    exact⟨u,e,a,b⟩⟩
theorem cut_drop1{xs:List V}(h:1≤xs.length):cutV xs (some 1) none=xs.drop 1:=by
  unfold cutV
  rw[HT.sIx_none,show(1:Int)=((1:Nat):Int)from rfl,HT.sIx_nat,Nat.min_eq_left h]
  exact List.take_of_length_le (by rw[List.length_drop];exact Nat.le_refl _)
theorem ents_tail{R:KindR Pr w K mg base}{n:Nat}{x:Nat→R.S.W}{u:V}{vs:List V}{H H':Hp}(h:Ents (R.Wt x 1) vs n H)(s:SameT H H')(h1:1≤n)(hu:ExW R 0 u H'):Ents (ExW R) (u::vs.drop 1) n H':=
  ⟨by rw[List.length_cons,List.length_drop,h.1];omega,fun j hj=>by
    cases j with
    | zero=>exact⟨u,rfl,hu⟩
    | succ j=>
      obtain⟨v,e,q⟩:=h.2 (j+1) hj
      refine⟨v,?_,⟨x (j+1),R.same s q.1,q.2⟩⟩
      rw[List.getElem?_cons_succ,List.getElem?_drop,Nat.add_comm]
      exact e⟩
def EP(R:KindR Pr w K mg base)(ys zs:List V)(n:Nat)(H:Hp):Prop:=∃xs es:Nat→R.S.W,Ents (R.Wt xs 1) ys n H∧Ents (R.Wt es 1) zs n H∧dotW R.S xs es n=R.S.zero
theorem EP.same{R:KindR Pr w K mg base}{ys zs:List V}{n:Nat}{H H':Hp}(s:SameT H H')(h:EP R ys zs n H):EP R ys zs n H':=by
  obtain⟨xs,es,a,b,c⟩:=h
  exact⟨xs,es,a.mono fun _ _ _ q=>KindR.Wt.same s q,b.mono fun _ _ _ q=>KindR.Wt.same s q,c⟩
def PZ(R:KindR Pr w K mg base)(x y:V)(H:Hp):Prop:=∃a b,R.is H x a∧R.S.lv 1 32 a∧R.is H y b∧R.S.lv 1 32 b∧R.S.mul a b=R.S.zero
theorem EP.nil{R:KindR Pr w K mg base}{H:Hp}:EP R [] [] 0 H:=⟨fun _=>R.S.zero,fun _=>R.S.zero,Ents.nil,Ents.nil,rfl⟩
theorem EP.len{R:KindR Pr w K mg base}{ys zs:List V}{n:Nat}{H:Hp}(h:EP R ys zs n H):ys.length=n∧zs.length=n:=by
  obtain⟨_,_,a,b,_⟩:=h
  exact⟨a.1,b.1⟩
theorem EP.snoc{R:KindR Pr w K mg base}{ys zs:List V}{n:Nat}{H:Hp}{x y:V}(h:EP R ys zs n H)(q:PZ R x y H):EP R (ys++[x]) (zs++[y]) (n+1) H:=by
  obtain⟨xs,es,a,b,c⟩:=h
  obtain⟨u,v,hu,lu,hv,lv,z⟩:=q
  refine⟨fun j=>if j=n then u else xs j,fun j=>if j=n then v else es j,(a.mono fun j _ hj q=>?_).snoc ?_,(b.mono fun j _ hj q=>?_).snoc ?_,?_⟩
  · show R.is H _ (if j=n then u else xs j)∧R.S.lv 1 32 (if j=n then u else xs j)
    rw[if_neg (by omega)];exact q
  · show R.is H _ (if n=n then u else xs n)∧R.S.lv 1 32 (if n=n then u else xs n)
    rw[if_pos rfl];exact⟨hu,lu⟩
  · show R.is H _ (if j=n then v else es j)∧R.S.lv 1 32 (if j=n then v else es j)
    rw[if_neg (by omega)];exact q
  · show R.is H _ (if n=n then v else es n)∧R.S.lv 1 32 (if n=n then v else es n)
    rw[if_pos rfl];exact⟨hv,lv⟩
  · show R.S.add (sm R.S (fun i=>R.S.mul (if i=n then u else xs i) (if i=n then v else es i)) n) (R.S.mul (if n=n then u else xs n) (if n=n then v else es n))=R.S.zero
    rw[if_pos rfl,if_pos rfl,z,R.S.add_zero,← c]
    exact a0o fun i hi=>by rw[if_neg (by omega),if_neg (by omega)]
def put0{S:SR}(y:Nat→S.W)(r:S.W):Nat→S.W
  | 0=>r
  | j+1=>y (j+1)
theorem close_dot{S:SR}{x y:Nat→S.W}{n:Nat}{r:S.W}(hn:1≤n)(x0:x 0=S.one)(y0:y 0=S.zero)(hr:S.add r (dotW S x y n)=S.zero) :
    dotW S x (put0 y r) n=S.zero:=by
  obtain⟨m,rfl⟩:∃m,n=m+1:=⟨n - 1,by omega⟩
  unfold dotW at hr ⊢
  rw[m0k]at hr ⊢
  rw[← hr]
  show S.add (S.mul (x 0) r) (sm S (fun i=>S.mul (x (i+1)) (y (i+1))) m)=_
  rw[x0,y0,S.mul_zero]
  congr 1
  · rw[S.mul_comm,S.mul_one]
  · rw[S.add_comm,S.add_zero]
theorem res_neg{p:Int}{hp:2≤p}(z:(f0k p hp).W)(e0:0≤(0 - Re.x z).fmod p)(e1:(0 - Re.x z).fmod p < p):(f0k p hp).add (⟨(0 - Re.x z).fmod p,e0,e1⟩:Re p) z=(f0k p hp).zero:=by
  refine Re.eq_of ?_
  show((0 - Re.x z).fmod p+Re.x z).fmod p=0
  have a0:=Re.h0 z
  have a1:=Re.h1 z
  by_cases h0:Re.x z=0
  · rw[h0];simp
  · have:(0 - Re.x z).fmod p=p - Re.x z:=by
      rw[show(0 - Re.x z)=(p - Re.x z)+p * (-1) by omega,Int.add_mul_fmod_self_left]
      exact Int.fmod_eq_of_lt (by omega) (by omega)
    rw[this,show p - Re.x z+Re.x z=p by omega,Int.fmod_self]
def sp_empt(T:Txt K mg t):Sp:=fun vs H Q _=>∃(R:KindR Pr w K mg base),∃nm p,∃(a:Addr),∃so mv l n st tb en,So T R nm p∧vs=[.ref a,so,mv]∧(Dr H a∧SortAt H so nm p∧MachG R l n st tb en 1 1 1 mv H∧n≤20)∧
  ∀v H' st' en',SameX a H H'→Dr H' a→MachG R l n st' tb en' 1 1 1 v H'→dotW R.S st' en' n=R.S.zero→Q v H'
theorem l0j(T:Txt K mg t):FnOk Pr w K mg base CX0 42 t.u0n t.q0q ["_law_state_here","_law_sort_here","_law_machine_here"] (sp_empt (w:=w) (base:=base) T):=by
  refine T.q0p.ok sc_law_emptied (fun vs H Q E h=>?_) (fun cdv A outer s H vs Q E hr h=>?_)
  · obtain⟨R,nm,p,a,so,mv,l,n,st,tb,en,_,rfl,_⟩:=h
    rfl
  · obtain⟨R,nm,p,a,so,mv,l,n,st,tb,en,hS,rfl,⟨hD,hso,hm,hn⟩,k⟩:=h
    have sl:1000 < sizeLine:=by decide
    obtain⟨mp,sv,tv,ev,rfl,hmp,⟨sp,ss,rfl,hsp,es⟩,h2,⟨ep,ee,rfl,hep,ee'⟩⟩:=hm
    refine⟨_,(a0c (a0s (i:=3) sc_law_emptied.nd rfl (Or.inl rfl) (c0p a0b)) (a0c (a0s (i:=4) sc_law_emptied.nd rfl (Or.inl rfl) (c0p a0b)) (a0c (c0i PassesOwn.never rfl (i0n rfl T.z_zip (a0a (a0p a0n (pv 2) a0e (fun _ _=>rfl)) (a0a (a0p a0n (pv 2) a0e (fun _ _=>rfl)) a0b))) (g0u rfl (b0k (a0u (i:=5) sc_law_emptied.nd rfl (Or.inl rfl)) (b0k (a0u (i:=6) sc_law_emptied.nd rfl (Or.inl rfl)) e0f))) (a0c (b0n (a0t c0j (a0f (b0d T) hr.m rfl T.w0q T.x0v.kp T.x0r .nil a0k (a0a (pv 0) (a0a a0e a0b))) a0e (a0w _)) (a0i (a0s (i:=5) sc_law_emptied.nd rfl (Or.inl rfl) (a0f (c0l T) hr.m rfl T.s0v T.s0f.kp T.r0y .nil a0k (a0a (pv 1) a0b)))) (a0i (a0s (i:=6) sc_law_emptied.nd rfl (Or.inl rfl) (a0f (c0l T) hr.m rfl T.s0v T.s0f.kp T.r0y .nil a0k (a0a (pv 1) a0b))))) (a0c (b0f (g0e PySem.F.plainAttrs_list PySem.F.slot_list_append PySem.F.type_list_append b0y (pv 3) (a0a (pv 5) a0b))) (a0i (b0f (g0e PySem.F.plainAttrs_list PySem.F.slot_list_append PySem.F.type_list_append b0y (pv 4) (a0a (pv 6) a0b))))))) (a0c (b0n (PW.pt (j0z (a0t c0j (a0p a0n (pv 1) a0e (fun _ _=>rfl)) b0e (a0w _)) (j0z (a0t op_gt (a0z b0l (by rfl) T.z_len PySem.boot_len (a0a (pv 3) a0b)) a0e (a0w _)) (j0y (a0t c0j (a0f (b0d T) hr.m rfl T.w0q T.x0v.kp T.x0r .nil a0k (a0a (pv 0) (a0a a0e a0b))) a0e (a0w _)))))) (a0c (a0s (i:=3) sc_law_emptied.nd rfl (Or.inl rfl) (a0x op_cat (c0p (a0a a0e a0b)) (b0a i0u (by rfl) T.z_list boot_list (a0a (d0k sl_tup (a0p a0n (pv 2) a0e (fun _ _=>rfl)) (e0u a0e) e0v) a0b)))) (a0c (a0s (i:=4) sc_law_emptied.nd rfl (Or.inl rfl) (a0x op_cat (c0p (a0a a0e a0b)) (b0a i0u (by rfl) T.z_list boot_list (a0a (d0k sl_tup (a0p a0n (pv 2) a0e (fun _ _=>rfl)) (e0u a0e) e0v) a0b)))) (a0i (ps_asg (a0x c0f (a0x op_sub a0e (a0f (i0c T) hr.m rfl T.y0x T.y0c.kp T.y0u .nil a0k (a0a (pv 1) (a0a (pv 3) (a0a (pv 4) a0b))))) (a0p a0n (pv 1) a0e (fun _ _=>rfl))) (pg_sub (pv 4) a0e j0j))))) a0y) (a0i (a0m (b0q (a0a (a0p a0n (pv 2) a0e (fun _ _=>rfl)) (a0a (b0a a0q (by rfl) T.z_tuple boot_tuple (a0a (pv 3) a0b)) (a0a (a0p a0n (pv 2) a0e (fun _ _=>rfl)) (a0a (b0a a0q (by rfl) T.z_tuple boot_tuple (a0a (pv 4) a0b)) a0b))))))))))),?_⟩
    refine⟨(by show 0≤sizeLine;decide),fun sl' ns=>?_⟩
    have t1:=a0g (o:=.lst []) ns
    have k1:upd H sl' (.lst []) sl'=some (.lst []):=a0d
    revert t1 k1
    generalize upd H sl' (.lst [])=H1
    intro t1 k1
    refine⟨(by show 0≤sizeLine;decide),fun el' ne'=>?_⟩
    have t2:=a0g (o:=.lst []) ne'
    have k2:upd H1 el' (.lst []) el'=some (.lst []):=a0d
    have se:sl'≠el':=a0v k1 ne'
    have ne:H el'=none:=by
      cases e:H el' with
      | none=>rfl
      | some o=>rw[t1 _ _ e]at ne';cases ne'
    have sa:sl'≠a:=fun e=>by obtain⟨xs,z⟩:=hD.lst;rw[← e,ns]at z;cases z
    have ea:el'≠a:=fun e=>by obtain⟨xs,z⟩:=hD.lst;rw[← e,ne]at z;cases z
    revert t2 k2
    generalize upd H1 el' (.lst [])=H2
    intro t2 k2
    have k1:=t2 _ _ k1
    have t12:=t1.trans t2
    have d2:=hD.same t12
    clear t1 t2 ne'
    show c0b 4 (.ref el') [some (.ref a),some so,some (.ref mp),some (.ref sl'),none,none,none] H2 _
    refine⟨_,rfl,_,_,_,_,rfl,rfl,SqT.of (t12 _ _ hmp),rfl,_,rfl,_,_,_,_,rfl,rfl,SqT.of (t12 _ _ hmp),rfl,.tup sp,.tup ep,_,_,ss,ee,rfl,rfl,rfl,SqT.of (t12 _ _ hsp),SqT.of (t12 _ _ hep),n0s (K:=K) (xs:=ss) (ys:=ee) (fun i σ H3=>∃v5 v6 ys zs,σ=[some (.ref a),some so,some (.ref mp),some (.ref sl'),some (.ref el'),v5,v6]∧SameX a H H3∧Dr H3 a∧H3 sl'=some (.lst ys)∧H3 el'=some (.lst zs)∧EP R ys zs i H3) (by rw[es.1,ee'.1]) ⟨_,_,[],[],rfl,.of t12,d2,k1,k2,EP.nil⟩ (fun i σ H3 _ ⟨_,_,_,_,_,q,_⟩=>⟨SqT.of ((q.tt hD) _ _ hsp),SqT.of ((q.tt hD) _ _ hep)⟩) ?_ ?_⟩
    · rintro i u v pp σ H3 hu hv np ⟨v5,v6,ys,zs,rfl,q,d3,hy,hz,ey⟩
      obtain⟨hi,pu⟩:=es.at hu
      obtain⟨_,pv⟩:=ee'.at hv
      have s4:=a0g (o:=.tup [u,v]) np
      have q4:=q.trans (.of s4)
      have d4:=d3.same s4
      refine⟨pp,_,rfl,SqT.of a0d,rfl,_,_,rfl,_,_,rfl,rfl,?_⟩
      revert s4 q4 d4
      have hpp:upd H3 pp (.tup [u,v]) pp=some (.tup [u,v]):=a0d
      revert hpp
      generalize upd H3 pp (.tup [u,v])=H4
      intro hpp s4 q4 d4
      refine⟨_,rfl,a,2,rfl,⟨d4,by decide,by decide⟩,fun r5 H5 s5 d5 u5 w5=>⟨rfl,_,rfl,?_⟩⟩
      have q5:=q4.trans s5
      have z0:R.S.lv 1 32 R.S.zero:=R.S.lv_mono _ _ _ _ (by decide) (R.S.lv_zero _)
      refine(fun(key:∀(x y:V) (H6:Hp),Same H5 H6→PZ R x y H6→(?F:L2.St→Hp→Prop) [some (.ref a),some so,some (.ref mp),some (.ref sl'),some (.ref el'),some x,some y] H6)=>?main) ?rest
      case main=>
        refine iteI (fun _=>?_) (fun _=>?_)
        · refine⟨_,rfl,R,nm,p,_,hS,rfl,hso.same (q5.tt hD),fun z H6 s6 f6=>?_⟩
          exact key z v _ s6 ⟨_,_,f6,z0,R.same ((q5.trans (.of s6)).tt hD) pv.1,pv.2,zero_mul' _⟩
        · refine⟨_,rfl,R,nm,p,_,hS,rfl,hso.same (q5.tt hD),fun z H6 s6 f6=>?_⟩
          exact key u z _ s6 ⟨_,_,R.same ((q5.trans (.of s6)).tt hD) pu.1,pu.2,f6,z0,R.S.mul_zero _⟩
      case rest=>
      intro x y H6 s6 hxy
      have s36:SameX a H3 H6:=((SameX.of s4).trans s5).trans (.of s6)
      have q6:=q.trans s36
      have d6:=d5.same s6
      have hy6:=s36 _ _ sa hy
      have hz6:=s36 _ _ ea hz
      have T36:=s36.tt d3
      have ey:=ey.same T36
      clear s36 T36 q5 d5 s5 s4 q4 d4 hpp s6
      refine⟨_,rfl,.inl ⟨rfl,_,SqL.of hy6⟩,_,rfl,_,_,_,rfl,rfl,hy6,(by rw[ey.len.1];omega),?_⟩
      have x7:=c0g (o:=.lst (ys++[x])) hy6
      have hz7:upd H6 sl' (.lst (ys++[x])) el'=some (.lst zs):=by rw[b0b (Ne.symm se)];exact hz6
      refine⟨_,rfl,.inl ⟨rfl,_,SqL.of hz7⟩,_,rfl,_,_,_,rfl,rfl,hz7,(by rw[ey.len.2];omega),?_⟩
      have x8:=c0g (o:=.lst (zs++[y])) hz7
      have x78:=x7.trans x8
      refine⟨_,_,ys++[x],zs++[y],rfl,(q6.put ns).put ne,(d6.put sa).put ea,(by rw[b0b se,a0d]),a0d,(ey.snoc hxy).same x78⟩
    · rintro σ H3 ⟨v5,v6,ys,zs,rfl,q,d3,hy,hz,ey⟩
      rw[es.1]at ey
      have hso3:=hso.same (q.tt hD)
      obtain⟨qq,eq,hq⟩:=id hso3
      subst eq
      refine⟨_,rfl,_,_,_,_,rfl,rfl,SqT.of hq,rfl,rfl,_,rfl,?_⟩
      refine(fun(key2:∀(s1 e1:Addr) (ys zs:List V) (H4:Hp),SameX a H H4→Dr H4 a→H4 s1=some (.lst ys)→H4 e1=some (.lst zs)→EP R ys zs n H4→(?F2:L2.St→Hp→Prop) [some (.ref a),some (.ref qq),some (.ref mp),some (.ref s1),some (.ref e1),v5,v6] H4)=>?main2) ?rest2
      case main2=>
        have hdec:decide (V.str nm=V.str (Str.ofString "residues"))=true→nm=Str.ofString "residues":=fun e=>V.str.inj (of_decide_eq_true e)
        revert hdec
        generalize decide (V.str nm=V.str (Str.ofString "residues"))=bb
        intro hdec
        refine iteD (fun eb=>?tt) (fun eb=>?ff)
        case ff=>
          refine iteF ?_
          exact key2 sl' el' ys zs _ q d3 hy hz ey
        case tt=>
        have hnm:=hdec eb
        cases hS with
        | fr=>exact absurd hnm (by decide +kernel)
        | co=>exact absurd hnm (by decide +kernel)
        | tr=>exact absurd hnm (by decide +kernel)
        | re p hp hq' hi=>
          refine⟨_,rfl,_,_,rfl,(show LenV K (.ref sl') H3 n from .inl ⟨_,SqL.of hy,ey.len.1.symm⟩),_,_,rfl,rfl,_,rfl,?_⟩
          refine iteP (fun n1=>?_) (fun _=>?_)
          rotate_left
          · (first | exact key2 sl' el' ys zs _ q d3 hy hz ey | exact iteF (key2 sl' el' ys zs _ q d3 hy hz ey))
          have n1:1 < n:=by omega
          refine⟨_,rfl,a,2,rfl,⟨d3,by decide,by decide⟩,fun r4 H4 s4 d4 u4 w4=>⟨rfl,_,rfl,?_⟩⟩
          have q4:=q.trans s4
          have T04:=q4.tt hD
          refine iteI (fun _=>?_) (fun _=>?_)
          rotate_left
          · have kk:=key2 sl' el' ys zs _ q4 d4 (s4 _ _ sa hy) (s4 _ _ ea hz) (ey.same (s4.tt d3))
            (first | exact kk | exact iteF kk)
          (try refine iteT ?_)
          have whole:∀xs:List V,xs.length=n→¬(HT.sIx xs.length 0 (some (1:Int))=0∧HT.sIx xs.length xs.length none=xs.length):=fun xs e z=>by
            have:=z.1
            rw[show(1:Int)=((1:Nat):Int)from rfl,HT.sIx_nat]at this
            omega
          have one:∀H:Hp,ExW (R_re (w:=w) (base:=base) T p hp hq') 0 (.int 1) H:=fun H=>⟨⟨1,by omega,by omega⟩,rfl,trivial⟩
          have nul:∀H:Hp,ExW (R_re (w:=w) (base:=base) T p hp hq') 0 (.int 0) H:=fun H=>⟨⟨0,by omega,by omega⟩,rfl,trivial⟩
          refine⟨(by show 1≤sizeLine;decide),fun p1 n1'=>?_⟩
          have g1:=a0g (o:=.lst [.int 1]) n1'
          have j1:upd H4 p1 (.lst [.int 1]) p1=some (.lst [.int 1]):=a0d
          revert g1 j1
          generalize upd H4 p1 (.lst [.int 1])=H5
          intro g1 j1
          have T05:=T04.trans g1.t
          refine⟨_,rfl,_,_,_,_,rfl,rfl,SqT.of (T05 _ _ hmp),rfl,_,rfl,_,_,rfl,SqT.of (T05 _ _ hsp),whole _ es.1,fun p2 n2=>?_⟩
          have g2:=a0g (o:=.tup (cutV ss (some 1) none)) n2
          refine⟨_,_,rfl,.inr (SqT.of a0d),fun p3 n3=>?_⟩
          have g3:=a0g (o:=.lst (cutV ss (some 1) none)) n3
          have g23:=g2.trans g3
          have j3:upd (upd H5 p2 (.tup (cutV ss (some 1) none))) p3 (.lst (cutV ss (some 1) none)) p3=some (.lst (cutV ss (some 1) none)):=a0d
          revert g23 j3
          generalize upd (upd H5 p2 (.tup (cutV ss (some 1) none))) p3 (.lst (cutV ss (some 1) none))=H6
          intro g23 j3
          rw[cut_drop1 (by rw[es.1];omega)]at j3
          refine⟨_,_,[.int 1],ss.drop 1,rfl,rfl,g23 _ _ j1,j3,(by rw[List.length_drop,es.1];show 1+_≤_;omega),fun p4 n4=>?_⟩
          have g4:=a0g (o:=.lst ([.int 1]++ss.drop 1)) n4
          have j4:upd H6 p4 (.lst ([.int 1]++ss.drop 1)) p4=some (.lst ([.int 1]++ss.drop 1)):=a0d
          revert g4 j4
          generalize upd H6 p4 (.lst ([.int 1]++ss.drop 1))=H7
          intro g4 j4
          have S47:=g1.trans (g23.trans g4)
          have T07:=T04.trans S47.t
          have eS:Ents (ExW (R_re (w:=w) (base:=base) T p hp hq')) ([.int 1]++ss.drop 1) n H7:=ents_tail es T07 (by omega) (one _)
          clear g1 g2 g3 g23 g4 j1 j3 n1' n2 n3 n4 T05
          show c0b 3 (.ref p4) [some (.ref a),some (.ref qq),some (.ref mp),some (.ref sl'),some (.ref el'),v5,v6] H7 _
          refine⟨(by show 1≤sizeLine;decide),fun p1 n1'=>?_⟩
          have g1:=a0g (o:=.lst [.int 0]) n1'
          have j1:upd H7 p1 (.lst [.int 0]) p1=some (.lst [.int 0]):=a0d
          revert g1 j1
          generalize upd H7 p1 (.lst [.int 0])=H8
          intro g1 j1
          have T08:=T07.trans g1.t
          refine⟨_,rfl,_,_,_,_,rfl,rfl,SqT.of (T08 _ _ hmp),rfl,_,rfl,_,_,rfl,SqT.of (T08 _ _ hep),whole _ ee'.1,fun p2 n2=>?_⟩
          have g2:=a0g (o:=.tup (cutV ee (some 1) none)) n2
          refine⟨_,_,rfl,.inr (SqT.of a0d),fun p3 n3=>?_⟩
          have g3:=a0g (o:=.lst (cutV ee (some 1) none)) n3
          have g23:=g2.trans g3
          have j3:upd (upd H8 p2 (.tup (cutV ee (some 1) none))) p3 (.lst (cutV ee (some 1) none)) p3=some (.lst (cutV ee (some 1) none)):=a0d
          revert g23 j3
          generalize upd (upd H8 p2 (.tup (cutV ee (some 1) none))) p3 (.lst (cutV ee (some 1) none))=H9
          intro g23 j3
          rw[cut_drop1 (by rw[ee'.1];omega)]at j3
          refine⟨_,_,[.int 0],ee.drop 1,rfl,rfl,g23 _ _ j1,j3,(by rw[List.length_drop,ee'.1];show 1+_≤_;omega),fun p5 n5=>?_⟩
          have g4:=a0g (o:=.lst ([.int 0]++ee.drop 1)) n5
          have j5:upd H9 p5 (.lst ([.int 0]++ee.drop 1)) p5=some (.lst ([.int 0]++ee.drop 1)):=a0d
          revert g4 j5
          generalize upd H9 p5 (.lst ([.int 0]++ee.drop 1))=H10
          intro g4 j5
          have S710:=g1.trans (g23.trans g4)
          have T010:=T07.trans S710.t
          have eE:Ents (ExW (R_re (w:=w) (base:=base) T p hp hq')) ([.int 0]++ee.drop 1) n H10:=ents_tail ee' T010 (by omega) (nul _)
          have p5n:H4 p5=none:=by
            cases e:H4 p5 with
            | none=>rfl
            | some o=>rw[(S47.trans (g1.trans g23)) _ _ e]at n5;cases n5
          have eS:=eS.mono fun _ _ _ w'=>w'.same S710.t
          have j4:=S710 _ _ j4
          have p45:p4≠p5:=fun e=>by
            rw[e]at j4
            rw[j5]at j4
            have:=congrArg (fun o:Option HO=>match o with | some (.lst (.int z::_))=>z | _=>7) j4
            simp at this
          clear g1 g2 g3 g23 g4 j1 j3 n1' n2 n3 n5 T08
          have q10:SameX a H H10:=q4.trans (.of (S47.trans S710))
          have d10:=d4.same (S47.trans S710)
          show c0b 4 (.ref p5) [some (.ref a),some (.ref qq),some (.ref mp),some (.ref p4),some (.ref el'),v5,v6] H10 _
          obtain⟨xs,eX⟩:=ents_ex eS
          obtain⟨ys',eY⟩:=ents_ex eE
          refine⟨_,rfl,_,rfl,_,rfl,R_re (w:=w) (base:=base) T p hp hq',_,_,_,_,_,n,xs,ys',1,1,.re p hp hq' hi,rfl,⟨hso.same (q10.tt hD),SeqOf.list j4 eX,SeqOf.list j5 eY,by omega,by decide⟩,fun dv' H11 s11 f11 _=>?_⟩
          have f11':dv'=.int _:=f11
          subst f11'
          have q11:=q10.trans (.of s11)
          obtain⟨q2,e2,hq2⟩:=hso.same (q11.tt hD)
          cases e2
          refine⟨_,_,rfl,rfl,_,rfl,_,_,_,_,rfl,rfl,SqT.of hq2,rfl,_,_,rfl,rfl,(show p≠0 by omega),?_⟩
          have p5H:H p5=none:=by
            cases e:H p5 with
            | none=>rfl
            | some o=>
              have na:p5≠a:=fun z=>by
                obtain⟨zs',zz⟩:=d4.lst
                rw[← z,p5n]at zz
                cases zz
              rw[q4 _ _ na e]at p5n
              cases p5n
          have p5a:p5≠a:=fun z=>by
            obtain⟨zs',zz⟩:=d4.lst
            rw[← z,p5n]at zz
            cases zz
          have j511:=s11 _ _ j5
          refine⟨_,rfl,_,_,_,0,rfl,rfl,j511,(by unfold ixN;rw[if_pos (by decide),if_pos (by rw[List.length_append];show(0:Int) < ((1+_:Nat):Int);omega)];rfl),?_⟩
          have st':=c0g (o:=.lst (([V.int 0]++ee.drop 1).set 0 (V.int ((0 - (dotW (f0k p hp) xs ys' n).x).fmod p)))) j511
          have e0:=Int.fmod_nonneg_of_pos (0 - (dotW (f0k p hp) xs ys' n).x) (show(0:Int) < p by omega)
          have e1:=Int.fmod_lt_of_pos (0 - (dotW (f0k p hp) xs ys' n).x) (show(0:Int) < p by omega)
          have x0:(xs 0).x=1:=by
            obtain⟨u,eu,pu⟩:=eX.2 0 (by omega)
            cases eu
            exact(V.int.inj (show V.int 1=V.int (xs 0).x from pu.1)).symm
          have y0:(ys' 0).x=0:=by
            obtain⟨u,eu,pu⟩:=eY.2 0 (by omega)
            cases eu
            exact(V.int.inj (show V.int 0=V.int (ys' 0).x from pu.1)).symm
          refine key2 p4 p5 ([.int 1]++ss.drop 1) _ _ (q11.put p5H) ((d10.same s11).put p5a) (by rw[b0b p45];exact s11 _ _ j4) a0d ⟨xs,put0 ys' (⟨(0 - (dotW (f0k p hp) xs ys' n).x).fmod p,e0,e1⟩:Re p),eX.mono fun _ _ _ q=>KindR.Wt.same (s11.t.trans st') q,⟨by rw[List.length_set];exact eY.1,fun j hj=>?_⟩,close_dot (by omega) (Re.eq_of x0) (Re.eq_of y0) (res_neg _ e0 e1)⟩
          obtain⟨v,e,q⟩:=eY.2 j hj
          cases j with
          | zero=>exact⟨_,List.getElem?_set_self (by rw[eY.1];exact hj),rfl,trivial⟩
          | succ j=>exact⟨v,by rw[List.getElem?_set_ne (by omega)];exact e,q.1,trivial⟩
      case rest2=>
      intro s1 e1 ys zs H4 q4 d4 hy hz ey
      have T04:=q4.tt hD
      obtain⟨st',en',eX,eY,ed⟩:=ey
      refine⟨_,rfl,_,_,_,_,rfl,rfl,SqT.of (T04 _ _ hmp),rfl,_,rfl,s1,ys,rfl,.inl ⟨SqL.of hy,fun p5 n5=>?_⟩⟩
      have s5:=a0g (o:=.tup ys) n5
      have h5:upd H4 p5 (.tup ys) p5=some (.tup ys):=a0d
      refine⟨_,rfl,_,_,_,_,rfl,rfl,SqT.of (s5 _ _ (T04 _ _ hmp)),rfl,_,rfl,e1,zs,rfl,.inl ⟨SqL.of (s5 _ _ hz),fun p6 n6=>?_⟩⟩
      have s6:=a0g (o:=.tup zs) n6
      have h6:upd (upd H4 p5 (.tup ys)) p6 (.tup zs) p6=some (.tup zs):=a0d
      refine⟨(by show 4≤sizeLine;decide),fun p7 n7=>?_⟩
      have s7:=a0g (o:=.tup [vT l,V.ref p5,tv,V.ref p6]) n7
      have s47:=s5.trans (s6.trans s7)
      exact k _ _ st' en' (q4.trans (.of s47)) (d4.same s47) ⟨p7,_,_,_,rfl,a0d,⟨p5,ys,rfl,(s6.trans s7) _ _ h5,eX.mono fun _ _ _ z=>KindR.Wt.same s47.t z⟩,h2.mono (T04.trans s47.t) fun _ _ _ z=>KindR.Tab.same (T04.trans s47.t) z,⟨p6,zs,rfl,s7 _ _ h6,eY.mono fun _ _ _ z=>KindR.Wt.same s47.t z⟩⟩ ed
theorem five_at{l:List Nat}(L:LOk l):∃q:Nat,q≤6∧atI [V.int 5,V.int 3,V.int 2] ((l.length:Int) - 1)=some (V.int (q:Int)):=by
  have h1:=L.h1
  have h3:=L.h3
  rcases(show l.length=1∨l.length=2∨l.length=3 by omega)with e | e | e <;>rw[e]
  · exact⟨5,by decide,rfl⟩
  · exact⟨3,by decide,rfl⟩
  · exact⟨2,by decide,rfl⟩
theorem wss_of{wss:List (List Nat)}{i:Nat}{y:V}(h:(wss.map vT)[i]? = some y):∃ws,ws∈wss∧y=vT ws:=by
  rw[List.getElem?_map]at h
  cases e:wss[i]? with
  | none=>rw[e]at h;cases h
  | some z=>rw[e]at h;exact⟨z,List.mem_of_getElem? e,(Option.some.inj h).symm⟩
def sp_alike(T:Txt K mg t):Sp:=fun vs H Q _=>∃(R:KindR Pr w K mg base),∃nm p so l o1 o2 n1 st1 tb1 en1 n2 st2 tb2 en2 m,So T R nm p∧vs=[so,vT l,o1,o2]∧
  (SortAt H so nm p∧MachG R l n1 st1 tb1 en1 m m m o1 H∧MachG R l n2 st2 tb2 en2 m m m o2 H∧LOk l∧n1≤32∧n2≤32∧m≤400∧∀ws:List Nat,(∀c∈ws,c∈l)→wgh R.S l n1 st1 tb1 en1 ws=wgh R.S l n2 st2 tb2 en2 ws)∧∀H',Same H H'→Q (.bl true) H'
theorem i0r(T:Txt K mg t):FnOk Pr w K mg base CX0 46 t.z0g t.t0y ["_law_sort_here","_law_letters_here","_law_one_here","_law_other"] (sp_alike (w:=w) (base:=base) T):=by
  refine T.t0m.ok sc_law_alike (fun vs H Q E h=>?_) (fun cdv A outer s H vs Q E hr h=>?_)
  · obtain⟨R,nm,p,so,l,o1,o2,n1,st1,tb1,en1,n2,st2,tb2,en2,m,_,rfl,_⟩:=h
    rfl
  · obtain⟨R,nm,p,so,l,o1,o2,n1,st1,tb1,en1,n2,st2,tb2,en2,m,hS,rfl,⟨hso,h1,h2,L,b1,b2,hm,he⟩,k⟩:=h
    have sl:10000 < sizeLine:=by decide
    have l3:=L.h3
    obtain⟨p1,x1,y1,z1,rfl,hp1,_⟩:=id h1
    obtain⟨p2,x2,y2,z2,rfl,hp2,_⟩:=id h2
    refine⟨_,(a0c (b0n (PW.pt (j0x (a0t op_ne (a0p a0n (pv 2) a0e (fun _ _=>rfl)) (pv 1) (a0w _)) (i0m (a0t op_ne (a0p a0n (pv 3) a0e (fun _ _=>rfl)) (pv 1) (a0w _))))) (a0i (a0m g0w)) a0y) (a0c (c0i PassesOwn.never rfl (k0b (a0f (ok_law_words T) hr.m rfl T.u0e T.t0f.kp T.u0a .nil a0k (a0a (pv 1) (a0a (a0p b0t (c0p (a0a a0e (a0a a0e (a0a a0e a0b)))) (a0x op_sub (a0z b0l (by rfl) T.z_len PySem.boot_len (a0a (pv 1) a0b)) a0e) (fun _ _=>rfl)) a0b)))) (a0u (i:=4) sc_law_alike.nd rfl (Or.inl rfl)) (a0i (b0n (g0t (e0l (a0f (k0c T) hr.m rfl T.x0g T.w0f.kp T.x0k .nil a0k (a0a (pv 0) (a0a (a0f (i0p T) hr.m rfl T.v0a T.t0j.kp T.u0c .nil a0k (a0a (pv 0) (a0a (pv 2) (a0a (pv 4) a0b)))) (a0a (a0f (i0p T) hr.m rfl T.v0a T.t0j.kp T.u0c .nil a0k (a0a (pv 0) (a0a (pv 3) (a0a (pv 4) a0b)))) a0b)))))) (a0i (a0m g0w)) a0y))) (a0i (a0m g0w)))),?_⟩
    refine⟨_,rfl,_,_,_,_,rfl,rfl,SqT.of hp1,rfl,_,rfl,rfl,_,rfl,?_⟩
    rw[show(!decide (vT l=vT l))=false by rw[decide_eq_true rfl];rfl]
    (try refine iteF ?_)
    refine⟨_,rfl,_,_,_,_,rfl,rfl,SqT.of hp2,rfl,_,rfl,rfl,_,rfl,?_⟩
    rw[show(!decide (vT l=vT l))=false by rw[decide_eq_true rfl];rfl]
    (try refine iteF ?_)
    refine⟨_,rfl,(by show 3≤sizeLine;decide),fun q1 nq=>?_⟩
    have t1:=a0g (o:=.lst [V.int 5,V.int 3,V.int 2]) nq
    have ll:LenV K (vT l) (upd H q1 (.lst [V.int 5,V.int 3,V.int 2])) l.length:=⟨by rw[b0p];omega,(b0p l).symm⟩
    obtain⟨q,q6,aq⟩:=five_at L
    refine⟨_,rfl,_,_,rfl,ll,_,_,rfl,rfl,_,_,_,_,rfl,rfl,SqL.of a0d,aq,l,q,_,rfl,⟨L,q6,rfl⟩,fun lp H2 wss s2 hl W w1 w5=>?_⟩
    have s12:=t1.trans s2
    refine⟨lp,rfl,⟨_,SqL.of hl⟩,h0g (K:=K) (a:=lp) (xs:=wss.map vT) (fun i σ H3=>∃v4,σ=[some so,some (vT l),some (.ref p1),some (.ref p2),v4]∧Same H2 H3) ⟨_,rfl,Same.refl _⟩ (fun i σ H3 _ ⟨_,_,e⟩=>SqL.of (e _ _ hl)) ?_ ?_⟩
    · rintro i y σ H3 hi ⟨v4,rfl,q3⟩
      obtain⟨ws,hws,rfl⟩:=wss_of hi
      obtain⟨wa,wl⟩:=W.al ws hws
      have s13:=s12.trans q3
      have M1:MOk n1 l ws:=⟨⟨L,wa,by omega⟩,b1⟩
      have M2:MOk n2 l ws:=⟨⟨L,wa,by omega⟩,b2⟩
      refine⟨_,rfl,_,rfl,_,rfl,_,rfl,R,nm,p,_,_,l,n1,st1,tb1,en1,ws,m,m,m,hS,rfl,⟨hso.same s13.t,h1.same s13.t,M1,by omega⟩,fun u1 H4 s4 f4 _=>?_⟩
      have s14:=s13.trans s4
      refine⟨_,rfl,_,rfl,_,rfl,R,nm,p,_,_,l,n2,st2,tb2,en2,ws,m,m,m,hS,rfl,⟨hso.same s14.t,h2.same s14.t,M2,by omega⟩,fun u2 H5 s5 f5 _=>?_⟩
      rw[← he ws wa]at f5
      refine⟨R,nm,p,_,_,_,_,hS,rfl,⟨hso.same (s14.trans s5).t,R.same s5.t f4,f5⟩,_,rfl,?_⟩
      (try refine iteF ?_)
      exact⟨_,rfl,q3.trans (s4.trans s5)⟩
    · rintro σ H3 ⟨v4,rfl,q3⟩
      exact k _ (s12.trans q3)
def sp_lcuts(T:Txt K mg t):Sp:=fun vs H Q _=>∃(R:KindR Pr w K mg base),∃nm p so kv ov hv l n k st1 tb1 en1 st2 tb2 en2 ws,So T R nm p∧vs=[so,kv,ov,hv,vT ws]∧(SortAt H so nm p∧KAt R.C R.fs H kv∧MachG R l n st1 tb1 en1 1 1 1 ov H∧MachG R l k st2 tb2 en2 1 1 1 hv H∧MOk n l ws∧MOk k l ws∧n+k≤20∧ws.length≤6)∧
  ∀H',Same H H'→Q (.bl true) H'
theorem ok_law_cuts(T:Txt K mg t):FnOk Pr w K mg base CX0 46 t.a1w t.w0h ["_law_sort_here","_law_kind_here","_law_a","_law_b","_law_word"] (sp_lcuts (w:=w) (base:=base) T):=by
  refine T.w0k.ok sc_law_cuts (fun vs H Q E h=>?_) (fun cdv A outer s H vs Q E hr h=>?_)
  · obtain⟨R,nm,p,so,kv,ov,hv,l,n,k,st1,tb1,en1,st2,tb2,en2,ws,_,rfl,_⟩:=h
    rfl
  · obtain⟨R,nm,pp,so,kv,ov,hv,l,n,j,st1,tb1,en1,st2,tb2,en2,ws,hS,rfl,⟨hso,hk,ho,hh,M1,M2,hz,w6⟩,k⟩:=h
    have sl:1000 < sizeLine:=by decide
    refine⟨_,(a0c (a0s (i:=5) sc_law_cuts.nd rfl (Or.inl rfl) (a0f (c0l T) hr.m rfl T.s0v T.s0f.kp T.r0y .nil a0k (a0a (pv 0) a0b))) (a0c (c0i PassesOwn.never rfl (b0v rfl T.z_range (a0a (a0x b0x (a0z b0l (by rfl) T.z_len PySem.boot_len (a0a (pv 4) a0b)) a0e) a0b)) (a0u (i:=6) sc_law_cuts.nd rfl (Or.inl rfl)) (a0c (a0s (i:=7) sc_law_cuts.nd rfl (Or.inl rfl) (a0f (e0y T) hr.m rfl T.a1a T.a1x.kp T.a1l .nil a0k (a0a (pv 1) (a0a (pv 2) (a0a (d0k sl_str (pv 4) e0v (e0u (pv 6))) a0b))))) (a0i (a0s (i:=5) sc_law_cuts.nd rfl (Or.inl rfl) (a0f (k0d T) hr.m rfl T.x0w T.w0a.kp T.x0l .nil a0k (a0a (pv 0) (a0a (pv 5) (a0a (a0f (i0q T) hr.m rfl T.t0e T.v0c.kp T.u0l .nil a0k (a0a (pv 0) (a0a (pv 7) (a0a (a0f (e0y T) hr.m rfl T.a1a T.a1x.kp T.a1l .nil a0k (a0a (pv 1) (a0a (pv 3) (a0a (d0k sl_str (pv 4) (e0u (pv 6)) e0v) a0b)))) a0b)))) a0b)))))))) (a0i (a0m (a0f (k0c T) hr.m rfl T.x0g T.w0f.kp T.x0k .nil a0k (a0a (pv 0) (a0a (a0f (e0y T) hr.m rfl T.a1a T.a1x.kp T.a1l .nil a0k (a0a (pv 1) (a0a (a0f (b0o T) hr.m rfl T.b1d T.a1s.kp T.a1i .nil a0k (a0a (pv 1) (a0a (pv 2) (a0a (pv 3) a0b)))) (a0a (pv 4) a0b)))) (a0a (pv 5) a0b)))))))),?_⟩
    refine⟨_,rfl,R,nm,pp,_,hS,rfl,hso,fun z H1 s1 f1=>?_⟩
    refine⟨_,rfl,_,_,rfl,(show LenV K (vT ws) H1 ws.length from⟨by rw[b0p];omega,(b0p ws).symm⟩),_,_,rfl,rfl,_,rfl,(by omega),(by omega),h0f (lo:=0) (n:=((ws.length:Int)+1).toNat) (fun i σ H2=>∃tot v5 v6,σ=[some so,some kv,some ov,some hv,some (vT ws),some tot,v5,v6]∧Same H H2∧R.is H2 tot (sm R.S (fun q=>R.S.mul (wgh R.S l n st1 tb1 en1 (ws.take q)) (wgh R.S l j st2 tb2 en2 (ws.drop q))) i)∧R.S.lv (ws.length+4) i (sm R.S (fun q=>R.S.mul (wgh R.S l n st1 tb1 en1 (ws.take q)) (wgh R.S l j st2 tb2 en2 (ws.drop q))) i)) ⟨_,_,_,rfl,s1,f1,R.S.lv_zero _⟩ ?_ ?_⟩
    · rintro i σ H2 hi ⟨tot,v5,v6,rfl,q,f,z⟩
      have hi:i≤ws.length:=by omega
      have N1:MOk n l (ws.take i):=M1.sub (fun c hc=>List.mem_of_mem_take hc) (by rw[List.length_take];omega)
      have N2:MOk j l (ws.drop i):=M2.sub (fun c hc=>List.mem_of_mem_drop hc) (by rw[List.length_drop];omega)
      have l1:(ws.take i).length=i:=by rw[List.length_take];omega
      have l2:(ws.drop i).length=ws.length - i:=List.length_drop
      refine⟨_,rfl,_,rfl,_,rfl,_,rfl,_,rfl,_,rfl,(by rw[b0p];omega),?_⟩
      rw[sl_to (by omega) (by omega),show((0:Int)+(i:Int)).toNat=i by omega]
      refine⟨R,_,_,l,n,st1,tb1,en1,ws.take i,1,1,1,rfl,⟨hk.same q,ho.same q.t,N1,by decide⟩,fun fv H3 s3 f3 z3=>?_⟩
      have q3:=q.trans s3
      show c0b 7 fv [some so,some kv,some ov,some hv,some (vT ws),some tot,some (.int (0+(i:Int))),v6] H3 _
      refine⟨_,rfl,_,rfl,_,rfl,_,rfl,_,rfl,_,rfl,_,rfl,_,rfl,_,rfl,_,rfl,(by rw[b0p];omega),?_⟩
      rw[sl_from (by omega) (by omega),show((0:Int)+(i:Int)).toNat=i by omega]
      refine⟨R,_,_,l,j,st2,tb2,en2,ws.drop i,1,1,1,rfl,⟨hk.same q3,hh.same q3.t,N2,by decide⟩,fun gv H4 s4 f4 z4=>?_⟩
      have q4:=q3.trans s4
      rw[l1]at z3
      rw[l2]at z4
      have zm:=R.S.lv_mul _ _ _ _ z3 z4
      rw[show 1+i * 1+1+(1+(ws.length - i) * 1+1)=ws.length+4 by omega]at zm
      refine⟨R,nm,pp,_,_,_,_,_,100 * (1+i * 1+1),100 * (1+(ws.length - i) * 1+1),hS,rfl,⟨hso.same q4.t,R.same s4.t f3,f4,R.S.lv_sz _ _ _ (by decide) z3,R.S.lv_sz _ _ _ (by decide) z4,by omega⟩,fun mv H5 s5 f5=>?_⟩
      have q5:=q4.trans s5
      refine⟨R,nm,pp,_,_,_,_,_,100 * (ws.length+4),100 * (ws.length+4),hS,rfl,⟨hso.same q5.t,R.same (s3.trans (s4.trans s5)).t f,f5,R.S.lv_sz _ _ _ (by omega) z,R.S.lv_sz _ _ _ (by decide) zm,by omega⟩,fun tv H6 s6 f6=>?_⟩
      exact⟨_,_,_,rfl,q5.trans s6,f6,R.S.lv_add _ _ _ _ _ z zm⟩
    · rintro σ H2 ⟨tot,v5,v6,rfl,q,f,_⟩
      have en:((ws.length:Int)+1).toNat=ws.length+1:=by omega
      rw[en]at f
      refine⟨_,rfl,_,rfl,_,rfl,_,rfl,_,rfl,R,_,_,_,l,n,j,st1,tb1,en1,st2,tb2,en2,1,rfl,⟨hk.same q,ho.same q.t,hh.same q.t,M1.W.lo,hz,by decide⟩,fun jv H3 s3 mj=>?_⟩
      have q3:=q.trans s3
      refine⟨_,rfl,R,_,_,l,n+j,_,_,_,ws,2 * 1+1,1+1+1,1,rfl,⟨hk.same q3,mj,⟨M1.W,by omega⟩,by decide⟩,fun wv H4 s4 f4 _=>?_⟩
      rw[l0s]at f4
      exact⟨_,rfl,R,nm,pp,_,_,_,_,hS,rfl,⟨hso.same (q3.trans s4).t,f4,R.same (s3.trans s4).t f⟩,k _ (q3.trans s4)⟩
theorem MachG.up{R:KindR Pr w K mg base}{l:List Nat}{n:Nat}{st:Nat→R.S.W}{tb:Nat→Nat→Nat→R.S.W}{en:Nat→R.S.W}{a b c m:Nat}{v:V}{H:Hp}(h:MachG R l n st tb en a b c v H)(ha:a≤m)(hb:b≤m)(hc:c≤m):MachG R l n st tb en m m m v H:=by
  obtain⟨p,sv,tv,ev,rfl,hp,h1,h2,h3⟩:=h
  exact⟨p,sv,tv,ev,rfl,hp,Row.up ha h1,h2.mono (SameT.refl _) fun _ _ _ q=>Tab.up hb q,Row.up hc h3⟩
structure MD(S:SR)where
  n:Nat
  st:Nat→S.W
  tb:Nat→Nat→Nat→S.W
  en:Nat→S.W
section
variable{S:SR}{l:List Nat}{a b c:MD S}
def MD.g(l:List Nat)(m:MD S)(ws:List Nat):S.W:=wgh S l m.n m.st m.tb m.en ws
def MD.J(a b:MD S):MD S:=⟨a.n+b.n,cat S a.n a.st fun j=>S.mul (dotW S a.st a.en a.n) (b.st j),fun c=>blk S a.n (a.tb c) (fun i j=>S.mul (dotW S (a.tb c i) a.en a.n) (b.st j)) (b.tb c),cat S a.n (fun _=>S.zero) b.en⟩
def MD.A(a b:MD S):MD S:=⟨a.n+b.n,cat S a.n a.st b.st,fun c=>blk S a.n (a.tb c) (fun _ _=>S.zero) (b.tb c),cat S a.n a.en b.en⟩
def MD.T(a:MD S):MD S:=⟨a.n,a.en,fun c i j=>a.tb c j i,a.st⟩
def MD.C(a b:MD S):MD S:=⟨a.n * b.n,crs S b.n a.st b.st,fun c=>crsT S b.n (a.tb c) (b.tb c),crs S b.n a.en b.en⟩
theorem MD.Jw:(a.J b).g l=cv S (a.g l) (b.g l):=funext fun _=>l0s
theorem MD.Aw:(a.A b).g l=fun ws=>S.add (a.g l ws) (b.g l ws):=funext fun _=>wgh_added
theorem MD.Tw:a.T.g l=fun ws=>a.g l ws.reverse:=funext fun _=>wgh_turned
theorem MD.Cw:(a.C b).g l=fun ws=>S.mul (a.g l ws) (b.g l ws):=funext fun _=>wgh_crs
theorem pr1:(a.J b).T.g l=(b.T.J a.T).g l:=by
  rw[MD.Tw,MD.Jw,MD.Jw,MD.Tw,MD.Tw];exact funext fun ws=>cv_rev _ _ ws
theorem pr2:(a.J (b.A c)).g l=((a.J b).A (a.J c)).g l:=by
  rw[MD.Jw,MD.Aw,MD.Aw,MD.Jw,MD.Jw];exact funext fun ws=>cv_addR _ _ _ ws
theorem pr3:((b.A c).J a).g l=((b.J a).A (c.J a)).g l:=by
  rw[MD.Jw,MD.Aw,MD.Aw,MD.Jw,MD.Jw];exact funext fun ws=>cv_addL _ _ _ ws
theorem pr4:(a.C (b.A c)).g l=((a.C b).A (a.C c)).g l:=by
  rw[MD.Cw,MD.Aw,MD.Aw,MD.Cw,MD.Cw];exact funext fun ws=>S.distrib _ _ _
theorem pr5:((a.J b).J c).g l=(a.J (b.J c)).g l:=by
  rw[MD.Jw,MD.Jw,MD.Jw,MD.Jw];exact funext fun ws=>cv_assoc _ _ _ ws
theorem pr6:(a.C b).T.g l=(b.T.C a.T).g l:=by
  rw[MD.Tw,MD.Cw,MD.Cw,MD.Tw,MD.Tw];exact funext fun ws=>S.mul_comm _ _
end
def MM(R:KindR Pr w K mg base)(l:List Nat)(m:MD R.S)(k:Nat)(v:V)(H:Hp):Prop:=MachG R l m.n m.st m.tb m.en k k k v H
section
variable{R:KindR Pr w K mg base}{l:List Nat}{a b c:MD R.S}{j k:Nat}{v u kv:V}{H H':Hp}{Q:VK}
theorem MM.same(s:SameT H H')(h:MM R l a k v H):MM R l a k v H':=MachG.same s h
theorem MM.up(h:MM R l a j v H)(e:j≤k):MM R l a k v H:=MachG.up h e e e
theorem b0r(hk:KAt R.C R.fs H kv)(ha:MM R l a k v H)(hb:MM R l b k u H)(L:LOk l)(hn:a.n+b.n≤20)(hm:k≤100)(f:∀v H',Same H H'→MM R l (a.J b) (3 * k) v H'→Q v H'):sp_joined w K mg base [kv,v,u] H Q E0:=
  ⟨R,kv,v,u,l,a.n,b.n,_,_,_,_,_,_,k,rfl,⟨hk,ha,hb,L,hn,hm⟩,fun v H' s h=>f v H' s (MachG.up h (by omega) (by omega) (by omega))⟩
theorem g0s(hk:KAt R.C R.fs H kv)(ha:MM R l a k v H)(hb:MM R l b k u H)(L:LOk l)(hn:a.n+b.n≤20)(f:∀v H',Same H H'→MM R l (a.A b) k v H'→Q v H'):sp_added w K mg base [kv,v,u] H Q E0:=
  ⟨R,kv,v,u,l,a.n,b.n,_,_,_,_,_,_,k,k,k,rfl,⟨hk,ha,hb,L,hn⟩,f⟩
theorem d0s(ha:MM R l a k v H)(L:LOk l)(hn:a.n≤20)(f:∀v H',Same H H'→MM R l a.T k v H'→Q v H'):sp_turned w K mg base [kv,v] H Q E0:=
  ⟨R,kv,v,l,a.n,_,_,_,k,k,k,rfl,⟨ha,L,hn⟩,f⟩
theorem d0t(hk:KAt R.C R.fs H kv)(ha:MM R l a 1 v H)(hb:MM R l b 1 u H)(L:LOk l)(h1:a.n≤100)(h2:b.n≤100)(hn:a.n * b.n≤20)(f:∀v H',Same H H'→MM R l (a.C b) 2 v H'→Q v H'):l0v w K mg base [kv,v,u] H Q E0:=
  ⟨R,kv,v,u,l,a.n,b.n,_,_,_,_,_,_,rfl,⟨hk,ha,hb,L,h1,h2,hn⟩,f⟩
def AL(R:KindR Pr w K mg base)(l:List Nat)(o1 o2:V)(H:Hp):Prop:=∃m1 m2:MD R.S,MM R l m1 9 o1 H∧MM R l m2 9 o2 H∧m1.n≤32∧m2.n≤32∧m1.g l=m2.g l
theorem AL.same{o1 o2:V}(s:SameT H H')(h:AL R l o1 o2 H):AL R l o1 o2 H':=by
  obtain⟨m1,m2,h1,h2,r⟩:=h
  exact⟨m1,m2,h1.same s,h2.same s,r⟩
def PairOk(R:KindR Pr w K mg base)(l:List Nat)(u:V)(H:Hp):Prop:=∃p o1 o2,u=.ref p∧H p=some (.tup [o1,o2])∧AL R l o1 o2 H
theorem PairOk.same{u:V}(s:SameT H H')(h:PairOk R l u H):PairOk R l u H':=by
  obtain⟨p,o1,o2,rfl,hp,a⟩:=h
  exact⟨p,o1,o2,rfl,s _ _ hp,a.same s⟩
structure PI(R:KindR Pr w K mg base)(l:List Nat)(H1 Hk:Hp)(lp:Addr)(ps:List V):Prop where
  s:Same H1 Hk
  h:Hk lp=some (.lst ps)
  a:∀u∈ps,PairOk R l u Hk
theorem PI.step{H1 Hk:Hp}{lp pp:Addr}{ps:List V}{o1 o2:V}(P:PI R l H1 Hk lp ps)(n:H1 lp=none)(s:Same Hk H')(np:H' pp=none)(al:AL R l o1 o2 H') :
    PI R l H1 (upd (upd H' pp (.tup [o1,o2])) lp (.lst (ps++[.ref pp]))) lp (ps++[.ref pp]):=by
  have s2:=s.trans (a0g (o:=.tup [o1,o2]) np)
  have st:=c0g (o:=.lst (ps++[.ref pp])) (s2 _ _ P.h)
  refine⟨fun c u hc=>by rw[b0b (a0v hc n)];exact s2 _ _ (P.s c u hc),a0d,fun u hu=>?_⟩
  rcases List.mem_append.mp hu with h | h
  · exact(P.a u h).same (s2.t.trans st)
  · cases List.mem_singleton.mp h
    exact⟨pp,o1,o2,rfl,st _ _ a0d,al.same ((a0g np).t.trans st)⟩
theorem PI.new{H1:Hp}{lp pp:Addr}{o1 o2:V}(s:Same H1 H')(np:H' pp=none)(nl:upd H' pp (.tup [o1,o2]) lp=none)(al:AL R l o1 o2 H') :
    PI R l H1 (upd (upd H' pp (.tup [o1,o2])) lp (.lst [.ref pp])) lp [.ref pp]:=by
  have s2:=a0g (o:=.tup [o1,o2]) np
  have s3:=a0g (o:=.lst [.ref pp]) nl
  refine⟨s.trans (s2.trans s3),a0d,fun u hu=>?_⟩
  cases List.mem_singleton.mp hu
  exact⟨pp,o1,o2,rfl,s3 _ _ a0d,al.same (s2.trans s3).t⟩
end
def sp_pairs(w:World)(K:PySem.W.Frag)(mg:Str→Option Value)(base:Heap):Sp:=fun vs H Q _=>∃(R:KindR Pr w K mg base),∃kv av bv cv l a b c,vs=[kv,av,bv,cv]∧(KAt R.C R.fs H kv∧MM R l a 1 av H∧MM R l b 1 bv H∧MM R l c 1 cv H∧LOk l∧a.n≤3∧b.n≤3∧c.n≤3)∧
  ∀p H' ps,Same H H'→H' p=some (.lst ps)→(∀u∈ps,PairOk R l u H')→Q (.ref p) H'
theorem ok_law_pairs(T:Txt K mg t):FnOk Pr w K mg base CX0 46 t.z0i t.u0z ["_law_kind_here","_law_a","_law_b","_law_c"] (sp_pairs w K mg base):=by
  refine T.t0z.ok sc_law_pairs (fun vs H Q E h=>?_) (fun cdv A outer s H vs Q E hr h=>?_)
  · obtain⟨R,kv,av,bv,cv,l,a,b,c,rfl,_⟩:=h
    rfl
  · obtain⟨R,kv,av,bv,cv,l,a,b,c,rfl,⟨hk,ha,hb,hc,L,na,nb,nc⟩,k⟩:=h
    have sl:1000 < sizeLine:=by decide
    have ab:a.n * b.n≤3 * 3:=Nat.mul_le_mul na nb
    have ba:b.n * a.n≤3 * 3:=Nat.mul_le_mul nb na
    have ac:a.n * c.n≤3 * 3:=Nat.mul_le_mul na nc
    have abc:a.n * (b.n+c.n)≤3 * 6:=Nat.mul_le_mul na (by omega)
    refine⟨_,(a0c (a0s (i:=4) sc_law_pairs.nd rfl (Or.inl rfl) (a0f (g0z T) hr.m rfl T.b1o T.b1w.kp T.b1q .nil a0k (a0a (pv 0) (a0a (pv 2) (a0a (pv 3) a0b))))) (a0c (a0s (i:=5) sc_law_pairs.nd rfl (Or.inl rfl) (c0p (a0a (b0q (a0a (a0f (d0u T) hr.m rfl T.z0u T.a1z.kp T.b1a .nil a0k (a0a (pv 0) (a0a (a0f (b0o T) hr.m rfl T.b1d T.a1s.kp T.a1i .nil a0k (a0a (pv 0) (a0a (pv 1) (a0a (pv 2) a0b)))) a0b))) (a0a (a0f (b0o T) hr.m rfl T.b1d T.a1s.kp T.a1i .nil a0k (a0a (pv 0) (a0a (a0f (d0u T) hr.m rfl T.z0u T.a1z.kp T.b1a .nil a0k (a0a (pv 0) (a0a (pv 2) a0b))) (a0a (a0f (d0u T) hr.m rfl T.z0u T.a1z.kp T.b1a .nil a0k (a0a (pv 0) (a0a (pv 1) a0b))) a0b)))) a0b))) a0b))) (a0c (b0f (g0e PySem.F.plainAttrs_list PySem.F.slot_list_append PySem.F.type_list_append b0y (pv 5) (a0a (b0q (a0a (a0f (b0o T) hr.m rfl T.b1d T.a1s.kp T.a1i .nil a0k (a0a (pv 0) (a0a (pv 1) (a0a (pv 4) a0b)))) (a0a (a0f (g0z T) hr.m rfl T.b1o T.b1w.kp T.b1q .nil a0k (a0a (pv 0) (a0a (a0f (b0o T) hr.m rfl T.b1d T.a1s.kp T.a1i .nil a0k (a0a (pv 0) (a0a (pv 1) (a0a (pv 2) a0b)))) (a0a (a0f (b0o T) hr.m rfl T.b1d T.a1s.kp T.a1i .nil a0k (a0a (pv 0) (a0a (pv 1) (a0a (pv 3) a0b)))) a0b)))) a0b))) a0b))) (a0c (b0f (g0e PySem.F.plainAttrs_list PySem.F.slot_list_append PySem.F.type_list_append b0y (pv 5) (a0a (b0q (a0a (a0f (b0o T) hr.m rfl T.b1d T.a1s.kp T.a1i .nil a0k (a0a (pv 0) (a0a (pv 4) (a0a (pv 1) a0b)))) (a0a (a0f (g0z T) hr.m rfl T.b1o T.b1w.kp T.b1q .nil a0k (a0a (pv 0) (a0a (a0f (b0o T) hr.m rfl T.b1d T.a1s.kp T.a1i .nil a0k (a0a (pv 0) (a0a (pv 2) (a0a (pv 1) a0b)))) (a0a (a0f (b0o T) hr.m rfl T.b1d T.a1s.kp T.a1i .nil a0k (a0a (pv 0) (a0a (pv 3) (a0a (pv 1) a0b)))) a0b)))) a0b))) a0b))) (a0c (b0f (g0e PySem.F.plainAttrs_list PySem.F.slot_list_append PySem.F.type_list_append b0y (pv 5) (a0a (b0q (a0a (a0f (d0v T) hr.m rfl T.y0n T.y0b.kp T.z0h .nil a0k (a0a (pv 0) (a0a (pv 1) (a0a (pv 4) a0b)))) (a0a (a0f (g0z T) hr.m rfl T.b1o T.b1w.kp T.b1q .nil a0k (a0a (pv 0) (a0a (a0f (d0v T) hr.m rfl T.y0n T.y0b.kp T.z0h .nil a0k (a0a (pv 0) (a0a (pv 1) (a0a (pv 2) a0b)))) (a0a (a0f (d0v T) hr.m rfl T.y0n T.y0b.kp T.z0h .nil a0k (a0a (pv 0) (a0a (pv 1) (a0a (pv 3) a0b)))) a0b)))) a0b))) a0b))) (a0c (b0f (g0e PySem.F.plainAttrs_list PySem.F.slot_list_append PySem.F.type_list_append b0y (pv 5) (a0a (b0q (a0a (a0f (b0o T) hr.m rfl T.b1d T.a1s.kp T.a1i .nil a0k (a0a (pv 0) (a0a (a0f (b0o T) hr.m rfl T.b1d T.a1s.kp T.a1i .nil a0k (a0a (pv 0) (a0a (pv 1) (a0a (pv 2) a0b)))) (a0a (pv 3) a0b)))) (a0a (a0f (b0o T) hr.m rfl T.b1d T.a1s.kp T.a1i .nil a0k (a0a (pv 0) (a0a (pv 1) (a0a (a0f (b0o T) hr.m rfl T.b1d T.a1s.kp T.a1i .nil a0k (a0a (pv 0) (a0a (pv 2) (a0a (pv 3) a0b)))) a0b)))) a0b))) a0b))) (a0c (b0f (g0e PySem.F.plainAttrs_list PySem.F.slot_list_append PySem.F.type_list_append b0y (pv 5) (a0a (b0q (a0a (a0f (d0u T) hr.m rfl T.z0u T.a1z.kp T.b1a .nil a0k (a0a (pv 0) (a0a (a0f (d0v T) hr.m rfl T.y0n T.y0b.kp T.z0h .nil a0k (a0a (pv 0) (a0a (pv 1) (a0a (pv 2) a0b)))) a0b))) (a0a (a0f (d0v T) hr.m rfl T.y0n T.y0b.kp T.z0h .nil a0k (a0a (pv 0) (a0a (a0f (d0u T) hr.m rfl T.z0u T.a1z.kp T.b1a .nil a0k (a0a (pv 0) (a0a (pv 2) a0b))) (a0a (a0f (d0u T) hr.m rfl T.z0u T.a1z.kp T.b1a .nil a0k (a0a (pv 0) (a0a (pv 1) a0b))) a0b)))) a0b))) a0b))) (a0i (a0m (pv 5)))))))))),?_⟩
    refine⟨_,rfl,_,rfl,_,rfl,g0s hk hb hc L (by omega) fun dv H1 s1 hd=>?_⟩
    have hk:=hk.same s1
    have ha:=ha.same s1.t
    have hb:=hb.same s1.t
    have hc:=hc.same s1.t
    show c0b 4 dv [some kv,some av,some bv,some cv,none,none] H1 _
    refine⟨_,rfl,_,rfl,_,rfl,_,rfl,b0r hk ha hb L (by omega) (by decide) fun v2 H2 s2 h2=>d0s h2 L (show a.n+b.n≤20 by omega) fun v3 H3 s3 h3=>?_⟩
    have q3:=s2.trans s3
    refine⟨_,rfl,_,rfl,_,rfl,d0s (hb.same q3.t) L (by omega) fun v4 H4 s4 h4=>?_⟩
    have q4:=q3.trans s4
    refine⟨_,rfl,_,rfl,d0s (ha.same q4.t) L (by omega) fun v5 H5 s5 h5=>b0r (hk.same (q4.trans s5)) (h4.same s5.t) h5 L (show b.n+a.n≤20 by omega) (by decide) fun v6 H6 s6 h6=>?_⟩
    have q6:=(q4.trans s5).trans s6
    refine⟨(by show 2≤sizeLine;decide),fun p1 n1=>⟨(by show 1≤sizeLine;decide),fun lp nl=>?_⟩⟩
    have n0:H1 lp=none:=none_back' (q6.trans (a0g n1)) nl
    have P:=PI.new (R:=R) (l:=l) q6 n1 nl ⟨_,_,(h3.same ((s4.trans s5).trans s6).t).up (by decide),h6.up (by decide),(show a.n+b.n≤32 by omega),(show b.n+a.n≤32 by omega),pr1⟩
    clear h2 h3 h4 h5 h6 s2 s3 s4 s5 s6 q3 q4 q6
    show c0b 5 (.ref lp) [some kv,some av,some bv,some cv,some dv,none] (upd (upd H6 p1 (.tup [v3,v6])) lp (.lst [.ref p1])) _
    revert P
    generalize upd (upd H6 p1 (.tup [v3,v6])) lp (.lst [.ref p1])=G
    intro P
    refine⟨_,rfl,.inl ⟨rfl,_,SqL.of P.h⟩,?_⟩
    refine⟨_,rfl,_,rfl,_,rfl,b0r (hk.same P.s) (ha.same P.s.t) (hd.same P.s.t) L (show a.n+(b.n+c.n)≤20 by omega) (by decide) fun v2 H2 s2 h2=>?_⟩
    have q2:=P.s.trans s2
    refine⟨_,rfl,_,rfl,_,rfl,_,rfl,b0r (hk.same q2) (ha.same q2.t) (hb.same q2.t) L (by omega) (by decide) fun v3 H3 s3 h3=>?_⟩
    have q3:=q2.trans s3
    refine⟨_,rfl,_,rfl,_,rfl,b0r (hk.same q3) (ha.same q3.t) (hc.same q3.t) L (by omega) (by decide) fun v4 H4 s4 h4=>g0s (hk.same (q3.trans s4)) (h3.same s4.t) h4 L (show a.n+b.n+(a.n+c.n)≤20 by omega) fun v5 H5 s5 h5=>?_⟩
    have z:=s2.trans (s3.trans (s4.trans s5))
    refine⟨(by show 2≤sizeLine;decide),fun p2 n2=>⟨_,_,_,rfl,rfl,(z.trans (a0g n2)) _ _ P.h,(show 1+1≤sizeLine by decide),?_⟩⟩
    have P':=P.step n0 z n2 ⟨_,_,(h2.same (s3.trans (s4.trans s5)).t).up (by decide),h5.up (by decide),(show a.n+(b.n+c.n)≤32 by omega),(show a.n+b.n+(a.n+c.n)≤32 by omega),pr2⟩
    clear h2 h3 h4 h5 s2 s3 s4 s5 q2 q3 z P
    revert P'
    generalize upd (upd H5 p2 (.tup [v2,v5])) lp (.lst ([.ref p1]++[.ref p2]))=G2
    intro P
    refine⟨_,rfl,.inl ⟨rfl,_,SqL.of P.h⟩,?_⟩
    refine⟨_,rfl,_,rfl,_,rfl,b0r (hk.same P.s) (hd.same P.s.t) (ha.same P.s.t) L (show(b.n+c.n)+a.n≤20 by omega) (by decide) fun v2 H2 s2 h2=>?_⟩
    have q2:=P.s.trans s2
    refine⟨_,rfl,_,rfl,_,rfl,_,rfl,b0r (hk.same q2) (hb.same q2.t) (ha.same q2.t) L (by omega) (by decide) fun v3 H3 s3 h3=>?_⟩
    have q3:=q2.trans s3
    refine⟨_,rfl,_,rfl,_,rfl,b0r (hk.same q3) (hc.same q3.t) (ha.same q3.t) L (by omega) (by decide) fun v4 H4 s4 h4=>g0s (hk.same (q3.trans s4)) (h3.same s4.t) h4 L (show b.n+a.n+(c.n+a.n)≤20 by omega) fun v5 H5 s5 h5=>?_⟩
    have z:=s2.trans (s3.trans (s4.trans s5))
    refine⟨(by show 2≤sizeLine;decide),fun p3 n3=>⟨_,_,_,rfl,rfl,(z.trans (a0g n3)) _ _ P.h,(show 2+1≤sizeLine by decide),?_⟩⟩
    have P':=P.step n0 z n3 ⟨_,_,(h2.same (s3.trans (s4.trans s5)).t).up (by decide),h5.up (by decide),(show(b.n+c.n)+a.n≤32 by omega),(show b.n+a.n+(c.n+a.n)≤32 by omega),pr3⟩
    clear h2 h3 h4 h5 s2 s3 s4 s5 q2 q3 z P
    revert P'
    generalize upd (upd H5 p3 (.tup [v2,v5])) lp (.lst ([.ref p1]++[.ref p2]++[.ref p3]))=G3
    intro P
    refine⟨_,rfl,.inl ⟨rfl,_,SqL.of P.h⟩,?_⟩
    refine⟨_,rfl,_,rfl,_,rfl,d0t (hk.same P.s) (ha.same P.s.t) (hd.same P.s.t) L (by omega) (show b.n+c.n≤100 by omega) (show a.n * (b.n+c.n)≤20 by omega) fun v2 H2 s2 h2=>?_⟩
    have q2:=P.s.trans s2
    refine⟨_,rfl,_,rfl,_,rfl,_,rfl,d0t (hk.same q2) (ha.same q2.t) (hb.same q2.t) L (by omega) (by omega) (by omega) fun v3 H3 s3 h3=>?_⟩
    have q3:=q2.trans s3
    refine⟨_,rfl,_,rfl,_,rfl,d0t (hk.same q3) (ha.same q3.t) (hc.same q3.t) L (by omega) (by omega) (by omega) fun v4 H4 s4 h4=>g0s (hk.same (q3.trans s4)) (h3.same s4.t) h4 L (show a.n * b.n+a.n * c.n≤20 by omega) fun v5 H5 s5 h5=>?_⟩
    have z:=s2.trans (s3.trans (s4.trans s5))
    refine⟨(by show 2≤sizeLine;decide),fun p4 n4=>⟨_,_,_,rfl,rfl,(z.trans (a0g n4)) _ _ P.h,(show 3+1≤sizeLine by decide),?_⟩⟩
    have P':=P.step n0 z n4 ⟨_,_,(h2.same (s3.trans (s4.trans s5)).t).up (by decide),h5.up (by decide),(show a.n * (b.n+c.n)≤32 by omega),(show a.n * b.n+a.n * c.n≤32 by omega),pr4⟩
    clear h2 h3 h4 h5 s2 s3 s4 s5 q2 q3 z P
    revert P'
    generalize upd (upd H5 p4 (.tup [v2,v5])) lp (.lst ([.ref p1]++[.ref p2]++[.ref p3]++[.ref p4]))=G4
    intro P
    refine⟨_,rfl,.inl ⟨rfl,_,SqL.of P.h⟩,?_⟩
    refine⟨_,rfl,_,rfl,_,rfl,_,rfl,b0r (hk.same P.s) (ha.same P.s.t) (hb.same P.s.t) L (by omega) (by decide) fun v2 H2 s2 h2=>?_⟩
    have q2:=P.s.trans s2
    refine⟨_,rfl,b0r (hk.same q2) h2 ((hc.same q2.t).up (by decide)) L (show a.n+b.n+c.n≤20 by omega) (by decide) fun v3 H3 s3 h3=>?_⟩
    have q3:=q2.trans s3
    refine⟨_,rfl,_,rfl,_,rfl,_,rfl,_,rfl,b0r (hk.same q3) (hb.same q3.t) (hc.same q3.t) L (by omega) (by decide) fun v4 H4 s4 h4=>b0r (hk.same (q3.trans s4)) ((ha.same (q3.trans s4).t).up (by decide)) h4 L (show a.n+(b.n+c.n)≤20 by omega) (by decide) fun v5 H5 s5 h5=>?_⟩
    have z:=s2.trans (s3.trans (s4.trans s5))
    refine⟨(by show 2≤sizeLine;decide),fun p5 n5=>⟨_,_,_,rfl,rfl,(z.trans (a0g n5)) _ _ P.h,(show 4+1≤sizeLine by decide),?_⟩⟩
    have P':=P.step n0 z n5 ⟨_,_,(h3.same (s4.trans s5).t).up (by decide),h5.up (by decide),(show a.n+b.n+c.n≤32 by omega),(show a.n+(b.n+c.n)≤32 by omega),pr5⟩
    clear h2 h3 h4 h5 s2 s3 s4 s5 q2 q3 z P
    revert P'
    generalize upd (upd H5 p5 (.tup [v3,v5])) lp (.lst ([.ref p1]++[.ref p2]++[.ref p3]++[.ref p4]++[.ref p5]))=G5
    intro P
    refine⟨_,rfl,.inl ⟨rfl,_,SqL.of P.h⟩,?_⟩
    refine⟨_,rfl,_,rfl,_,rfl,_,rfl,d0t (hk.same P.s) (ha.same P.s.t) (hb.same P.s.t) L (by omega) (by omega) (by omega) fun v2 H2 s2 h2=>d0s h2 L (show a.n * b.n≤20 by omega) fun v3 H3 s3 h3=>?_⟩
    have q3:=(P.s.trans s2).trans s3
    refine⟨_,rfl,_,rfl,_,rfl,d0s (hb.same q3.t) L (by omega) fun v4 H4 s4 h4=>?_⟩
    have q4:=q3.trans s4
    refine⟨_,rfl,_,rfl,d0s (ha.same q4.t) L (by omega) fun v5 H5 s5 h5=>d0t (hk.same (q4.trans s5)) (h4.same s5.t) h5 L (show b.n≤100 by omega) (show a.n≤100 by omega) (show b.n * a.n≤20 by omega) fun v6 H6 s6 h6=>?_⟩
    have z:=s2.trans (s3.trans (s4.trans (s5.trans s6)))
    refine⟨(by show 2≤sizeLine;decide),fun p6 n6=>⟨_,_,_,rfl,rfl,(z.trans (a0g n6)) _ _ P.h,(show 5+1≤sizeLine by decide),?_⟩⟩
    have P':=P.step n0 z n6 ⟨_,_,(h3.same (s4.trans (s5.trans s6)).t).up (by decide),h6.up (by decide),(show a.n * b.n≤32 by omega),(show b.n * a.n≤32 by omega),pr6⟩
    exact⟨_,rfl,k _ _ _ (s1.trans P'.s) P'.h P'.a⟩
theorem SqL.samx{H H':Hp}{a b:Addr}{xs:List V}(h:SqL K H b xs)(n:H a=none)(s:SameX a H H'):SqL K H' b xs:=by
  rcases h with (h | ⟨o,h⟩) | h
  · exact .inl (.inl (s _ _ (a0v h n) h))
  · exact .inl (.inr ⟨o,s _ _ (a0v h n) h⟩)
  · exact .inr h
theorem Pool.z{p l:List Nat}{i:Nat}(G:Pool p l i)(i1:1≤i)(i3:i≤3):AZ l:=⟨G.ok i1 i3,fun c hc=>G.az c (List.mem_append_right _ hc)⟩
def sp_law(K:PySem.W.Frag):Sp:=fun vs H Q _=>∃(a:Addr) (ns:List Int),vs=[.ref a]∧SqL K H a (ns.map V.int)∧ns.length≤63∧∀H',Q (.bl true) H'
theorem SqL.put{H0 H:Hp}{b lp:Addr}{xs:List V}{o:HO}(h0:SqL K H0 b xs)(n:H0 lp=none)(h:SqL K H b xs):SqL K (upd H lp o) b xs:=by
  have key:b≠lp→SqL K (upd H lp o) b xs:=fun e=>by
    rcases h with (h | ⟨o2,h⟩) | h
    · exact .inl (.inl (by rw[b0b e];exact h))
    · exact .inl (.inr ⟨o2,by rw[b0b e];exact h⟩)
    · exact .inr h
  rcases h0 with (h0 | ⟨o',h0⟩) | h0
  · exact key (a0v h0 n)
  · exact key (a0v h0 n)
  · exact .inr h0
theorem again_eq{S:SR}{l:List Nat}(L:LOk l){a:MD S}(h0:dotW S a.st a.en a.n=S.zero)(ws:List Nat)(hw:∀c∈ws,c∈l) :
    wgh S l (1+a.n) (b0h S 0) (fun c=>ctab S a.n a.st (a.tb c) a.en) (b0h S 0) ws=(MD.A ⟨([]:List Nat).length+1,fun i=>S.mul S.one (b0h S 0 i),fun c i=>srow S [] (l.getD c 0) i,b0h S ([]:List Nat).length⟩ (a.J ⟨1+a.n,b0h S 0,fun c=>ctab S a.n a.st (a.tb c) a.en,b0h S 0⟩)).g l ws:=by
  rw[MD.Aw,MD.Jw]
  show _=S.add (wgh S l (([]:List Nat).length+1) (fun i=>S.mul S.one (b0h S 0 i)) (fun c i=>srow S [] (l.getD c 0) i) (b0h S ([]:List Nat).length) ws) _
  rw[wgh_single L hw]
  exact star_left (a:=a.g l) (x:=wgh S l (1+a.n) (b0h S 0) (fun c=>ctab S a.n a.st (a.tb c) a.en) (b0h S 0)) h0 (fun u=>star_eq h0 u) ws
section
variable{T:Txt K mg t}{R:KindR Pr w K mg base}{nm:Str}{p:Int}{l:List Nat}{a b:MD R.S}{so kv o1 o2:V}{H:Hp}{Q:VK}
theorem rd_cuts{ws:List Nat}(hS:So T R nm p)(hso:SortAt H so nm p)(hk:KAt R.C R.fs H kv)(h1:MM R l a 1 o1 H)(h2:MM R l b 1 o2 H)(M1:MOk a.n l ws)(M2:MOk b.n l ws)(hn:a.n+b.n≤20)(hw:ws.length≤6)(k:∀H',Same H H'→Q (.bl true) H'):sp_lcuts (w:=w) (base:=base) T [so,kv,o1,o2,vT ws] H Q E0:=
  ⟨R,nm,p,so,kv,o1,o2,l,a.n,b.n,_,_,_,_,_,_,ws,hS,rfl,⟨hso,hk,h1,h2,M1,M2,hn,hw⟩,k⟩
theorem rd_empt{d:Addr}(hS:So T R nm p)(hd:Dr H d)(hso:SortAt H so nm p)(h1:MM R l a 1 o1 H)(hn:a.n≤20)(k:∀v H' st' en',SameX d H H'→Dr H' d→MachG R l a.n st' a.tb en' 1 1 1 v H'→dotW R.S st' en' a.n=R.S.zero→Q v H'):sp_empt (w:=w) (base:=base) T [.ref d,so,o1] H Q E0:=
  ⟨R,nm,p,d,so,o1,l,a.n,_,_,_,hS,rfl,⟨hd,hso,h1,hn⟩,k⟩
theorem rd_closed(hk:KAt R.C R.fs H kv)(h1:MM R l a 1 o1 H)(L:LOk l)(hn:a.n≤19)(he:dotW R.S a.st a.en a.n=R.S.zero)(k:∀v H',Same H H'→MM R l ⟨1+a.n,b0h R.S 0,fun c=>ctab R.S a.n a.st (a.tb c) a.en,b0h R.S 0⟩ 3 v H'→Q v H'):sp_closed w K mg base [kv,o1] H Q E0:=
  ⟨R,kv,o1,l,a.n,a.st,a.tb,a.en,rfl,⟨hk,h1,L,hn,he⟩,fun v H' s h=>k v H' s (MachG.up h (by decide) (by decide) (by decide))⟩
theorem rd_single0(hk:KAt R.C R.fs H kv)(L:LOk l)(h1:R.is H o1 R.S.one)(k:∀v H',Same H H'→MM R l ⟨([]:List Nat).length+1,fun i=>R.S.mul R.S.one (b0h R.S 0 i),fun c i=>srow R.S [] (l.getD c 0) i,b0h R.S ([]:List Nat).length⟩ 9 v H'→Q v H'):sp_single w K mg base [kv,vT l,V.str (Str.ofString ""),o1] H Q E0:=
  ⟨R,kv,l,[],o1,R.S.one,1,(by rw[show vT []=V.str (Str.ofString "") by rw[em_is];rfl]),⟨hk,⟨L,by simp,by simp⟩,by decide,h1,R.S.lv_mono _ _ _ _ (by decide) R.S.lv_one,by decide⟩,fun v H' s h=>k v H' s (MachG.up h (by decide) (by decide) (by decide))⟩
end
theorem ok_law(T:Txt K mg t):FnOk Pr w K mg base CX0 50 t.law t.d1a ["_law_script"] (sp_law K):=by
  refine T.c1t.ok sc_law (fun vs H Q E h=>?_) (fun cdv A outer s H vs Q E hr h=>?_)
  · obtain⟨a,ns,rfl,_⟩:=h
    rfl
  · obtain⟨a0,ns,rfl,hS0,hlen,k⟩:=h
    have sl:10000 < sizeLine:=by decide
    refine⟨_,(a0c (a0s (i:=1) sc_law.nd rfl (Or.inr rfl) (a0f (ok_law_state T) hr.m rfl T.t0v T.t0r.kp T.t0g .nil a0k (a0a (pv 0) a0b))) (a0c (a0s (i:=2) sc_law.nd rfl (Or.inr rfl) (a0f (ok_law_sort T) hr.m rfl T.x0b T.v0z.kp T.w0c .nil a0k (a0a (pv 1) (a0a (a0f (b0d T) hr.m rfl T.w0q T.x0v.kp T.x0r .nil a0k (a0a (pv 1) (a0a a0e a0b))) a0b)))) (a0c (a0s (i:=3) sc_law.nd rfl (Or.inl rfl) (a0f (ok_law_kind T) hr.m rfl T.x0d T.x0f.kp T.v0l .nil a0k (a0a (pv 2) a0b))) (a0c (a0s (i:=4) sc_law.nd rfl (Or.inr rfl) (a0f (l0i T) hr.m rfl T.r0q T.q0w.kp T.q0v .nil a0k (a0a (pv 1) a0b))) (a0c (a0s (i:=5) sc_law.nd rfl (Or.inr rfl) (b0a call_int1 (by rfl) T.z_int boot_int (a0a (e0w c0j (a0f (b0d T) hr.m rfl T.w0q T.x0v.kp T.x0r .nil a0k (a0a (pv 1) (a0a a0e a0b))) a0e (a0w _)) a0b))) (a0c (e0t (i₀:=6) (xs:=["_law_k"]) sc_law.nd rfl (Or.inl rfl) rfl (show b0m ["_law_script","_law_state_here","_law_sort_here","_law_kind_here","_law_letters_here","_law_broad","_law_three","_law_one_here","_law_other","_law_star","_law_again","_law_word","_law_cell"] (a0h s_law) _ from⟨rfl,by decide +kernel,by decide +kernel,by decide +kernel,by decide +kernel,by decide +kernel⟩) (b0v rfl T.z_range (a0a a0e a0b)) (fun _ _ _ _ _=>(a0u (i:=13) (by show List.Nodup (["_law_script","_law_state_here","_law_sort_here","_law_kind_here","_law_letters_here","_law_broad","_law_three","_law_one_here","_law_other","_law_star","_law_again","_law_word","_law_cell","_law_k"]:List Str);decide +kernel) rfl (Or.inl rfl))) (fun _ _ _ _ _=>(a0f (l0h (w:=w) (base:=base) T) hr.m rfl T.q0z T.q0y.kp T.r0f .nil a0k (a0a (pv 1) (a0a (pv 2) (a0a (pv 4) (a0a (a0x b0x (pv 5) (a0f (b0d (w:=w) (base:=base) T) hr.m rfl T.w0q T.x0v.kp T.x0r .nil a0k (a0a (pv 1) (a0a a0e a0b)))) (a0a g0w a0b)))))))) (a0c (ps_asg (a0f (l0j T) hr.m rfl T.r0c T.q0p.kp T.r0n .nil a0k (a0a (pv 1) (a0a (pv 2) (a0a (a0p b0t (pv 6) a0e (fun _ _=>rfl)) a0b)))) (pg_sub (pv 6) a0e j0j)) (a0c (c0i PassesOwn.never rfl (k0b (a0f (ok_law_pairs T) hr.m rfl T.u0r T.t0z.kp T.u0j .nil a0k (a0a (pv 3) (a0a (a0p b0t (pv 6) a0e (fun _ _=>rfl)) (a0a (a0p b0t (pv 6) a0e (fun _ _=>rfl)) (a0a (a0p b0t (pv 6) a0e (fun _ _=>rfl)) a0b)))))) (g0u rfl (b0k (a0u (i:=7) sc_law.nd rfl (Or.inl rfl)) (b0k (a0u (i:=8) sc_law.nd rfl (Or.inl rfl)) e0f))) (a0i (b0n (g0t (e0l (a0f (i0r T) hr.m rfl T.u0y T.t0m.kp T.u0w .nil a0k (a0a (pv 2) (a0a (pv 4) (a0a (pv 7) (a0a (pv 8) a0b))))))) (a0i (a0m g0w)) a0y))) (a0c (a0s (i:=9) sc_law.nd rfl (Or.inl rfl) (a0f (ok_closed T) hr.m rfl T.z0p T.a1f.kp T.b1e .nil a0k (a0a (pv 3) (a0a (a0p b0t (pv 6) a0e (fun _ _=>rfl)) a0b)))) (a0c (a0s (i:=10) sc_law.nd rfl (Or.inl rfl) (a0f (g0z T) hr.m rfl T.b1o T.b1w.kp T.b1q .nil a0k (a0a (pv 3) (a0a (a0f (ok_single T) hr.m rfl T.a1y T.z0w.kp T.z0v .nil a0k (a0a (pv 3) (a0a (pv 4) (a0a b0e (a0a (a0f (ok_law_one T) hr.m rfl T.z0m T.y0r.kp T.z0l .nil a0k (a0a (pv 2) a0b)) a0b))))) (a0a (a0f (b0o T) hr.m rfl T.b1d T.a1s.kp T.a1i .nil a0k (a0a (pv 3) (a0a (a0p b0t (pv 6) a0e (fun _ _=>rfl)) (a0a (pv 9) a0b)))) a0b))))) (a0c (b0n (g0t (e0l (a0f (i0r T) hr.m rfl T.u0y T.t0m.kp T.u0w .nil a0k (a0a (pv 2) (a0a (pv 4) (a0a (pv 9) (a0a (pv 10) a0b))))))) (a0i (a0m g0w)) a0y) (a0c (a0s (i:=11) sc_law.nd rfl (Or.inl rfl) b0e) (a0c (c0i PassesOwn.never rfl (k0b (d0k sl_list (pv 0) e0v (e0u a0e))) (a0u (i:=12) sc_law.nd rfl (Or.inl rfl)) (a0i (a0s (i:=11) sc_law.nd rfl (Or.inl rfl) (a0x f0g (pv 11) (a0p ix_str (pv 4) (a0x c0f (pv 12) (a0z b0l (by rfl) T.z_len PySem.boot_len (a0a (pv 4) a0b))) (fun _ _=>rfl)))))) (a0i (a0m (a0f (ok_law_cuts T) hr.m rfl T.x0h T.w0k.kp T.w0z .nil a0k (a0a (pv 2) (a0a (pv 3) (a0a (a0p b0t (pv 6) a0e (fun _ _=>rfl)) (a0a (a0p b0t (pv 6) a0e (fun _ _=>rfl)) (a0a (pv 11) a0b))))))))))))))))))))),?_⟩
    refine⟨_,rfl,a0,ns,rfl,hS0,hlen,fun a H1 na s1 d1=>?_⟩
    refine⟨_,rfl,_,rfl,a,4,rfl,⟨d1,by decide,by decide⟩,fun r2 H2 s2 d2 u2 w2=>⟨a,r2,rfl,⟨d2,u2,w2⟩,fun R nm p so H3 hS hso s3 d3=>?_⟩⟩
    refine⟨_,rfl,R,nm,p,_,hS,rfl,hso,fun kv H4 s4 hk=>?_⟩
    have d4:=d3.same s4
    have hso4:=hso.same s4.t
    have q4:SameX a H H4:=((SameX.of s1).trans (s2.trans s3)).trans (.of s4)
    clear hso d2 d3 s1 s2 s3 s4 u2 w2
    show c0b 3 kv [some (.ref a0),some (.ref a),some so,none,none,none,none,none,none,none,none,none,none] H4 _
    refine⟨_,rfl,a,rfl,d4,fun pl l il H5 s5 d5 G i1 i3=>?_⟩
    have Z:=G.z i1 i3
    have L:=Z.lo
    have ll:=L.h3
    have l1:=L.h1
    have hso5:=hso4.same (s5.tt d4)
    have hk5:=KAt.samx s5 d4 hk
    have q5:=q4.trans s5
    clear s5 hso4 hk d4 q4
    show c0b 4 (vT l) [some (.ref a0),some (.ref a),some so,some kv,none,none,none,none,none,none,none,none,none] H5 _
    refine⟨_,rfl,a,8,rfl,⟨d5,by decide,by decide⟩,fun r7 H7 s7 d7 u7 w7=>⟨rfl,.inr ⟨_,rfl,?_⟩⟩⟩
    obtain⟨bz,eb,hb⟩:∃z:Nat,(if decide (V.int r7=V.int 7)=true then(1:Int)else 0)=(z:Int)∧z≤1:=by
      split
      · exact⟨1,rfl,by decide⟩
      · exact⟨0,rfl,by decide⟩
    show c0b 5 (.int (if decide (V.int r7=V.int 7)=true then(1:Int)else 0)) [some (.ref a0),some (.ref a),some so,some kv,some (vT l),none,none,none,none,none,none,none,none] H7 _
    rw[eb]
    show c0b 5 (.int bz) [some (.ref a0),some (.ref a),some so,some kv,some (vT l),none,none,none,none,none,none,none,none] H7 _
    have hso7:=hso5.same (s7.tt d5)
    have hk7:=KAt.samx s7 d5 hk5
    have q7:=q5.trans s7
    clear s7 hso5 hk5 d5 eb q5
    refine⟨_,rfl,(by decide),(by decide),b0i (n:=3) (fun j ys H2=>∃ms:Nat→MD R.S,SameX a H7 H2∧Dr H2 a∧Ents (fun j u H=>MM R l (ms j) 1 u H∧(ms j).n≤3) ys j H2) (by decide) ⟨fun _=>⟨0,fun _=>R.S.zero,fun _ _ _=>R.S.zero,fun _=>R.S.zero⟩,SameX.refl _ _,d7,Ents.nil⟩ (fun j ys H2 ⟨_,_,_,q⟩=>q.1) ?_ ?_ ?_⟩
    · rintro j ys H2 hj ⟨ms,q,d2,e⟩
      refine⟨(show j < (3:Int).toNat by omega),fun y H' hy=>?_⟩
      obtain⟨rfl,rfl⟩:=hy
      refine⟨⟨[some _],rfl,rfl⟩,_,rfl,_,rfl,_,rfl,_,rfl,_,rfl,a,3,rfl,⟨d2,by decide,by decide⟩,fun r8 H8 s8 d8 u8 w8=>⟨_,_,rfl,rfl,?_⟩⟩
      obtain⟨n,e1,b1⟩:∃n:Nat,(bz:Int)+r8=n∧n≤3:=⟨((bz:Int)+r8).toNat,by omega,by omega⟩
      refine⟨R,nm,p,a,so,l,n,_,false,hS,rfl,⟨d8,hso7.same ((q.trans s8).tt d7),L,by omega,e1⟩,fun mv H9 st tb en s9 d9 hm=>?_⟩
      have s89:=s8.trans s9
      refine⟨fun i=>if i=j then⟨n,st,tb,en⟩else ms i,q.trans s89,d9,(e.mono fun i u hi w'=>?_).snoc ?_⟩
      · show MM R l (if i=j then _ else ms i) 1 u H9∧(if i=j then _ else ms i:MD R.S).n≤3
        rw[if_neg (by omega)]
        exact⟨w'.1.same (s89.tt d2),w'.2⟩
      · show MM R l (if j=j then _ else ms j) 1 mv H9∧(if j=j then _ else ms j:MD R.S).n≤3
        rw[if_pos rfl]
        exact⟨hm.g,b1⟩
    · rintro ys H2 ⟨ms,q,d2,e⟩
      show(3:Int).toNat≤3
      decide
    · rintro ys H8 lp ⟨ms,q,d8,e⟩ nl
      obtain⟨u0,g0,m0,c0⟩:=e.2 0 (by decide)
      obtain⟨u1,g1,m1,c1⟩:=e.2 1 (by decide)
      obtain⟨u2,g2,m2,c2⟩:=e.2 2 (by decide)
      have eys:ys=[u0,u1,u2]:=by
        have e1:=e.1
        match ys,e1,g0,g1,g2 with
        | [x,y,z],_,g0,g1,g2=>cases g0;cases g1;cases g2;rfl
      subst eys
      have s9:=a0g (o:=.lst [u0,u1,u2]) nl
      have h9:upd H8 lp (.lst [u0,u1,u2]) lp=some (.lst [u0,u1,u2]):=a0d
      have d9:=d8.same s9
      have q9:=q.trans (.of s9)
      have lpa:lp≠a:=fun z=>by obtain⟨xs,zz⟩:=d8.lst;rw[← z,nl]at zz;cases zz
      have m0:=m0.same s9.t
      have m1:=m1.same s9.t
      have m2:=m2.same s9.t
      revert s9 h9 d9 q9 m0 m1 m2
      generalize upd H8 lp (.lst [u0,u1,u2])=H9
      intro s9 h9 d9 q9 m0 m1 m2
      show c0b 6 (.ref lp) [some (.ref a0),some (.ref a),some so,some kv,some (vT l),some (.int bz),none,none,none,none,none,none,none] H9 _
      refine⟨_,rfl,_,rfl,_,rfl,_,_,_,_,rfl,rfl,SqL.of h9,rfl,rd_empt hS d9 (hso7.same (q9.tt d7)) m0 (by omega) fun mv H10 st' en' s10 d10 hm he=>?_⟩
      have h10:=s10 _ _ lpa h9
      have hS8:=SqL.samx hS0 na (q7.trans q)
      have hS11:SqL K (upd H10 lp (.lst [mv,u1,u2])) a0 (ns.map V.int):=SqL.put hS8 nl (SqL.samx hS0 na (q7.trans (q9.trans s10)))
      have st11:=c0g (o:=.lst [mv,u1,u2]) h10
      have hso11:=(hso7.same ((q9.trans s10).tt d7)).same st11
      have hk11:KAt R.C R.fs (upd H10 lp (.lst [mv,u1,u2])) kv:=by
        obtain⟨kp,dx,rfl,hkk⟩:=KAt.samx q d7 hk7
        have kl:kp≠lp:=a0v hkk nl
        obtain⟨kp',dx',e',hh⟩:=KAt.samx (q9.trans s10) d7 hk7
        cases e'
        exact⟨kp,_,rfl,by rw[b0b kl];exact hh⟩
      have ma:MM R l ⟨(ms 0).n,st',(ms 0).tb,en'⟩ 1 mv (upd H10 lp (.lst [mv,u1,u2])):=MachG.same st11 hm
      have mb:=m1.same ((s10.tt d9).trans st11)
      have mc:=m2.same ((s10.tt d9).trans st11)
      have h11:upd H10 lp (.lst [mv,u1,u2]) lp=some (.lst [mv,u1,u2]):=a0d
      refine⟨_,rfl,_,_,_,0,rfl,rfl,h10,rfl,?_⟩
      clear hS8 hm m0 m1 m2 hso7 hk7 q7 q9 d7 q d8 d9 d10 s10 s9 h9 h10 st11 e g0 g1 g2 nl na lpa
      show(_:L2.St→Hp→Prop) [some (.ref a0),some (.ref a),some so,some kv,some (vT l),some (.int bz),some (.ref lp),none,none,none,none,none,none] (upd H10 lp (.lst [mv,u1,u2]))
      revert hS11 hso11 hk11 ma mb mc h11
      generalize upd H10 lp (.lst [mv,u1,u2])=H11
      intro hS11 hso11 hk11 ma mb mc h11
      generalize em:(⟨(ms 0).n,st',(ms 0).tb,en'⟩:MD R.S)=am at ma
      have he:dotW R.S am.st am.en am.n=R.S.zero:=by rw[← em];exact he
      have ca:am.n≤3:=by rw[← em];exact c0
      clear em
      refine⟨_,rfl,_,rfl,_,_,_,_,rfl,rfl,SqL.of h11,rfl,_,rfl,_,_,_,_,rfl,rfl,SqL.of h11,rfl,_,rfl,_,_,_,_,rfl,rfl,SqL.of h11,rfl,R,kv,mv,u1,u2,l,am,ms 1,ms 2,rfl,⟨hk11,ma,mb,mc,L,ca,c1,c2⟩,fun pp H12 ps s12 h12 hps=>?_⟩
      refine⟨pp,rfl,⟨_,SqL.of h12⟩,h0g (K:=K) (a:=pp) (xs:=ps) (fun i σ H2=>∃v7 v8,σ=[some (.ref a0),some (.ref a),some so,some kv,some (vT l),some (.int bz),some (.ref lp),v7,v8,none,none,none,none]∧Same H12 H2) ⟨_,_,rfl,Same.refl _⟩ (fun i σ H2 _ ⟨_,_,_,x⟩=>SqL.of (x _ _ h12)) ?_ ?_⟩
      · rintro i y σ H2 hi ⟨v7,v8,rfl,q⟩
        obtain⟨tp,o1,o2,rfl,htp,m1,m2,z1,z2,y1,y2,ye⟩:=(hps y (List.mem_of_getElem? hi)).same q.t
        refine⟨tp,_,rfl,SqT.of htp,rfl,_,_,rfl,_,_,rfl,rfl,?_⟩
        refine⟨_,rfl,_,rfl,_,rfl,_,rfl,?_⟩
        refine⟨R,nm,p,so,l,o1,o2,m1.n,m1.st,m1.tb,m1.en,m2.n,m2.st,m2.tb,m2.en,9,hS,rfl,⟨(hso11.same s12.t).same q.t,z1,z2,L,y1,y2,by decide,fun ws _=>congrFun ye ws⟩,fun H3 s3=>⟨_,rfl,?_⟩⟩
        (try refine iteF ?_)
        exact⟨_,_,rfl,q.trans s3⟩
      · rintro σ H13 ⟨v7,v8,rfl,q13⟩
        have q:=s12.trans q13
        have h13:=q _ _ h11
        have hk:=hk11.same q
        have hso:=hso11.same q.t
        have ma:=ma.same q.t
        have mb:=mb.same q.t
        have mc:=mc.same q.t
        have hS13:=q.seq hS11
        clear q q13 s12 h12 hps h11 hk11 hso11 hS11
        refine⟨_,rfl,_,rfl,_,_,_,_,rfl,rfl,SqL.of h13,rfl,rd_closed hk ma L (by omega) he fun sv H14 s14 hs=>?_⟩
        show c0b 9 sv [some (.ref a0),some (.ref a),some so,some kv,some (vT l),some (.int bz),some (.ref lp),v7,v8,none,none,none,none] H14 _
        refine⟨_,rfl,_,rfl,_,rfl,_,rfl,R,nm,p,_,hS,rfl,hso.same s14.t,fun ov H15 s15 f15=>?_⟩
        have q15:=s14.trans s15
        refine rd_single0 (hk.same q15) L f15 fun ev H16 s16 hv=>?_
        have q16:=q15.trans s16
        have hs16:=hs.same (s15.trans s16).t
        refine⟨_,rfl,_,rfl,_,_,_,_,rfl,rfl,SqL.of (q16 _ _ h13),rfl,_,rfl,b0r (hk.same q16) ((ma.same q16.t).up (by decide)) hs16 L (show am.n+(1+am.n)≤20 by omega) (by decide) fun jv H17 s17 hj=>?_⟩
        have q17:=q16.trans s17
        refine g0s (hk.same q17) (hv.same s17.t) hj L (show(0+1)+(am.n+(1+am.n))≤20 by omega) fun gv H18 s18 hg=>?_
        have q18:=q17.trans s18
        show c0b 10 gv [some (.ref a0),some (.ref a),some so,some kv,some (vT l),some (.int bz),some (.ref lp),v7,v8,some sv,none,none,none] H18 _
        refine⟨_,rfl,_,rfl,_,rfl,_,rfl,?_⟩
        refine⟨R,nm,p,so,l,sv,gv,_,_,_,_,_,_,_,_,9,hS,rfl,⟨hso.same q18.t,(hs16.same (s17.trans s18).t).up (by decide),hg,L,(show 1+am.n≤32 by omega),(show(0+1)+(am.n+(1+am.n))≤32 by omega),by decide,fun ws hw=>again_eq L he ws hw⟩,fun H19 s19=>⟨_,rfl,?_⟩⟩
        (try refine iteF ?_)
        have q19:=q18.trans s19
        have h19:=q19 _ _ h13
        have hk:=hk.same q19
        have hso:=hso.same q19.t
        have mb:=mb.same q19.t
        have mc:=mc.same q19.t
        have hS19:=q19.seq hS13
        clear q15 q16 q17 q18 q19 s14 s15 s16 s17 s18 s19 hs hs16 hv hj hg ma f15 hS13 h13
        refine⟨_,rfl,_,rfl,_,_,rfl,hS19,fun c1' hc1=>?_⟩
        have ec:cutV (ns.map V.int) none (some 5)=(ns.take 5).map V.int:=by
          rw[show(5:Int)=((5:Nat):Int)from rfl,cut_take,List.map_take]
        have t1:=a0g (o:=.lst (cutV (ns.map V.int) none (some 5))) hc1
        have k1:=a0d (H:=H19) (a:=c1') (o:=.lst (cutV (ns.map V.int) none (some 5)))
        rw[ec]at k1
        clear hc1
        revert t1 k1
        rw[ec]
        generalize upd H19 c1' (.lst ((ns.take 5).map V.int))=H20
        intro t1 k1
        refine⟨c1',rfl,⟨_,SqL.of k1⟩,h0g (K:=K) (a:=c1') (xs:=(ns.take 5).map V.int) (fun i σ H2=>∃ws v12,σ=[some (.ref a0),some (.ref a),some so,some kv,some (vT l),some (.int bz),some (.ref lp),v7,v8,some sv,some gv,some (vT ws),v12]∧H2=H20∧(∀c∈ws,c∈l)∧ws.length=i) ⟨[],_,(by rw[show vT []=V.str (Str.ofString "") by rw[em_is];rfl];rfl),rfl,by simp,rfl⟩ (fun i σ H2 _ ⟨_,_,_,x,_⟩=>by rw[x];exact SqL.of k1) ?_ ?_⟩
        · rintro i y σ H2 hi ⟨ws,v12,rfl,rfl,hw,hl⟩
          obtain⟨zc,rfl⟩:∃z,y=V.int z:=by
            rw[List.getElem?_map]at hi
            cases e:(ns.take 5)[i]? with
            | none=>rw[e]at hi;cases hi
            | some z=>rw[e]at hi;exact⟨z,(Option.some.inj hi).symm⟩
          have il:i < 5:=by
            have:=(List.getElem?_eq_some_iff.mp hi).1
            rw[List.length_map,List.length_take]at this
            omega
          have f0:=Int.fmod_nonneg_of_pos zc (show(0:Int) < l.length by omega)
          have f1:=Int.fmod_lt_of_pos zc (show(0:Int) < l.length by omega)
          obtain⟨z,ez,z0,z1⟩:∃z,zc.fmod (l.length:Int)=z∧0≤z∧z < l.length:=⟨_,rfl,f0,f1⟩
          obtain⟨c0',hc⟩:∃c,l[z.toNat]? = some c:=⟨l[z.toNat]'(by omega),by simp⟩
          have ac:atI (tx l).cps.toList (zc.fmod (l.length:Int))=some c0':=by
            have e:z=((z.toNat:Nat):Int):=by omega
            rw[ez,e]
            exact e0k (by show l.toArray.toList[_]? = _;simpa using hc)
          refine⟨_,rfl,_,rfl,_,rfl,_,rfl,_,_,rfl,(show LenV K (vT l) H2 l.length from⟨by rw[b0p];omega,(b0p l).symm⟩),_,_,rfl,rfl,(show(l.length:Int)≠0 by omega),?_⟩
          refine⟨_,_,_,rfl,rfl,(by rw[b0p];omega),ac,_,_,rfl,rfl,(by show(tx ws).length+1≤_;rw[b0p];omega),?_⟩
          have e1:tx ws++(⟨#[c0']⟩:Str)=tx (ws++[c0']):=tx_app ws [c0']
          refine⟨ws++[c0'],_,(by rw[e1];rfl),rfl,fun c hc'=>?_,by rw[List.length_append,hl];rfl⟩
          rcases List.mem_append.mp hc' with h | h
          · exact hw c h
          · cases List.mem_singleton.mp h
            exact List.mem_of_getElem? hc
        · rintro σ H2 ⟨ws,v12,rfl,rfl,hw,hl⟩
          have w5:ws.length≤5:=by rw[hl,List.length_map,List.length_take];omega
          refine⟨_,rfl,_,rfl,_,rfl,_,_,_,_,rfl,rfl,SqL.of (t1 _ _ h19),rfl,_,rfl,_,_,_,_,rfl,rfl,SqL.of (t1 _ _ h19),rfl,_,rfl,rd_cuts hS (hso.same t1.t) (hk.same t1) (mb.same t1.t) (mc.same t1.t) ⟨⟨L,hw,by omega⟩,by omega⟩ ⟨⟨L,hw,by omega⟩,by omega⟩ (by omega) (by omega) fun H3 _=>k _⟩
theorem law_binds(T:Txt K mg t):∀(s:Shared) (u:Value),BindsTo s t.d1a ⟨[u],[]⟩ [("_law_script",u)]:=by
  obtain⟨oc,od,kV,doc,pm,an,cdv,ct,osl,e,_,_⟩:=T.c1t.ex
  rw[e]
  exact fun s u=>.of_eq rfl
end
abbrev NS(K:PySem.W.Frag)(x:Str)(a:Addr):Prop:=PySem.W.nsIn K mainGlobals x=some (some (.ref a))
abbrev KI(K:PySem.W.Frag)(a:Addr):Prop:=PySem.W.keepIn K (.ref a)=true
abbrev FX(K:PySem.W.Frag)(n q:Str)(s:Stmt)(a:Addr):Prop:=∃d,Fun K n q s a d
theorem fx{K:PySem.W.Frag}{x q:Str}{s:Stmt}{f:Addr}{b:Value}{u v:Option Addr}{w:Array (Option Value)}{c d e g j:Value}(l:K.lookup f=some ⟨b,u,.func (PySem.W.fnOf x q (c0n s) (c0c s) (a0h s) .none c d e v g j),w⟩)(h:PySem.W.codeIn K g q=true)(k:KI K f):FX K x q s f:=⟨_,fun_mk l h k⟩
theorem bn1{K:PySem.W.Frag}{x q:Str}{s:Stmt}{f:Addr}{fd:FuncData}{p0:Str}(F:Fun K x q s f fd)(h:∀(c d e:Value) (v:Option Addr) (g j:Value) (u0:Value),bindArgs (PySem.W.fnOf x q (c0n s) (c0c s) (a0h s) .none c d e v g j) ⟨[u0],[]⟩=pure (([p0]:List Str).zip [u0]):=by intros;rfl):Binds K fd [p0] []:=F.binds fun c d e v g j us hl=>match us,hl with | [u0],_=>h c d e v g j u0
theorem bn2{K:PySem.W.Frag}{x q:Str}{s:Stmt}{f:Addr}{fd:FuncData}{p0 p1:Str}(F:Fun K x q s f fd)(h:∀(c d e:Value) (v:Option Addr) (g j:Value) (u0 u1:Value),bindArgs (PySem.W.fnOf x q (c0n s) (c0c s) (a0h s) .none c d e v g j) ⟨[u0,u1],[]⟩=pure (([p0,p1]:List Str).zip [u0,u1]):=by intros;rfl):Binds K fd [p0,p1] []:=F.binds fun c d e v g j us hl=>match us,hl with | [u0,u1],_=>h c d e v g j u0 u1
theorem bn3{K:PySem.W.Frag}{x q:Str}{s:Stmt}{f:Addr}{fd:FuncData}{p0 p1 p2:Str}(F:Fun K x q s f fd)(h:∀(c d e:Value) (v:Option Addr) (g j:Value) (u0 u1 u2:Value),bindArgs (PySem.W.fnOf x q (c0n s) (c0c s) (a0h s) .none c d e v g j) ⟨[u0,u1,u2],[]⟩=pure (([p0,p1,p2]:List Str).zip [u0,u1,u2]):=by intros;rfl):Binds K fd [p0,p1,p2] []:=F.binds fun c d e v g j us hl=>match us,hl with | [u0,u1,u2],_=>h c d e v g j u0 u1 u2
theorem bn4{K:PySem.W.Frag}{x q:Str}{s:Stmt}{f:Addr}{fd:FuncData}{p0 p1 p2 p3:Str}(F:Fun K x q s f fd)(h:∀(c d e:Value) (v:Option Addr) (g j:Value) (u0 u1 u2 u3:Value),bindArgs (PySem.W.fnOf x q (c0n s) (c0c s) (a0h s) .none c d e v g j) ⟨[u0,u1,u2,u3],[]⟩=pure (([p0,p1,p2,p3]:List Str).zip [u0,u1,u2,u3]):=by intros;rfl):Binds K fd [p0,p1,p2,p3] []:=F.binds fun c d e v g j us hl=>match us,hl with | [u0,u1,u2,u3],_=>h c d e v g j u0 u1 u2 u3
theorem bn5{K:PySem.W.Frag}{x q:Str}{s:Stmt}{f:Addr}{fd:FuncData}{p0 p1 p2 p3 p4:Str}(F:Fun K x q s f fd)(h:∀(c d e:Value) (v:Option Addr) (g j:Value) (u0 u1 u2 u3 u4:Value),bindArgs (PySem.W.fnOf x q (c0n s) (c0c s) (a0h s) .none c d e v g j) ⟨[u0,u1,u2,u3,u4],[]⟩=pure (([p0,p1,p2,p3,p4]:List Str).zip [u0,u1,u2,u3,u4]):=by intros;rfl):Binds K fd [p0,p1,p2,p3,p4] []:=F.binds fun c d e v g j us hl=>match us,hl with | [u0,u1,u2,u3,u4],_=>h c d e v g j u0 u1 u2 u3 u4
theorem txt_mk{K:PySem.W.Frag}{h:Heap}{mg:Str→Option Value}(X:K.In h)(G:h.Ns mainGlobals mg){A0 A1 A2 A3 A4 A5 A6 A7 A8 A9 A10 A11 A12 A13 A14 A15 A16 A17 A18 A19 A20 A21 A22 A23 A24 A25 A26 A27 A28 A29 A30 A31 A32 A33 A34 A35 A36 A37 A38 A39 A40 A41 A42 A43 A44 A45 A46 A47 A48 A49 A50 A51 A52 A53 A54 A55 A56 A57 A58 A59 A60 A61 A62 A63 A64 A65 A66 A67 A68 A69 A70 A71 A72 A73 A74 A75 A76 A77 A78 A79 A80 A81 A82:Addr}
 (N0:NS K "Fractions" A0)
 (pg0:PySem.W.plainGet K A0 Str.empty=true)
 (hd0:PySem.W.hasDictIn K A0=true)
 (po0:PySem.W.plainOver K A0=true)
 (sa0:PySem.W.findIn K (.ref A0) "__setattr__"=some (some (.builtin "object.__setattr__")))
 (mk0:PySem.W.makesIn K A0=true)
 (kp0:KI K A0)
 (in0:PySem.W.findIn K (.ref A0) "__init__"=some (some (.builtin "object.__init__")))
 (N1:NS K "Residues" A1)
 (pg1:PySem.W.plainGet K A1 Str.empty=true)
 (hd1:PySem.W.hasDictIn K A1=true)
 (po1:PySem.W.plainOver K A1=true)
 (sa1:PySem.W.findIn K (.ref A1) "__setattr__"=some (some (.builtin "object.__setattr__")))
 (mk1:PySem.W.makesIn K A1=true)
 (kp1:KI K A1)
 (N2:NS K "Costs" A2)
 (pg2:PySem.W.plainGet K A2 Str.empty=true)
 (hd2:PySem.W.hasDictIn K A2=true)
 (po2:PySem.W.plainOver K A2=true)
 (sa2:PySem.W.findIn K (.ref A2) "__setattr__"=some (some (.builtin "object.__setattr__")))
 (mk2:PySem.W.makesIn K A2=true)
 (kp2:KI K A2)
 (in2:PySem.W.findIn K (.ref A2) "__init__"=some (some (.builtin "object.__init__")))
 (N3:NS K "Truths" A3)
 (pg3:PySem.W.plainGet K A3 Str.empty=true)
 (hd3:PySem.W.hasDictIn K A3=true)
 (po3:PySem.W.plainOver K A3=true)
 (sa3:PySem.W.findIn K (.ref A3) "__setattr__"=some (some (.builtin "object.__setattr__")))
 (mk3:PySem.W.makesIn K A3=true)
 (kp3:KI K A3)
 (in3:PySem.W.findIn K (.ref A3) "__init__"=some (some (.builtin "object.__init__")))
 (N4:NS K "WeighError" A4)
 (X4:ExcK K A4)
 (N5:NS K "NoClosure" A5)
 (X5:ExcK K A5)
 (N6:NS K "TooGreat" A6)
 (X6:ExcK K A6)
 (n0:NS K "is_whole" A7)
 (f0:FX K "is_whole" "is_whole" h0x A7)
 (n1:NS K "divisor" A8)
 (f1:FX K "divisor" "divisor" j0w A8)
 (n2:NS K "fraction" A9)
 (f2:FX K "fraction" "fraction" h0z A9)
 (n3:NS K "is_prime" A10)
 (f3:FX K "is_prime" "is_prime" h0y A10)
 (n4:PySem.W.findIn K (.ref A0) "nought"=some (some (.ref A11)))
 (i4:PySem.W.isFn K (.ref A11)=true)
 (f4:FX K "nought" "Fractions.nought" c0h A11)
 (n5:PySem.W.findIn K (.ref A0) "one"=some (some (.ref A12)))
 (i5:PySem.W.isFn K (.ref A12)=true)
 (f5:FX K "one" "Fractions.one" d0g A12)
 (n6:PySem.W.findIn K (.ref A0) "plus"=some (some (.ref A13)))
 (i6:PySem.W.isFn K (.ref A13)=true)
 (f6:FX K "plus" "Fractions.plus" c0y A13)
 (n7:PySem.W.findIn K (.ref A0) "times"=some (some (.ref A14)))
 (i7:PySem.W.isFn K (.ref A14)=true)
 (f7:FX K "times" "Fractions.times" c0r A14)
 (n8:PySem.W.findIn K (.ref A1) "__init__"=some (some (.ref A15)))
 (i8:PySem.W.isFn K (.ref A15)=true)
 (f8:FX K "__init__" "Residues.__init__" c0e A15)
 (n9:PySem.W.findIn K (.ref A1) "nought"=some (some (.ref A16)))
 (i9:PySem.W.isFn K (.ref A16)=true)
 (f9:FX K "nought" "Residues.nought" c0q A16)
 (n10:PySem.W.findIn K (.ref A1) "one"=some (some (.ref A17)))
 (i10:PySem.W.isFn K (.ref A17)=true)
 (f10:FX K "one" "Residues.one" d0p A17)
 (n11:PySem.W.findIn K (.ref A1) "plus"=some (some (.ref A18)))
 (i11:PySem.W.isFn K (.ref A18)=true)
 (f11:FX K "plus" "Residues.plus" d0f A18)
 (n12:PySem.W.findIn K (.ref A1) "times"=some (some (.ref A19)))
 (i12:PySem.W.isFn K (.ref A19)=true)
 (f12:FX K "times" "Residues.times" c0x A19)
 (n13:PySem.W.findIn K (.ref A2) "nought"=some (some (.ref A20)))
 (i13:PySem.W.isFn K (.ref A20)=true)
 (f13:FX K "nought" "Costs.nought" d0q A20)
 (n14:PySem.W.findIn K (.ref A2) "one"=some (some (.ref A21)))
 (i14:PySem.W.isFn K (.ref A21)=true)
 (f14:FX K "one" "Costs.one" g0d A21)
 (n15:PySem.W.findIn K (.ref A2) "plus"=some (some (.ref A22)))
 (i15:PySem.W.isFn K (.ref A22)=true)
 (f15:FX K "plus" "Costs.plus" e0s A22)
 (n16:PySem.W.findIn K (.ref A2) "times"=some (some (.ref A23)))
 (i16:PySem.W.isFn K (.ref A23)=true)
 (f16:FX K "times" "Costs.times" e0e A23)
 (n17:PySem.W.findIn K (.ref A3) "nought"=some (some (.ref A24)))
 (i17:PySem.W.isFn K (.ref A24)=true)
 (f17:FX K "nought" "Truths.nought" d0e A24)
 (n18:PySem.W.findIn K (.ref A3) "one"=some (some (.ref A25)))
 (i18:PySem.W.isFn K (.ref A25)=true)
 (f18:FX K "one" "Truths.one" e0r A25)
 (n19:PySem.W.findIn K (.ref A3) "plus"=some (some (.ref A26)))
 (i19:PySem.W.isFn K (.ref A26)=true)
 (f19:FX K "plus" "Truths.plus" e0d A26)
 (n20:PySem.W.findIn K (.ref A3) "times"=some (some (.ref A27)))
 (i20:PySem.W.isFn K (.ref A27)=true)
 (f20:FX K "times" "Truths.times" d0o A27)
 (n21:NS K "noughts" A28)
 (f21:FX K "noughts" "noughts" g0n A28)
 (n22:NS K "unit" A29)
 (f22:FX K "unit" "unit" s_unit A29)
 (n23:NS K "times_row" A30)
 (f23:FX K "times_row" "times_row" d0x A30)
 (n24:NS K "column_at" A31)
 (f24:FX K "column_at" "column_at" e0b A31)
 (n25:NS K "columns_of" A32)
 (f25:FX K "columns_of" "columns_of" d0i A32)
 (n26:NS K "dot" A33)
 (f26:FX K "dot" "dot" s_dot A33)
 (n27:NS K "row_by" A34)
 (f27:FX K "row_by" "row_by" j0l A34)
 (n28:NS K "by_column" A35)
 (f28:FX K "by_column" "by_column" e0c A35)
 (n29:NS K "is_word" A36)
 (f29:FX K "is_word" "is_word" g0o A36)
 (n30:NS K "need_word" A37)
 (f30:FX K "need_word" "need_word" f0v A37)
 (n31:NS K "rooms" A38)
 (f31:FX K "rooms" "rooms" s_rooms A38)
 (n32:NS K "table_of" A39)
 (f32:FX K "table_of" "table_of" h0q A39)
 (n33:NS K "ahead" A40)
 (f33:FX K "ahead" "ahead" s_ahead A40)
 (n34:NS K "weight" A41)
 (f34:FX K "weight" "weight" m0r A41)
 (n35:NS K "need_same_letters" A42)
 (f35:FX K "need_same_letters" "need_same_letters" c0d A42)
 (n36:NS K "need_few_rooms" A43)
 (f36:FX K "need_few_rooms" "need_few_rooms" c0w A43)
 (n37:NS K "beside" A44)
 (f37:FX K "beside" "beside" g0q A44)
 (n38:NS K "put_beside" A45)
 (f38:FX K "put_beside" "put_beside" c0t A45)
 (n39:NS K "added" A46)
 (f39:FX K "added" "added" s_added A46)
 (n40:NS K "outer" A47)
 (f40:FX K "outer" "outer" m0t A47)
 (n41:NS K "joined" A48)
 (f41:FX K "joined" "joined" m0u A48)
 (n42:NS K "cross_row" A49)
 (f42:FX K "cross_row" "cross_row" g0c A49)
 (n43:NS K "cross_table" A50)
 (f43:FX K "cross_table" "cross_table" d0b A50)
 (n44:NS K "crossed" A51)
 (f44:FX K "crossed" "crossed" g0p A51)
 (n45:NS K "mirrored" A52)
 (f45:FX K "mirrored" "mirrored" f0c A52)
 (n46:NS K "turned" A53)
 (f46:FX K "turned" "turned" m0s A53)
 (n47:NS K "closed_table" A54)
 (f47:FX K "closed_table" "closed_table" c0s A54)
 (n48:NS K "need_closable" A55)
 (f48:FX K "need_closable" "need_closable" d0d A55)
 (n49:NS K "closed" A56)
 (f49:FX K "closed" "closed" j0m A56)
 (n50:NS K "single_row" A57)
 (f50:FX K "single_row" "single_row" e0o A57)
 (n51:NS K "single" A58)
 (f51:FX K "single" "single" j0k A58)
 (n52:NS K "_law_next" A59)
 (f52:FX K "_law_next" "_law_next" h0u A59)
 (n53:NS K "_law_state" A60)
 (f53:FX K "_law_state" "_law_state" f0z A60)
 (n54:NS K "_law_low" A61)
 (f54:FX K "_law_low" "_law_low" j0u A61)
 (n55:NS K "_law_plus" A62)
 (f55:FX K "_law_plus" "_law_plus" h0t A62)
 (n56:NS K "_law_times" A63)
 (f56:FX K "_law_times" "_law_times" f0y A63)
 (n57:NS K "_law_nought" A64)
 (f57:FX K "_law_nought" "_law_nought" e0q A64)
 (n58:NS K "_law_one" A65)
 (f58:FX K "_law_one" "_law_one" j0t A65)
 (n59:NS K "_law_sort" A66)
 (f59:FX K "_law_sort" "_law_sort" h0r A66)
 (n60:NS K "_law_kind" A67)
 (f60:FX K "_law_kind" "_law_kind" h0v A67)
 (n61:NS K "_law_weight" A68)
 (f61:FX K "_law_weight" "_law_weight" e0p A68)
 (n62:NS K "_law_line" A69)
 (f62:FX K "_law_line" "_law_line" f0e A69)
 (n63:NS K "_law_table" A70)
 (f63:FX K "_law_table" "_law_table" d0y A70)
 (n64:NS K "_law_letters" A71)
 (f64:FX K "_law_letters" "_law_letters" d0z A71)
 (n65:NS K "_law_machine" A72)
 (f65:FX K "_law_machine" "_law_machine" d0a A72)
 (n66:NS K "_law_dot" A73)
 (f66:FX K "_law_dot" "_law_dot" j0v A73)
 (n67:NS K "_law_step" A74)
 (f67:FX K "_law_step" "_law_step" f0d A74)
 (n68:NS K "_law_weigh" A75)
 (f68:FX K "_law_weigh" "_law_weigh" f0x A75)
 (n69:NS K "_law_words" A76)
 (f69:FX K "_law_words" "_law_words" f0w A76)
 (n70:NS K "_law_same" A77)
 (f70:FX K "_law_same" "_law_same" h0s A77)
 (n71:NS K "_law_emptied" A78)
 (f71:FX K "_law_emptied" "_law_emptied" e0a A78)
 (n72:NS K "_law_alike" A79)
 (f72:FX K "_law_alike" "_law_alike" g0b A79)
 (n73:NS K "_law_pairs" A80)
 (f73:FX K "_law_pairs" "_law_pairs" g0a A80)
 (n74:NS K "_law_cuts" A81)
 (f74:FX K "_law_cuts" "_law_cuts" h0w A81)
 (n75:NS K "law" A82)
 (f75:FX K "law" "law" s_law A82)
 (z_isinstance:PySem.W.nsIn K mainGlobals "isinstance"=some none)
 (z_int:PySem.W.nsIn K mainGlobals "int"=some none)
 (z_bool:PySem.W.nsIn K mainGlobals "bool"=some none)
 (z_abs:PySem.W.nsIn K mainGlobals "abs"=some none)
 {tk_c_GREATEST_PRIME:Tok}
 (c_GREATEST_PRIME:PySem.W.nsIn K mainGlobals "GREATEST_PRIME"=some (some (.int 1000000 tk_c_GREATEST_PRIME)))
 (z_min:PySem.W.nsIn K mainGlobals "min"=some none)
 (z_tuple:PySem.W.nsIn K mainGlobals "tuple"=some none)
 (z_range:PySem.W.nsIn K mainGlobals "range"=some none)
 (z_len:PySem.W.nsIn K mainGlobals "len"=some none)
 (z_zip:PySem.W.nsIn K mainGlobals "zip"=some none)
 (z_str:PySem.W.nsIn K mainGlobals "str"=some none)
 (z_all:PySem.W.nsIn K mainGlobals "all"=some none)
 {tk_c_MOST_ROOMS:Tok}
 (c_MOST_ROOMS:PySem.W.nsIn K mainGlobals "MOST_ROOMS"=some (some (.int 20 tk_c_MOST_ROOMS)))
 (z_list:PySem.W.nsIn K mainGlobals "list"=some none)
 (k_ii:PySem.W.kitOne K (.type "int") (.type "int")=some true)
 (k_ib:PySem.W.kitOne K (.type "int") (.type "bool")=some false)
 (nP:PySem.W.findIn K (.ref A1) "prime"=some none)
 (k_ss:PySem.W.kitOne K (.type "str") (.type "str")=some true)
 (k_bb:PySem.W.kitOne K (.type "bool") (.type "bool")=some true)
 (k_tt:PySem.W.kitOne K (.type "tuple") (.type "tuple")=some true)
 : ∃t:Adr,Txt K mg t:=
 have M:∀{x:Str} {v:Value},PySem.W.nsIn K mainGlobals x=some (some v)→mg x=some v:=fun n=>PySem.W.mg_of X G n
 have Z:∀{x:Str},PySem.W.nsIn K mainGlobals x=some none→mg x=none:=fun n=>PySem.W.mg_none_of X G n
 have S:∀{n q:Str} {s:Stmt} {a:Addr} (f:FX K n q s a),Fun K n q s a f.choose:=fun f=>f.choose_spec
 ⟨{ a1k:=A7,w0t:=f0.choose,c1h:=A8,y0m:=f1.choose,z0r:=A9,w0e:=f2.choose,z0x:=A10,v0x:=f3.choose,p0d:=A11,o0e:=f4.choose,r0d:=A12,p0p:=f5.choose,q0n:=A13,o0u:=f6.choose,p0m:=A14,o0o:=f7.choose,o0i:=A15,n0z:=f8.choose,p0s:=A16,o0j:=f9.choose,s0k:=A17,q0j:=f10.choose,r0h:=A18,p0e:=f11.choose,q0g:=A19,o0t:=f12.choose,r0r:=A20,q0b:=f13.choose,y0y:=A21,v0f:=f14.choose,x0p:=A22,s0y:=f15.choose,t0q:=A23,q0u:=f16.choose,r0a:=A24,p0q:=f17.choose,w0i:=A25,s0p:=f18.choose,u0d:=A26,r0j:=f19.choose,s0g:=A27,q0l:=f20.choose,b1j:=A28,z0j:=f21.choose,unit:=A29,c1l:=f22.choose,y0v:=A30,t0x:=f23.choose,z0k:=A31,v0b:=f24.choose,x0t:=A32,s0c:=f25.choose,dot:=A33,c1w:=f26.choose,c1p:=A34,a1t:=f27.choose,y0k:=A35,t0t:=f28.choose,b1s:=A36,y0q:=f29.choose,y0g:=A37,t0s:=f30.choose,c1s:=A38,b1x:=f31.choose,a1h:=A39,v0s:=f32.choose,d1d:=A40,b1p:=f33.choose,weight:=A41,a1u:=f34.choose,o0k:=A42,n0w:=f35.choose,q0m:=A43,p0c:=f36.choose,c1q:=A44,a1d:=f37.choose,w0o:=A45,s0w:=f38.choose,c1y:=A46,b1k:=f39.choose,outer:=A47,b1y:=f40.choose,c1o:=A48,z0q:=f41.choose,y0i:=A49,t0p:=f42.choose,t0c:=A50,r0k:=f43.choose,b1n:=A51,y0h:=f44.choose,b1g:=A52,w0s:=f45.choose,turned:=A53,z0s:=f46.choose,r0u:=A54,q0f:=f47.choose,q0x:=A55,p0v:=f48.choose,c1n:=A56,z0z:=f49.choose,w0b:=A57,s0m:=f50.choose,c1i:=A58,b1h:=f51.choose,b1c:=A59,v0r:=f52.choose,x0y:=A60,u0t:=f53.choose,b1u:=A61,y0t:=f54.choose,a1q:=A62,v0u:=f55.choose,x0x:=A63,t0a:=f56.choose,w0n:=A64,s0n:=f57.choose,c1e:=A65,y0j:=f58.choose,a1j:=A66,w0u:=f59.choose,a1b:=A67,x0m:=f60.choose,x0a:=A68,s0x:=f61.choose,a1v:=A69,w0l:=f62.choose,z0n:=A70,t0d:=f63.choose,u0k:=A71,q0r:=f64.choose,t0k:=A72,r0g:=f65.choose,c1d:=A73,z0e:=f66.choose,a1n:=A74,v0p:=f67.choose,x0z:=A75,u0s:=f68.choose,y0o:=A76,u0m:=f69.choose,a1c:=A77,x0u:=f70.choose,u0n:=A78,q0q:=f71.choose,z0g:=A79,t0y:=f72.choose,z0i:=A80,u0z:=f73.choose,a1w:=A81,w0h:=f74.choose,law:=A82,d1a:=f75.choose,z0b:=A0,z0t:=A1,c1u:=A2,c1k:=A3,w0r:=A4,y0e:=A5,a1e:=A6 },
   { v0t:=S f0,x0i:=bn1 (S f0),w0y:=M n0,y0a:=S f1,y0f:=bn2 (S f1),y0z:=M n1,x0o:=S f2,v0n:=bn2 (S f2),v0k:=M n2,x0e:=S f3,v0v:=bn1 (S f3),w0x:=M n3,o0f:=S f4,o0d:=bn1 (S f4),o0g:=⟨n4,i4,(S f4).kp⟩,p0r:=S f5,p0g:=bn1 (S f5),p0t:=⟨n5,i5,(S f5).kp⟩,o0x:=S f6,p0a:=bn3 (S f6),o0z:=⟨n6,i6,(S f6).kp⟩,o0n:=S f7,o0h:=bn3 (S f7),o0q:=⟨n7,i7,(S f7).kp⟩,o0b:=S f8,n0v:=bn2 (S f8),n0y:=⟨n8,i8,(S f8).kp⟩,o0l:=S f9,o0m:=bn1 (S f9),o0p:=⟨n9,i9,(S f9).kp⟩,p0z:=S f10,q0k:=bn1 (S f10),q0h:=⟨n10,i10,(S f10).kp⟩,p0l:=S f11,p0i:=bn3 (S f11),p0j:=⟨n11,i11,(S f11).kp⟩,o0w:=S f12,o0v:=bn3 (S f12),o0r:=⟨n12,i12,(S f12).kp⟩,q0o:=S f13,q0i:=bn1 (S f13),q0a:=⟨n13,i13,(S f13).kp⟩,t0o:=S f14,t0h:=bn1 (S f14),v0j:=⟨n14,i14,(S f14).kp⟩,s0u:=S f15,r0x:=bn3 (S f15),s0b:=⟨n15,i15,(S f15).kp⟩,r0b:=S f16,r0i:=bn3 (S f16),q0t:=⟨n16,i16,(S f16).kp⟩,p0o:=S f17,p0f:=bn1 (S f17),p0h:=⟨n17,i17,(S f17).kp⟩,r0z:=S f18,s0l:=bn1 (S f18),s0s:=⟨n18,i18,(S f18).kp⟩,r0o:=S f19,r0m:=bn3 (S f19),r0e:=⟨n19,i19,(S f19).kp⟩,p0w:=S f20,q0c:=bn3 (S f20),p0y:=⟨n20,i20,(S f20).kp⟩,y0d:=S f21,z0f:=bn2 (S f21),y0s:=M n21,c1m:=S f22,c1r:=bn3 (S f22),c1j:=M n22,t0l:=S f23,u0x:=bn3 (S f23),u0u:=M n23,t0n:=S f24,t0i:=bn2 (S f24),u0o:=M n24,s0i:=S f25,r0s:=bn1 (S f25),s0q:=M n25,d1c:=S f26,c1x:=bn3 (S f26),d1b:=M n26,a1r:=S f27,b1b:=bn3 (S f27),z0o:=M n27,v0e:=S f28,u0p:=bn3 (S f28),v0i:=M n28,y0l:=S f29,z0a:=bn2 (S f29),z0d:=M n29,u0b:=S f30,s0z:=bn2 (S f30),u0q:=M n30,b1z:=S f31,b1i:=bn1 (S f31),c1c:=M n31,v0w:=S f32,x0s:=bn2 (S f32),x0n:=M n32,c1a:=S f33,c1b:=bn3 (S f33),b1m:=M n33,a1x:=S f34,a1l:=bn3 (S f34),a1a:=M n34,o0c:=S f35,n0x:=bn2 (S f35),o0a:=M n35,o0y:=S f36,o0s:=bn1 (S f36),p0b:=M n36,a1g:=S f37,b1f:=bn4 (S f37),a1m:=M n37,r0t:=S f38,s0e:=bn3 (S f38),r0w:=M n38,b1w:=S f39,b1q:=bn3 (S f39),b1o:=M n39,b1r:=S f40,b1t:=bn3 (S f40),c1f:=M n40,a1s:=S f41,a1i:=bn3 (S f41),b1d:=M n41,u0h:=S f42,t0b:=bn3 (S f42),v0h:=M n42,r0p:=S f43,r0l:=bn3 (S f43),q0s:=M n43,y0b:=S f44,z0h:=bn3 (S f44),y0n:=M n44,w0w:=S f45,w0m:=bn1 (S f45),v0y:=M n45,a1z:=S f46,b1a:=bn2 (S f46),z0u:=M n46,q0e:=S f47,q0d:=bn3 (S f47),p0x:=M n47,p0k:=S f48,p0n:=bn2 (S f48),p0u:=M n48,a1f:=S f49,b1e:=bn2 (S f49),z0p:=M n49,s0o:=S f50,s0d:=bn4 (S f50),s0t:=M n50,z0w:=S f51,z0v:=bn4 (S f51),a1y:=M n51,x0v:=S f52,x0r:=bn2 (S f52),w0q:=M n52,t0r:=S f53,t0g:=bn1 (S f53),t0v:=M n53,y0p:=S f54,z0c:=bn2 (S f54),y0w:=M n54,w0a:=S f55,x0l:=bn3 (S f55),x0w:=M n55,v0c:=S f56,u0l:=bn3 (S f56),t0e:=M n56,s0f:=S f57,r0y:=bn1 (S f57),s0v:=M n57,y0r:=S f58,z0l:=bn1 (S f58),z0m:=M n58,v0z:=S f59,w0c:=bn2 (S f59),x0b:=M n59,x0f:=S f60,v0l:=bn1 (S f60),x0d:=M n60,s0j:=S f61,s0h:=bn3 (S f61),s0r:=M n61,x0q:=S f62,x0j:=bn4 (S f62),w0v:=M n62,u0g:=S f63,t0w:=bn5 (S f63),v0d:=M n63,q0w:=S f64,q0v:=bn1 (S f64),r0q:=M n64,q0y:=S f65,r0f:=bn5 (S f65),q0z:=M n65,y0c:=S f66,y0u:=bn3 (S f66),y0x:=M n66,v0o:=S f67,w0j:=bn3 (S f67),w0p:=M n67,t0j:=S f68,u0c:=bn3 (S f68),v0a:=M n68,t0f:=S f69,u0a:=bn2 (S f69),u0e:=M n69,w0f:=S f70,x0k:=bn3 (S f70),x0g:=M n70,q0p:=S f71,r0n:=bn3 (S f71),r0c:=M n71,t0m:=S f72,u0w:=bn4 (S f72),u0y:=M n72,t0z:=S f73,u0j:=bn4 (S f73),u0r:=M n73,w0k:=S f74,w0z:=bn5 (S f74),x0h:=M n74,c1t:=S f75,c1v:=bn1 (S f75),c1z:=M n75,u0f:=⟨pg0,hd0,po0,sa0⟩,v0g:=M N0,t0u:=⟨mk0,in0,kp0⟩,v0m:=⟨pg1,hd1,po1,sa1⟩,w0d:=M N1,w0g:=⟨mk1,n8,i8,kp1⟩,b1v:=⟨pg2,hd2,po2,sa2⟩,c1g:=M N2,b1l:=⟨mk2,in2,kp2⟩,a1p:=⟨pg3,hd3,po3,sa3⟩,z0y:=M N3,a1o:=⟨mk3,in3,kp3⟩,r0v:=M N4,s0a:=X4,u0i:=M N5,u0v:=X5,x0c:=M N6,v0q:=X6,z_isinstance:=Z z_isinstance,z_int:=Z z_int,z_bool:=Z z_bool,z_abs:=Z z_abs,c_GREATEST_PRIME:=⟨_,M c_GREATEST_PRIME⟩,z_min:=Z z_min,z_tuple:=Z z_tuple,z_range:=Z z_range,z_len:=Z z_len,z_zip:=Z z_zip,z_str:=Z z_str,z_all:=Z z_all,c_MOST_ROOMS:=⟨_,M c_MOST_ROOMS⟩,z_list:=Z z_list,k_ii:=k_ii,k_ib:=k_ib,nP:=nP,k_ss:=k_ss,k_bb:=k_bb,k_tt:=k_tt }⟩
end K28
open PySem PySem.W PyProof.Rows
set_option maxRecDepth 100000 in
set_option maxHeartbeats 0 in
theorem PySem.Challenge.cw_weighwalk_k28_whole_built_holds : PySem.Challenge.rw_weighwalk_k28_whole_built.Holds := by
  w_on;o_law
  refine H28.holds_ (by assumption) ?hw ?hc
  (case hw=>w_witness2)
  unfold H28.hook
  k_fill
  refine L2.walk_ofK (l:=PySem.Challenge.rw_weighwalk_k28_whole_built) (n:=63) (k:=50) (x:="_law_script") (CX:=L2.CX0) (sp:=K28.sp_law) rfl (by decide) rfl ⟨rfl,by decide,by decide⟩ (by decide +kernel) (fun w h Y=>PySem.W.kIn_of Y) ?F ?S ?C
  case F=>
    intro w mg fa h KX G hmg
    have T:∃t,K28.Txt (L2.KOf KX) mg t:=by
      dsimp only[L2.KOf]
      refine' K28.txt_mk KX G ?_ ?_ ?_ ?_ ?_ ?_ ?_ ?_ ?_ ?_ ?_ ?_ ?_ ?_ ?_ ?_ ?_ ?_ ?_ ?_ ?_ ?_ ?_ ?_ ?_ ?_ ?_ ?_ ?_ ?_ ?_ ?_ ?X4 ?_ ?X5 ?_ ?X6 ?_ (K28.fx (H28.lk_is_whole _) ?_ ?_) ?_ (K28.fx (H28.lk_divisor _) ?_ ?_) ?_ (K28.fx (H28.lk_fraction _) ?_ ?_) ?_ (K28.fx (H28.lk_is_prime _) ?_ ?_) ?_ ?_ (K28.fx (H28.g0i _) ?_ ?_) ?_ ?_ (K28.fx (H28.j0g _) ?_ ?_) ?_ ?_ (K28.fx (H28.i0i _) ?_ ?_) ?_ ?_ (K28.fx (H28.h0d _) ?_ ?_) ?_ ?_ (K28.fx (H28.f0n _) ?_ ?_) ?_ ?_ (K28.fx (H28.h0c _) ?_ ?_) ?_ ?_ (K28.fx (H28.k0p _) ?_ ?_) ?_ ?_ (K28.fx (H28.j0f _) ?_ ?_) ?_ ?_ (K28.fx (H28.i0h _) ?_ ?_) ?_ ?_ (K28.fx (H28.k0q _) ?_ ?_) ?_ ?_ (K28.fx (H28.lk_Costs_one _) ?_ ?_) ?_ ?_ (K28.fx (H28.n0q _) ?_ ?_) ?_ ?_ (K28.fx (H28.l0r _) ?_ ?_) ?_ ?_ (K28.fx (H28.j0e _) ?_ ?_) ?_ ?_ (K28.fx (H28.n0p _) ?_ ?_) ?_ ?_ (K28.fx (H28.l0q _) ?_ ?_) ?_ ?_ (K28.fx (H28.k0o _) ?_ ?_) ?_ (K28.fx (H28.lk_noughts _) ?_ ?_) ?_ (K28.fx (H28.lk_unit _) ?_ ?_) ?_ (K28.fx (H28.lk_times_row _) ?_ ?_) ?_ (K28.fx (H28.lk_column_at _) ?_ ?_) ?_ (K28.fx (H28.n0h _) ?_ ?_) ?_ (K28.fx (H28.lk_dot _) ?_ ?_) ?_ (K28.fx (H28.lk_row_by _) ?_ ?_) ?_ (K28.fx (H28.lk_by_column _) ?_ ?_) ?_ (K28.fx (H28.lk_is_word _) ?_ ?_) ?_ (K28.fx (H28.lk_need_word _) ?_ ?_) ?_ (K28.fx (H28.lk_rooms _) ?_ ?_) ?_ (K28.fx (H28.lk_table_of _) ?_ ?_) ?_ (K28.fx (H28.lk_ahead _) ?_ ?_) ?_ (K28.fx (H28.lk_weight _) ?_ ?_) ?_ (K28.fx (H28.f0m _) ?_ ?_) ?_ (K28.fx (H28.i0g _) ?_ ?_) ?_ (K28.fx (H28.lk_beside _) ?_ ?_) ?_ (K28.fx (H28.n0g _) ?_ ?_) ?_ (K28.fx (H28.lk_added _) ?_ ?_) ?_ (K28.fx (H28.lk_outer _) ?_ ?_) ?_ (K28.fx (H28.lk_joined _) ?_ ?_) ?_ (K28.fx (H28.lk_cross_row _) ?_ ?_) ?_ (K28.fx (H28.l0n _) ?_ ?_) ?_ (K28.fx (H28.lk_crossed _) ?_ ?_) ?_ (K28.fx (H28.lk_mirrored _) ?_ ?_) ?_ (K28.fx (H28.lk_turned _) ?_ ?_) ?_ (K28.fx (H28.k0k _) ?_ ?_) ?_ (K28.fx (H28.j0d _) ?_ ?_) ?_ (K28.fx (H28.lk_closed _) ?_ ?_) ?_ (K28.fx (H28.n0f _) ?_ ?_) ?_ (K28.fx (H28.lk_single _) ?_ ?_) ?_ (K28.fx (H28.lk__law_next _) ?_ ?_) ?_ (K28.fx (H28.n0m _) ?_ ?_) ?_ (K28.fx (H28.lk__law_low _) ?_ ?_) ?_ (K28.fx (H28.lk__law_plus _) ?_ ?_) ?_ (K28.fx (H28.n0k _) ?_ ?_) ?_ (K28.fx (H28.l0p _) ?_ ?_) ?_ (K28.fx (H28.lk__law_one _) ?_ ?_) ?_ (K28.fx (H28.lk__law_sort _) ?_ ?_) ?_ (K28.fx (H28.lk__law_kind _) ?_ ?_) ?_ (K28.fx (H28.l0o _) ?_ ?_) ?_ (K28.fx (H28.lk__law_line _) ?_ ?_) ?_ (K28.fx (H28.n0l _) ?_ ?_) ?_ (K28.fx (H28.k0m _) ?_ ?_) ?_ (K28.fx (H28.k0l _) ?_ ?_) ?_ (K28.fx (H28.lk__law_dot _) ?_ ?_) ?_ (K28.fx (H28.lk__law_step _) ?_ ?_) ?_ (K28.fx (H28.n0j _) ?_ ?_) ?_ (K28.fx (H28.n0i _) ?_ ?_) ?_ (K28.fx (H28.lk__law_same _) ?_ ?_) ?_ (K28.fx (H28.k0n _) ?_ ?_) ?_ (K28.fx (H28.n0o _) ?_ ?_) ?_ (K28.fx (H28.n0n _) ?_ ?_) ?_ (K28.fx (H28.lk__law_cuts _) ?_ ?_) ?_ (K28.fx (H28.lk_law _) ?_ ?_) ?_ ?_ ?_ ?_ ?_ ?_ ?_ ?_ ?_ ?_ ?_ ?_ ?_ ?_ ?k_ii ?k_ib ?_ ?k_ss ?k_bb ?k_tt
      any_goals (show _=_;k_is)
      (case X4 | X5 | X6=>exact⟨by kernel_rfl,by kernel_rfl,by kernel_rfl,by kernel_rfl,by kernel_rfl,by kernel_rfl⟩)
      (case k_ii | k_ib | k_ss | k_bb | k_tt=>kit_is)
    obtain⟨t,T⟩:=T
    have e0:=hmg.symm.trans T.c1z
    cases e0
    exact⟨_,K28.law_binds T,fun base kb nb=>K28.ok_law T⟩
  case S=>exact fun K H a ns hl hO hS=>⟨a,ns,rfl,hS,hl,fun _=>rfl⟩
  case C=>exact fun _ _ _ _ z=>z
