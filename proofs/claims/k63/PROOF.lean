import PyProof.Rows.All
import Wide.All
import OpenK.AllK
import Wide.FinOn
import Lean
import PyProof.EqAt
import PyProof.EqKinds
import PyProof.TupleCall
import KE.KRevIter
import KE.KTryMore
import PyProof.StrCalls6
import PyProof.ToksMono
import PyProof.NeKinds
import PyProof.Rows.InDataRows
import PyProof.Rows.StrStrike
import PyProof.ListRange
import PyProof.AutoSeq1
import PySem.Challenge.RW_weighwalk_k63_whole_least_sure
set_option Elab.async false
set_option linter.all false
set_option maxRecDepth 100000
namespace L2
open PySem PySem.Spec PyProof.Rows
abbrev Key:=Sum Int Str
def keyIs:Key→Value→Bool
  | .inl k,v=>Value.isInt k v
  | .inr x,v=>Value.isStrOf x v
def keyH(w:World):Key→Int
  | .inl k=>hashInt k
  | .inr x=>hashStr w x
theorem keyIs_shape:∀{k:Key} {v:Value},keyIs k v=true→(∃i t,k=Sum.inl i∧v=Value.int i t)∨(∃x t,k=Sum.inr x∧v=Value.str x t)
  | .inl i,v,h=>by
    obtain⟨t,e⟩:=Value.isInt_shape (k:=i) (v:=v) h
    exact .inl ⟨i,t,rfl,e⟩
  | .inr x,v,h=>by
    obtain⟨t,e⟩:=Value.isStrOf_shape (x:=x) (v:=v) h
    exact .inr ⟨x,t,rfl,e⟩
theorem key_ll(a b:Int):decide ((Sum.inl a:Key)=Sum.inl b)=(a == b):=by
  by_cases e:a=b
  · subst e;simp
  · have h:¬(Sum.inl a:Key)=Sum.inl b:=fun q=>e (Sum.inl.inj q)
    rw[decide_eq_false h]
    exact(beq_eq_false_iff_ne.mpr e).symm
theorem key_rr(a b:Str):decide ((Sum.inr a:Key)=Sum.inr b)=decide (a=b):=by
  by_cases e:a=b
  · subst e;simp
  · have h:¬(Sum.inr a:Key)=Sum.inr b:=fun q=>e (Sum.inr.inj q)
    rw[decide_eq_false h,decide_eq_false e]
theorem key_lr(a:Int)(b:Str):decide ((Sum.inl a:Key)=Sum.inr b)=false:=decide_eq_false (fun q=>nomatch q)
theorem key_rl(a:Str)(b:Int):decide ((Sum.inr a:Key)=Sum.inl b)=false:=decide_eq_false (fun q=>nomatch q)
def mixKind(prog:Program)(w:World):PySem.KeyKind prog w Key where
  is:=keyIs
  hash:=keyH w
  inj:=fun v a b ha hb=>by
    rcases keyIs_shape ha with ⟨i,t,rfl,rfl⟩ | ⟨x,t,rfl,rfl⟩
    · rcases keyIs_shape hb with ⟨j,u,rfl,e⟩ | ⟨y,u,rfl,e⟩
      · injection e with e1 _;rw[e1]
      · exact nomatch e
    · rcases keyIs_shape hb with ⟨j,u,rfl,e⟩ | ⟨y,u,rfl,e⟩
      · exact nomatch e
      · injection e with e1 _;rw[e1]
  byValue:=fun k v h=>by
    rcases keyIs_shape h with ⟨i,t,rfl,rfl⟩ | ⟨x,t,rfl,rfl⟩ <;>rfl
  pyHash:=fun hv h=>by
    rcases keyIs_shape hv with ⟨i,t,rfl,rfl⟩ | ⟨x,t,rfl,rfl⟩
    · exact wpAny_pyHash_int h
    · exact wpAny_pyHash_str h
  eqBool:=fun hu hv h=>by
    rcases keyIs_shape hu with ⟨i,t,rfl,rfl⟩ | ⟨x,t,rfl,rfl⟩
    · rcases keyIs_shape hv with ⟨j,u,rfl,rfl⟩ | ⟨y,u,rfl,rfl⟩
      · rw[key_ll]at h;exact wpAny_eqBool_int h
      · rw[key_lr]at h;exact SeqAt.EqAt.int_str i t y u _ _ _ _ h
    · rcases keyIs_shape hv with ⟨j,u,rfl,rfl⟩ | ⟨y,u,rfl,rfl⟩
      · rw[key_rl]at h;exact SeqAt.EqAt.str_int x t j u _ _ _ _ h
      · rw[key_rr]at h;exact wpAny_eqBool_str h
  «strs»:=fun k x t v h=>by
    rcases keyIs_shape h with ⟨i,u,rfl,e⟩ | ⟨y,u,rfl,e⟩
    · exact nomatch e
    · injection e with e1 _
      subst e1
      cases v <;>rfl
end L2
namespace L2
open PySem PySem.Spec PyProof.Rows
inductive V where
  | non | bl (b:Bool) | int (i:Int) | str (x:Str) | byt (b:Array UInt8) | flt (b:UInt64) | ref (a:Addr) | ty (n:String)
  deriving DecidableEq
def RelV:V→Value→Prop
  | .non,u=>u=Value.none
  | .bl b,u=>u=Value.bool b
  | .int i,u=>∃t,u=Value.int i t
  | .str x,u=>∃t,u=Value.str x t
  | .byt b,u=>∃t,u=Value.bytes b t
  | .flt b,u=>∃t,u=Value.float b t
  | .ref a,u=>u=Value.ref a
  | .ty n,u=>u=Value.type n
abbrev Vals:List V→List Value→Prop:=Paired RelV
theorem Vals.length{xs:List V}{us:List Value}(r:Vals xs us):xs.length=us.length:=Paired.length r
theorem Vals.get:∀{xs:List V} {us:List Value} {i:Nat} {x:V},Vals xs us→xs[i]? = some x→∃u,us[i]? = some u∧RelV x u
  | _,_,_,_,.nil,e=>by simp at e
  | _,_,0,_,.cons r _,e=>by simp at e;subst e;exact⟨_,rfl,r⟩
  | _,_,i+1,x,.cons _ t,e=>by
    obtain⟨u,h1,h2⟩:=Vals.get (i:=i) (x:=x) t (by simpa using e)
    exact⟨u,by simpa using h1,h2⟩
theorem Vals.set{x:V}{u:Value}(r:RelV x u):∀{xs:List V} {us:List Value} (i:Nat),Vals xs us→Vals (xs.set i x) (us.set i u)
  | _,_,_,.nil=>.nil
  | _,_,0,.cons _ t=>.cons r t
  | _,_,i+1,.cons q t=>.cons q (Vals.set r i t)
theorem Vals.append:∀{xs ys:List V} {us ws:List Value},Vals xs us→Vals ys ws→Vals (xs++ys) (us++ws)
  | _,_,_,_,.nil,s=>s
  | _,_,_,_,.cons r t,s=>.cons r (Vals.append t s)
theorem Vals.take:∀{xs:List V} {us:List Value} (n:Nat),Vals xs us→Vals (xs.take n) (us.take n)
  | _,_,0,_=>.nil
  | _,_,_+1,.nil=>.nil
  | _,_,n+1,.cons r t=>.cons r (Vals.take n t)
theorem Vals.drop:∀{xs:List V} {us:List Value} (n:Nat),Vals xs us→Vals (xs.drop n) (us.drop n)
  | _,_,0,r=>r
  | _,_,_+1,.nil=>.nil
  | _,_,n+1,.cons _ t=>Vals.drop n t
theorem Vals.none_of:∀{xs:List V} {us:List Value} {i:Nat},Vals xs us→xs[i]? = none→us[i]? = none:=fun{xs us i} r e=>by
  have h1:=r.length
  have h2:xs.length≤i:=List.getElem?_eq_none_iff.mp e
  exact List.getElem?_eq_none_iff.mpr (by omega)
def RelO:Option V→Option Value→Prop
  | some v,some u=>RelV v u
  | none,none=>True
  | _,_=>False
def KV{κ:Type}:List (κ × V)→List (κ × Value)→Prop:=Paired fun(p:κ × V) (q:κ × Value)=>p.1=q.1∧RelV p.2 q.2
def kV:Key→V
  | .inl i=>.int i
  | .inr x=>.str x
inductive HO where
  | lst (xs:List V)
  | tup (xs:List V)
  | dK (kvs:List (Key × V)) | dT (kvs:List (List Key × V))
  | set (S:Int→Bool) (n:Nat)
  | ins (C dx:Addr) (fs:List (Str × V))
  | own (x:Addr)
  | xd (fs:List (Str × V))
  | met (f x:Addr)
  | rng (lo hi:Int)
  | frz (o:Obj) (u:HO)
  | tbl (ps:Array Value)
  | ext (φ:Heap→Prop)
abbrev Hp:=Addr→Option HO
def upd(H:Hp)(a:Addr)(o:HO):Hp:=fun b=>if b=a then some o else H b
theorem upd_same{H:Hp}{a:Addr}{o:HO}:upd H a o a=some o:=by unfold upd;rw[if_pos rfl]
theorem upd_ne{H:Hp}{a b:Addr}{o:HO}(h:b≠a):upd H a o b=H b:=by unfold upd;rw[if_neg h]
theorem ne_of_none{H:Hp}{a b:Addr}{o:HO}(h:H a=some o)(h':H b=none):a≠b:=by
  intro e;subst e;rw[h]at h';cases h'
section
variable(P:Program)(w:World)
def ObjOk(H:Hp)(h:Heap)(a:Addr):HO→Prop
  | .lst xs=>xs.length≤sizeLine∧∃(its:List Value) (n:Nat),Vals xs its∧h.get? a=some { cls:=.type "list",data:=.seq its.toArray n }
  | .tup xs=>xs.length≤sizeLine∧∃its:List Value,Vals xs its∧IsTup h a its.toArray∧((∀i y,xs≠[.int i,y])→∃o,h.get? a=some o∧o.dict=none)
  | .dK kvs=>kvs.length≤sizeLine∧(a == sysModules)=false∧∃vs,KV kvs vs∧h.DictOf (mixKind P w) a vs
  | .dT kvs=>kvs.length≤sizeLine∧(a == sysModules)=false∧∃xs:List (List Key × Addr × Value),
      Paired (fun(p:List Key × V) (q:List Key × Addr × Value)=>p.1=q.1∧H q.2.1=some (.tup (p.1.map kV))∧RelV p.2 q.2.2) kvs xs∧
      ∃o es ep,h.get? a=some o∧o.ExactDict∧o.data=.dict es ep∧es.toList=xs.map (entryOfKey (tupleKind (mixKind P w)))∧(xs.map (·.1)).Nodup
  | .set S n=>h.SetOf (intKind P w) a S n
  | .ins C dx fs=>H dx=some (.own a)∧fs.length≤1000∧dx≠a∧h.get? a=some (PySem.W.instObj C dx)∧
      ∃mA,h.Ns1 dx mA∧(∀f,RelO (fs.lookup f) (mA f))∧PySem.Within mA (fs.map (·.1))
  | .own _=>∃o,h.get? a=some o
  | .xd fs=>∃mA,h.Ns1 a mA∧∀f,RelO (fs.lookup f) (mA f)
  | .rng lo hi=>∃t u v,h.get? a=some { cls:=.type "range",data:=.fields #[.int lo t,.int hi u,.int 1 v] }
  | .frz o u=>h.get? a=some o∧ObjOk H h a u
  | .tbl ps=>h.get? a=some { cls:=.none,data:=.fields ps }
  | .met f x=>h.get? a=some (PySem.W.methodObj (.ref f) (.ref x))
  | .ext φ=>φ h∧(∃o,h.get? a=some o)∧∀h1 h2:Heap,φ h1→(∀o,h1.get? a=some o→h2.get? a=some o)→φ h2
def HOk(H:Hp)(h:Heap):Prop:=∀a o,H a=some o→ObjOk P w H h a o
end
section
variable{P:Program}{w:World}{H H':Hp}{h h':Heap}{a:Addr}{o:HO}
theorem ObjOk.lt(x:ObjOk P w H h a o):a < h.objs.size:=by
  cases o with
  | lst xs=>obtain⟨_,_,_,_,e⟩:=x;exact Heap.lt_size e
  | tup xs=>obtain⟨_,_,_,p,_⟩:=x;exact p.lt
  | dK kvs=>obtain⟨_,_,_,_,o,_,_,e,_⟩:=x;exact Heap.lt_size e
  | dT kvs=>obtain⟨_,_,_,_,o,_,_,e,_⟩:=x;exact Heap.lt_size e
  | set S n=>obtain⟨o,_,_,_,e,_⟩:=x;exact Heap.lt_size e
  | ins C dx fs=>obtain⟨_,_,_,e,_⟩:=x;exact Heap.lt_size e
  | own y=>obtain⟨_,e⟩:=x;exact Heap.lt_size e
  | xd fs=>obtain⟨_,⟨_,_,_,e,_⟩,_⟩:=x;exact Heap.lt_size e
  | rng lo hi=>obtain⟨_,_,_,e⟩:=x;exact Heap.lt_size e
  | frz ob u=>obtain⟨e,_⟩:=x;exact Heap.lt_size e
  | tbl ps=>exact Heap.lt_size (show h.get? a=some _ from x)
  | met f y=>exact Heap.lt_size (show h.get? a=some _ from x)
  | ext φ=>obtain⟨_,⟨_,e⟩,_⟩:=x;exact Heap.lt_size e
theorem Paired.mapP{α β:Type}{F G:α→β→Prop}:∀{l₁:List α} {l₂:List β},Paired F l₁ l₂→(∀a b,F a b→G a b)→Paired G l₁ l₂
  | _,_,.nil,_=>.nil
  | _,_,.cons r t,f=>.cons (f _ _ r) (Paired.mapP t f)
theorem ObjOk.stay(x:ObjOk P w H h a o)(k:∀b u,(b=a∨H b=some (.own a))→h.get? b=some u→h'.get? b=some u)
    (ho:∀b,H b=some (.own a)→H' b=some (.own a)) (ht:∀b xs,H b=some (.tup xs)→H' b=some (.tup xs)):ObjOk P w H' h' a o:=by
  induction o with
  | lst xs=>obtain⟨z,its,n,r,e⟩:=x;exact⟨z,its,n,r,k _ _ (.inl rfl) e⟩
  | tup xs=>obtain⟨z,its,r,⟨ob,e,c⟩,d⟩:=x;exact⟨z,its,r,⟨ob,k _ _ (.inl rfl) e,c⟩,fun nx=>let⟨o,e2,d2⟩:=d nx;⟨o,k _ _ (.inl rfl) e2,d2⟩⟩
  | dK kvs=>obtain⟨z,y,vs,r,ob,es,ep,e,c⟩:=x;exact⟨z,y,vs,r,ob,es,ep,k _ _ (.inl rfl) e,c⟩
  | dT kvs=>
    obtain⟨z,y,xs,r,ob,es,ep,e,c⟩:=x
    exact⟨z,y,xs,Paired.mapP r fun p q z=>⟨z.1,ht _ _ z.2.1,z.2.2⟩,ob,es,ep,k _ _ (.inl rfl) e,c⟩
  | set S n=>obtain⟨ob,es,ep,t,e,c⟩:=x;exact⟨ob,es,ep,t,k _ _ (.inl rfl) e,c⟩
  | ins C dx fs=>
    obtain⟨d,z,ne,e,mA,⟨od,es,ep,e2,c⟩,r⟩:=x
    exact⟨ho _ d,z,ne,k _ _ (.inl rfl) e,mA,⟨od,es,ep,k _ _ (.inr d) e2,c⟩,r⟩
  | own y=>obtain⟨ob,e⟩:=x;exact⟨ob,k _ _ (.inl rfl) e⟩
  | xd fs=>obtain⟨mA,⟨od,es,ep,e,c⟩,r⟩:=x;exact⟨mA,⟨od,es,ep,k _ _ (.inl rfl) e,c⟩,r⟩
  | rng lo hi=>obtain⟨t,u,v,e⟩:=x;exact⟨t,u,v,k _ _ (.inl rfl) e⟩
  | frz ob u ih=>obtain⟨e,q⟩:=x;exact⟨k _ _ (.inl rfl) e,ih q⟩
  | tbl ps=>
    have e:h.get? a=some { cls:=.none,data:=.fields ps }:=x
    show h'.get? a=some { cls:=.none,data:=.fields ps }
    exact k a _ (.inl rfl) e
  | met f y=>
    have e:h.get? a=some (PySem.W.methodObj (.ref f) (.ref y)):=x
    show h'.get? a=some (PySem.W.methodObj (.ref f) (.ref y))
    exact k a _ (.inl rfl) e
  | ext φ=>obtain⟨p,⟨o,e⟩,st⟩:=x;exact⟨st _ _ p fun o q=>k _ _ (.inl rfl) q,⟨o,k _ _ (.inl rfl) e⟩,st⟩
theorem HOk.lt(x:HOk P w H h)(e:H a=some o):a < h.objs.size:=(x a o e).lt
theorem HOk.fresh(x:HOk P w H h)(e:h.objs.size≤a):H a=none:=by
  cases q:H a with
  | none=>rfl
  | some u=>exact absurd (Nat.lt_of_lt_of_le (x.lt q) e) (Nat.lt_irrefl _)
theorem HOk.kept(x:HOk P w H h)(k:∀b u,h.get? b=some u→h'.get? b=some u):HOk P w H h':=fun a o e=>
  (x a o e).stay (fun b u _ q=>k b u q) (fun _ q=>q) fun _ _ q=>q
theorem HOk.laid(x:HOk P w H h)(k:∀b u,h.get? b=some u→h'.get? b=some u)(hp:h.objs.size≤a)(new:ObjOk P w (upd H a o) h' a o):HOk P w (upd H a o) h':=fun b u e=>by
  have hn:=x.fresh hp
  by_cases hb:b=a
  · subst hb;rw[upd_same]at e;cases e;exact new
  · rw[upd_ne hb]at e
    exact(x b u e).stay (fun c v _ q=>k c v q) (fun c q=>by rw[upd_ne (ne_of_none q hn)];exact q) fun c xs q=>by rw[upd_ne (ne_of_none q hn)];exact q
end
def Rd(H:Hp)(a:Addr)(u:HO):Prop:=H a=some u∨∃o,H a=some (.frz o u)
theorem Rd.of{H:Hp}{a:Addr}{u:HO}(h:H a=some u):Rd H a u:=.inl h
theorem Rd.ok{P:Program}{w:World}{H:Hp}{h:Heap}{a:Addr}{u:HO}(r:Rd H a u)(x:HOk P w H h):ObjOk P w H h a u:=by
  rcases r with r | ⟨o,r⟩
  · exact x a u r
  · obtain⟨_,q⟩:=x a _ r
    exact q
def Mut:Option HO→Prop
  | some (.lst _)=>True
  | some (.dK _)=>True
  | some (.dT _)=>True
  | some (.set _ _)=>True
  | some (.ins _ _ _)=>True
  | some (.ext _)=>True
  | _=>False
section
variable{P:Program}{w:World}{H:Hp}{h h':Heap}{x e:Addr}{o':HO}
theorem HOk.write(ok:HOk P w H h)(mu:Mut (H x))(he:e=x∨H e=some (.own x))(k:∀b u,b≠e→h.get? b=some u→h'.get? b=some u)(heo:∃u,h'.get? e=some u)
    (new:ObjOk P w (upd H x o') h' x o'):HOk P w (upd H x o') h':=fun b u q=>by
  have nown:∀c y,H c=some (.own y)→c≠x:=fun c y r z=>by subst z;rw[r]at mu;exact mu
  have ntup:∀c xs,H c=some (.tup xs)→c≠x:=fun c xs r z=>by subst z;rw[r]at mu;exact mu
  by_cases hb:b=x
  · subst hb;rw[upd_same]at q;cases q;exact new
  · rw[upd_ne hb]at q
    by_cases hbe:b=e
    · have q':H b=some (.own x):=by
        rcases he with z | z
        · exact absurd (hbe.trans z) hb
        · rw[hbe];exact z
      rw[q]at q';cases q'
      obtain⟨v,hv⟩:=heo
      exact⟨v,by rw[hbe];exact hv⟩
    · refine(ok b u q).stay (fun c v hc r=>k c v ?_ r) (fun c r=>by rw[upd_ne (nown c b r)];exact r) fun c xs r=>by rw[upd_ne (ntup c xs r)];exact r
      rcases hc with rfl | hc
      · exact hbe
      · rintro rfl
        rcases he with z | z
        · exact nown c b hc z
        · rw[hc]at z;cases z;exact hb rfl
end
structure Un(fs ex:List Addr)(H H':Hp)(h h':Heap):Prop where
  keep:∀b o,h.get? b=some o→H b=none→b ∉ fs→b ∉ ex→h'.get? b=some o
  slot:∀b o,h.get? b=some o→H b=none→b∈fs→b ∉ ex→∃sl,h'.get? b=some { o with slots:=sl }
  free:∀b o,h.get? b=some o→H b=none→b ∉ ex→H' b=none
  there:∀b o,h.get? b=some o→b ∉ ex→∃o',h'.get? b=some o'
  tups:∀b xs,H b=some (.tup xs)→H' b=some (.tup xs)
  frzs:∀b o u,H b=some (.frz o u)→H' b=some (.frz o u)
  tbls:∀b ps,H b=some (.tbl ps)→∃more,H' b=some (.tbl (ps++more))
section
variable{fs fs' ex ex':List Addr}{H H1 H2:Hp}{h h1 h2 h':Heap}{a x e:Addr}{o:HO}
theorem Un.any(u:Un fs ex H H1 h h1){b:Addr}{ob:Obj}(q:h.get? b=some ob)(n:H b=none)(hx:b ∉ ex):∃sl,h1.get? b=some { ob with slots:=sl }:=by
  by_cases hb:b∈fs
  · exact u.slot b ob q n hb hx
  · exact⟨ob.slots,u.keep b ob q n hb hx⟩
theorem Un.trans(a:Un fs ex H H1 h h1)(b:Un fs ex H1 H2 h1 h2):Un fs ex H H2 h h2 where
  keep:=fun c ob q n hc hx=>b.keep c ob (a.keep c ob q n hc hx) (a.free c ob q n hx) hc hx
  slot:=fun c ob q n hc hx=>by
    obtain⟨sl,e1⟩:=a.slot c ob q n hc hx
    obtain⟨sl',e2⟩:=b.slot c _ e1 (a.free c ob q n hx) hc hx
    exact⟨sl',e2⟩
  free:=fun c ob q n hx=>by
    obtain⟨o',e1⟩:=a.there c ob q hx
    exact b.free c o' e1 (a.free c ob q n hx) hx
  there:=fun c ob q hx=>by
    obtain⟨o',e1⟩:=a.there c ob q hx
    exact b.there c o' e1 hx
  tups:=fun c xs q=>b.tups c xs (a.tups c xs q)
  frzs:=fun c ob xs q=>b.frzs c ob xs (a.frzs c ob xs q)
  tbls:=fun c ps q=>by
    obtain⟨m1,e1⟩:=a.tbls c ps q
    obtain⟨m2,e2⟩:=b.tbls c _ e1
    exact⟨m1++m2,by rw[e2,Array.append_assoc]⟩
theorem Un.kept(k:∀b u,h.get? b=some u→h'.get? b=some u):Un fs ex H H h h':=
  ⟨fun b ob q _ _ _=>k b ob q,fun b ob q _ _ _=>⟨ob.slots,k b ob q⟩,fun _ _ _ n _=>n,fun b ob q _=>⟨ob,k b ob q⟩,fun _ _ q=>q,fun _ _ _ q=>q,fun _ ps q=>⟨#[],by rw[q];simp⟩⟩
theorem Un.refl:Un fs ex H H h h:=Un.kept fun _ _ q=>q
theorem Un.laid(k:∀b u,h.get? b=some u→h'.get? b=some u)(hp:h.objs.size≤a)(hn:H a=none):Un fs ex H (upd H a o) h h' where
  keep:=fun b u q _ _ _=>k b u q
  slot:=fun b u q _ _ _=>⟨u.slots,k b u q⟩
  free:=fun b u q n _=>by rw[upd_ne (Nat.ne_of_lt (Nat.lt_of_lt_of_le (Heap.lt_size q) hp))];exact n
  there:=fun b u q _=>⟨u,k b u q⟩
  tups:=fun b xs q=>by rw[upd_ne (ne_of_none q hn)];exact q
  frzs:=fun b u xs q=>by rw[upd_ne (ne_of_none q hn)];exact q
  tbls:=fun b ps q=>⟨#[],by rw[upd_ne (ne_of_none q hn),q];simp⟩
theorem Un.write(mu:Mut (H x))(he:e=x∨H e=some (.own x))(k:∀b u,b≠e→h.get? b=some u→h'.get? b=some u)(heo:∃u,h'.get? e=some u):Un fs ex H (upd H x o) h h':=by
  have hx:∀b,H b=none→b≠x:=fun b n z=>by subst z;rw[n]at mu;exact mu
  have hb:∀b,H b=none→b≠e:=fun b n z=>by
    subst z
    rcases he with r | r
    · exact hx b n r
    · rw[n]at r;cases r
  have hm:∀b u,H b=some u→¬Mut (some u)→b≠x:=fun b u q nm z=>by subst z;rw[q]at mu;exact nm mu
  refine⟨fun b u q n _ _=>k b u (hb b n) q,fun b u q n _ _=>⟨u.slots,k b u (hb b n) q⟩,fun b u q n _=>by rw[upd_ne (hx b n)];exact n,fun b u q _=>?_,
    fun b xs q=>by rw[upd_ne (hm b _ q fun z=>z)];exact q,fun b u xs q=>by rw[upd_ne (hm b _ q fun z=>z)];exact q,fun b ps q=>⟨#[],by rw[upd_ne (hm b _ q fun z=>z),q];simp⟩⟩
  by_cases hbe:b=e
  · subst hbe;exact heo
  · exact⟨u,k b u hbe q⟩
theorem Un.mono(u:Un fs ex H H1 h h1)(hs:∀b∈fs,b∈fs')(hx:∀b∈ex,b∈ex'):Un fs' ex' H H1 h h1:=
  ⟨fun b ob q n hb he=>u.keep b ob q n (fun z=>hb (hs b z)) fun z=>he (hx b z),fun _ _ q n _ he=>u.any q n fun z=>he (hx _ z),fun b ob q n he=>u.free b ob q n fun z=>he (hx b z),fun b ob q he=>u.there b ob q fun z=>he (hx b z),u.tups,u.frzs,u.tbls⟩
end
def trk(h:Heap)(H:Hp):List Addr:=(List.range h.objs.size).filter fun a=>(H a).isSome
def hidT(h:Heap)(H:Hp):Heap:=PySem.W.hideAll h (trk h H)
theorem hidT_size(h:Heap)(H:Hp):(hidT h H).objs.size=h.objs.size:=PySem.W.hideAll_size _ _
theorem hidT_get{h:Heap}{H:Hp}{b:Addr}{o:Obj}(e:h.get? b=some o)(n:H b=none):(hidT h H).get? b=some o:=
  PySem.W.hideAll_get _ e fun hm=>by
    have q:(H b).isSome=true:=(List.mem_filter.mp hm).2
    rw[n]at q;simp at q
theorem of_hidT{h:Heap}{H:Hp}{b:Addr}{o:Obj}(e:(hidT h H).get? b=some o):h.get? b=some o∧H b=none:=by
  have e':h.get? b=some o:=PySem.W.of_hideAll (trk h H) e
  refine⟨e',?_⟩
  cases q:H b with
  | none=>rfl
  | some x=>
    have hm:b∈trk h H:=List.mem_filter.mpr ⟨List.mem_range.mpr (Heap.lt_size e'),by simp[q]⟩
    have z:(hidT h H).get? b=none:=PySem.W.hideAll_none (trk h H) hm
    rw[z]at e;cases e
def allNews(g h:Heap)(L:Addr):List (Addr × Obj):=(List.range h.objs.size).filterMap fun a=>if a=L∨(g.get? a).isSome=true then none else(h.get? a).map fun o=>(a,o)
def rest(g h:Heap)(L d:Addr):List (Addr × Obj):=(allNews g h L).filter fun p=>decide (p.1≠d)
end L2
namespace L2
open PySem PySem.Spec PyProof.Rows
structure Mod(K:PySem.W.Frag)(mg:Str→Option Value)(base:Heap):Prop where
  kin:K.In base
  glob:base.Ns mainGlobals mg
  blt:∃mb,base.Ns builtinsNs mb∧∀x:Str,x≠"__name__"→mb x=bootBuiltins x
  nolimit:base.NoLimit
  seer:base.NoSeer
set_option genInjectivity false in
set_option genSizeOfSpec false in
structure Cx where
  prog:Program
  w:World
  K:PySem.W.Frag
  mg:Str→Option Value
  base:Heap
  A:Around
  N:List Str
  s₀:Shared
  H₀:Hp
  env:Env
  outer:List Env
  stack:List Env
  ex:List Addr
  fn:Str→Bool
  calm:Bool
  pn:List (Addr × Obj)
  xe:Value→Shared→Prop
def frs(l:List Env):List Addr:=l.filterMap (·.frame)
abbrev Cx.fs(X:Cx):List Addr:=frs X.outer
def Vis(sc:Scope)(x:Str):Prop:=sc.names.lookup x=some .local∨sc.names.lookup x=some .cell∨sc.names.lookup x=some .free
def Loc(sc:Scope)(x:Str):Prop:=sc.names.lookup x=some .local∨sc.names.lookup x=some .cell
def Look(env:Env)(h:Heap)(m:Str→Option Value)(x:Str)(u:Value):Prop:=
  (env.kindOf x=some .local∧m x=some u)∨((env.kindOf x=some .cell∨env.kindOf x=some .free)∧∃c,env.cells.lookup x=some c∧h.IsCell c (some u))
structure Cx.Ok(X:Cx):Prop where
  mod:Mod X.K X.mg X.base
  kind:X.env.scope.kind=.function
  glob:X.env.globals=mainGlobals
  blt:X.env.builtins=builtinsNs
  above:X.s₀.heap.objs.size≤X.env.locals
  inj:∀x y c,X.env.cells.lookup x=some c→X.env.cells.lookup y=some c→x=y
  has:∀x,(X.env.kindOf x=some .cell∨X.env.kindOf x=some .free)→∃c,X.env.cells.lookup x=some c
  cab:∀x c,X.fn x=true→X.env.cells.lookup x=some c→X.s₀.heap.objs.size≤c
  hd:X.calm=true→X.A.handled=none
  frames:X.A.frames=some X.stack
  stk:X.stack=X.outer∨(X.stack=X.env::X.outer∧X.env.frame=some X.env.locals)
  exf:∀b∈X.ex,b≠X.env.locals∧∀x c,X.env.cells.lookup x=some c→c≠b
  bs:∀b o,X.base.get? b=some o→X.s₀.heap.get? b=some o∧X.H₀ b=none
  bsz:X.base.objs.size≤X.s₀.heap.objs.size
  noex:∀b o,X.base.get? b=some o→b ∉ X.ex
  exfs:∀b∈X.ex,b ∉ X.fs
  funs:X.s₀.heap.FunFrames X.base X.outer
  frf:∀b∈X.fs,X.H₀ b=none
structure Inv(X:Cx)(pins:List (Addr × Obj))(σ:List (Option V))(H:Hp)(s:Shared):Prop where
  ok:X.Ok
  os:s.os=X.s₀.os
  bare:AllBare s.gens
  base:Un X.fs X.ex X.H₀ H X.s₀.heap s.heap
  loc:∃m,s.heap.Ns X.env.locals m∧∀(i:Nat) (x:Str) (v:V),X.N[i]? = some x→σ[i]? = some (some v)→Vis X.env.scope x→∃u,RelV v u∧Look X.env s.heap m x u
  cell:∀x c,X.env.cells.lookup x=some c→∃v,s.heap.IsCell c v
  free:H X.env.locals=none
  freeC:∀x c,X.env.cells.lookup x=some c→H c=none
  pin:∀p∈X.pn++pins,s.heap.get? p.1=some p.2∧H p.1=none∧p.1≠X.env.locals∧p.1 ∉ X.fs∧∀v,p.2.data≠.cell v
  hok:HOk X.prog X.w H s.heap
  len:σ.length=X.N.length
section
variable{X:Cx}{pins:List (Addr × Obj)}{σ:List (Option V)}{H H':Hp}{s:Shared}{h':Heap}
theorem Cx.Ok.nofr(ok:X.Ok){b:Addr}{o:Obj}(e:X.base.get? b=some o):b ∉ X.fs:=fun hb=>by
  have:=(ok.funs.mem hb).1
  rw[e]at this;cases this
theorem Inv.bs(I:Inv X pins σ H s):∀b o,X.base.get? b=some o→s.heap.get? b=some o∧H b=none:=fun b o e=>
  ⟨I.base.keep b o (I.ok.bs b o e).1 (I.ok.bs b o e).2 (I.ok.nofr e) (I.ok.noex b o e),I.base.free b o (I.ok.bs b o e).1 (I.ok.bs b o e).2 (I.ok.noex b o e)⟩
theorem Inv.bk(I:Inv X pins σ H s):∀b o,X.base.get? b=some o→s.heap.get? b=some o:=fun b o e=>(I.bs b o e).1
theorem Inv.mod(I:Inv X pins σ H s):Mod X.K X.mg X.base:=I.ok.mod
theorem Inv.kIn(I:Inv X pins σ H s):X.K.In s.heap:=I.ok.mod.kin.keeps I.bk
theorem Inv.nolimit(I:Inv X pins σ H s):s.heap.NoLimit:=I.ok.mod.nolimit.keeps I.bk
theorem Inv.fr(I:Inv X pins σ H s):∃m,Fr X.base X.env.locals s.heap m:=
  let⟨m,hn,_⟩:=I.loc
  ⟨m,hn,I.bk,Nat.le_trans I.ok.bsz I.ok.above⟩
theorem Inv.lt(I:Inv X pins σ H s):X.env.locals < s.heap.objs.size:=let⟨_,hn,_⟩:=I.loc;hn.lt
theorem Inv.sz(I:Inv X pins σ H s):X.s₀.heap.objs.size≤s.heap.objs.size:=Nat.le_trans I.ok.above (Nat.le_of_lt I.lt)
theorem Inv.nofs(I:Inv X pins σ H s){a:Addr}(h:s.heap.objs.size≤a):a ∉ X.fs:=fun hb=>by
  obtain⟨_,o,ho,_⟩:=I.ok.funs.mem hb
  exact absurd (Nat.lt_of_lt_of_le (Heap.lt_size ho) (Nat.le_trans I.sz h)) (Nat.lt_irrefl _)
theorem Inv.cne(I:Inv X pins σ H s):∀x c,X.env.cells.lookup x=some c→c≠X.env.locals:=fun x c e z=>by
  obtain⟨v,o,ho,hd⟩:=I.cell x c e
  obtain⟨m,⟨o',es,ep,ho',hd',_⟩,_⟩:=I.loc
  rw[z,ho']at ho;cases ho;rw[hd']at hd;cases hd
theorem Inv.funs(I:Inv X pins σ H s):s.heap.FunFrames X.base X.outer:=by
  have all:∀(l:List Env),(∀b∈frs l,b∈X.fs)→X.s₀.heap.FunFrames X.base l→s.heap.FunFrames X.base l:=by
    intro l
    induction l with
    | nil=>intro _ _;trivial
    | cons env r ih=>
      intro hs hl
      obtain⟨hk,⟨L,o,hf,hn,ho,hd⟩,hr⟩:=hl
      have hL:L∈X.fs:=hs L (by unfold frs;rw[List.filterMap_cons,hf];exact List.mem_cons_self)
      obtain⟨sl,e⟩:=I.base.slot L o ho (I.ok.frf L hL) hL fun z=>I.ok.exfs L z hL
      exact⟨hk,⟨L,_,hf,hn,e,hd⟩,ih (fun b hb=>hs b (by unfold frs;rw[List.filterMap_cons,hf];exact List.mem_cons_of_mem _ hb)) hr⟩
  exact all X.outer (fun _ hb=>hb) I.ok.funs
theorem Inv.stack(I:Inv X pins σ H s):s.heap.FunFrames X.base X.stack:=by
  rcases I.ok.stk with e | ⟨e,hf⟩
  · rw[e];exact I.funs
  · rw[e]
    obtain⟨m,hn,_⟩:=I.loc
    refine .cons (by rw[I.ok.kind];decide) hf hn ?_ I.funs
    exact Heap.get?_none_of_le (Nat.le_trans I.ok.bsz I.ok.above)
theorem Inv.stkSub(I:Inv X pins σ H s):∀b∈frs X.stack,b∈X.env.locals::X.fs:=fun b hb=>by
  rcases I.ok.stk with e | ⟨e,hf⟩
  · rw[e]at hb;exact List.mem_cons_of_mem _ hb
  · rw[e]at hb
    unfold frs at hb
    rw[List.filterMap_cons,hf]at hb
    exact hb
theorem Inv.stkFree(I:Inv X pins σ H s):∀b∈frs X.stack,H b=none:=fun b hb=>by
  rcases List.mem_cons.mp (I.stkSub b hb)with e | hb
  · rw[e];exact I.free
  · obtain⟨_,o,ho,_⟩:=I.ok.funs.mem hb
    exact I.base.free b o ho (I.ok.frf b hb) fun z=>I.ok.exfs b z hb
theorem Inv.step{g':Array GenState}{t':Nat}{d':Drawn}{ch:List Addr}(I:Inv X pins σ H s)
    (hch:∀b∈ch,(b∈X.ex∨X.s₀.heap.objs.size≤b)∧b≠X.env.locals∧(∀x c,X.env.cells.lookup x=some c→c≠b)∧∀p∈X.pn++pins,p.1≠b)
    (keep:∀b o,b≠X.env.locals→b ∉ X.fs→b ∉ ch→s.heap.get? b=some o→H b=none→h'.get? b=some o)
    (slot:∀b o,b≠X.env.locals→b∈X.fs→b ∉ ch→s.heap.get? b=some o→H b=none→∃sl,h'.get? b=some { o with slots:=sl }) (free:∀b o,b ∉ ch→s.heap.get? b=some o→H b=none→H' b=none)
    (there:∀b o,b ∉ ch→s.heap.get? b=some o→∃o',h'.get? b=some o')
    (tups:∀b xs,H b=some (.tup xs)→H' b=some (.tup xs)) (frzs:∀b o u,H b=some (.frz o u)→H' b=some (.frz o u)) (tbls:∀b ps,H b=some (.tbl ps)→∃more,H' b=some (.tbl (ps++more)))
    (ns:∀m,s.heap.Ns X.env.locals m→h'.Ns X.env.locals m) (hok:HOk X.prog X.w H' h') (hg:AllBare g') :
    Inv X pins σ H' { s with heap:=h',gens:=g',drawn:=d',toks:=t' }:=by
  have neL:∀b o,X.s₀.heap.get? b=some o→b≠X.env.locals:=fun b o e=>Nat.ne_of_lt (Nat.lt_of_lt_of_le (Heap.lt_size e) I.ok.above)
  have neC:∀b o,X.s₀.heap.get? b=some o→b ∉ X.ex→b ∉ ch:=fun b o e hx hb=>by
    rcases(hch b hb).1 with z | z
    · exact hx z
    · exact absurd (Nat.lt_of_lt_of_le (Heap.lt_size e) z) (Nat.lt_irrefl _)
  have cellK:∀x c,X.env.cells.lookup x=some c→∀v,s.heap.IsCell c v→h'.IsCell c v:=fun x c e v ⟨o,ho,hd⟩=>by
    have nch:c ∉ ch:=fun z=>(hch c z).2.2.1 x c e rfl
    by_cases hc:c∈X.fs
    · obtain⟨sl,q⟩:=slot c o (I.cne x c e) hc nch ho (I.freeC x c e)
      exact⟨_,q,hd⟩
    · exact⟨o,keep c o (I.cne x c e) hc nch ho (I.freeC x c e),hd⟩
  refine⟨I.ok,I.os,hg,⟨fun b o e n hb hx=>?_,fun b o e n hb hx=>?_,fun b o e n hx=>?_,fun b o e hx=>?_,fun b xs e=>tups b xs (I.base.tups b xs e),fun b o xs e=>frzs b o xs (I.base.frzs b o xs e),fun b ps e=>?_⟩,?_,fun x c e=>?_,?_,fun x c e=>?_,fun p hp=>?_,hok,I.len⟩
  · exact keep b o (neL b o e) hb (neC b o e hx) (I.base.keep b o e n hb hx) (I.base.free b o e n hx)
  · obtain⟨sl,e1⟩:=I.base.slot b o e n hb hx
    obtain⟨sl',e2⟩:=slot b _ (neL b o e) hb (neC b o e hx) e1 (I.base.free b o e n hx)
    exact⟨sl',e2⟩
  · obtain⟨o',e1⟩:=I.base.there b o e hx
    exact free b o' (neC b o e hx) e1 (I.base.free b o e n hx)
  · obtain⟨o',e1⟩:=I.base.there b o e hx
    exact there b o' (neC b o e hx) e1
  · obtain⟨m1,e1⟩:=I.base.tbls b ps e
    obtain⟨m2,e2⟩:=tbls b _ e1
    exact⟨m1++m2,by rw[e2,Array.append_assoc]⟩
  · obtain⟨m,hn,hl⟩:=I.loc
    refine⟨m,ns m hn,fun i x v e1 e2 e3=>?_⟩
    obtain⟨u,r,l⟩:=hl i x v e1 e2 e3
    refine⟨u,r,?_⟩
    rcases l with l | ⟨k,c,e,z⟩
    · exact .inl l
    · exact .inr ⟨k,c,e,cellK x c e _ z⟩
  · obtain⟨v,z⟩:=I.cell x c e
    exact⟨v,cellK x c e v z⟩
  · obtain⟨m,⟨o,_,_,ho,_⟩,_⟩:=I.loc
    exact free _ o (fun z=>(hch _ z).2.1 rfl) ho I.free
  · obtain⟨v,o,ho,hd⟩:=I.cell x c e
    exact free c o (fun z=>(hch c z).2.2.1 x c e rfl) ho (I.freeC x c e)
  · obtain⟨e,n,ne,nf,d⟩:=I.pin p hp
    have nch:p.1 ∉ ch:=fun z=>(hch p.1 z).2.2.2 p hp rfl
    exact⟨keep p.1 p.2 ne nf nch e n,free p.1 p.2 nch e n,ne,nf,d⟩
theorem Inv.un{t':Nat}(I:Inv X pins σ H s)(u:Un X.fs [] H H' s.heap h')(hok:HOk X.prog X.w H' h'):Inv X pins σ H' { s with heap:=h',toks:=t' }:=by
  obtain⟨m,⟨o,es,ep,ho,r⟩,_⟩:=id I.loc
  obtain⟨sl,hL⟩:=u.any ho I.free (by simp)
  exact I.step (g':=s.gens) (d':=s.drawn) (ch:=[]) (fun _ z=>nomatch z) (fun b o _ hb _ e n=>u.keep b o e n hb (by simp)) (fun b o _ hb _ e n=>u.slot b o e n hb (by simp)) (fun b o _ e n=>u.free b o e n (by simp)) (fun b o _ e=>u.there b o e (by simp)) u.tups u.frzs u.tbls (fun m' hm=>by
    obtain⟨o',es',ep',ho',r'⟩:=hm
    rw[ho]at ho';cases ho'
    exact⟨_,es',ep',hL,r'⟩) hok I.bare
theorem Inv.call{g':Array GenState}{t':Nat}{d':Drawn}{ch:List Addr}(I:Inv X pins σ H s)(u:Un (frs X.stack) ch H H' s.heap h')(hok:HOk X.prog X.w H' h')(hg:AllBare g')
    (hch:∀b∈ch,(b∈X.ex∨X.s₀.heap.objs.size≤b)∧b≠X.env.locals∧(∀x c,X.env.cells.lookup x=some c→c≠b)∧∀p∈X.pn++pins,p.1≠b) :
    Inv X pins σ H' { s with heap:=h',gens:=g',drawn:=d',toks:=t' }:=by
  obtain⟨m,⟨o,es,ep,ho,r⟩,_⟩:=id I.loc
  obtain⟨sl,hL⟩:=u.any ho I.free fun z=>(hch _ z).2.1 rfl
  exact I.step (ch:=ch) hch (fun b o hL hb hc e n=>u.keep b o e n (fun z=>(List.mem_cons.mp (I.stkSub b z)).elim hL hb) hc) (fun b o _ _ hc e n=>u.any e n hc) (fun b o hc e n=>u.free b o e n hc) (fun b o hc e=>u.there b o e hc) u.tups u.frzs u.tbls (fun m' hm=>by
    obtain⟨o',es',ep',ho',r'⟩:=hm
    rw[ho]at ho';cases ho'
    exact⟨_,es',ep',hL,r'⟩) hok hg
theorem Inv.turned{t':Nat}{it:Addr}(I:Inv X pins σ H s)(k:∀b o,b≠it→s.heap.get? b=some o→h'.get? b=some o)(hn:H it=none)(hL:it≠X.env.locals)
    (h1:it∈X.ex∨X.s₀.heap.objs.size≤it) (h2:∀x c,X.env.cells.lookup x=some c→c≠it) (h3:∀p∈X.pn++pins,p.1≠it):Inv X pins σ H { s with heap:=h',toks:=t' }:=by
  have nit:∀b u,H b=some u→b≠it:=fun b u e z=>by rw[z,hn]at e;cases e
  refine I.step (g':=s.gens) (d':=s.drawn) (ch:=[it]) (fun b hb=>?_) (fun b o _ _ hc e _=>k b o (fun z=>hc (by simp[z])) e) (fun b o _ _ hc e _=>⟨o.slots,k b o (fun z=>hc (by simp[z])) e⟩) (fun _ _ _ _ n=>n)
    (fun b o hc e=>⟨o,k b o (fun z=>hc (by simp[z])) e⟩) (fun _ _ e=>e) (fun _ _ _ e=>e) (fun b ps e=>⟨#[],by rw[e];simp⟩) (fun m hm=>?_) (fun b u e=>?_) I.bare
  · have e:b=it:=by simpa using hb
    subst e
    exact⟨h1,hL,h2,h3⟩
  · obtain⟨o,es,ep,ho,r⟩:=hm
    exact⟨o,es,ep,k _ o (Ne.symm hL) ho,r⟩
  · refine(I.hok b u e).stay (fun c v hc q=>k c v ?_ q) (fun _ q=>q) fun _ _ q=>q
    rcases hc with z | z
    · rw[z];exact nit b u e
    · exact nit c _ z
theorem Inv.tok(I:Inv X pins σ H s)(t:Nat):Inv X pins σ H { s with toks:=t }:=I.un (h':=s.heap) (t':=t) Un.refl I.hok
theorem Inv.kept{t':Nat}(I:Inv X pins σ H s)(k:∀b u,s.heap.get? b=some u→h'.get? b=some u):Inv X pins σ H { s with heap:=h',toks:=t' }:=I.un (Un.kept k) (I.hok.kept k)
theorem Inv.laid{a:Addr}{o:HO}{t':Nat}(I:Inv X pins σ H s)(k:∀b u,s.heap.get? b=some u→h'.get? b=some u)(hp:s.heap.objs.size≤a)(new:ObjOk X.prog X.w (upd H a o) h' a o) :
    Inv X pins σ (upd H a o) { s with heap:=h',toks:=t' }:=I.un (Un.laid k hp (I.hok.fresh hp)) (I.hok.laid k hp new)
theorem Inv.write{x e:Addr}{o:HO}{t':Nat}(I:Inv X pins σ H s)(mu:Mut (H x))(he:e=x∨H e=some (.own x))(k:∀b u,b≠e→s.heap.get? b=some u→h'.get? b=some u)(heo:∃u,h'.get? e=some u)
    (new:ObjOk X.prog X.w (upd H x o) h' x o):Inv X pins σ (upd H x o) { s with heap:=h',toks:=t' }:=I.un (Un.write mu he k heo) (I.hok.write mu he k heo new)
theorem Inv.weak{σ':List (Option V)}(I:Inv X pins σ H s)(hl:σ'.length=σ.length)(w:∀(i:Nat) v,σ'[i]? = some (some v)→σ[i]? = some (some v)):Inv X pins σ' H s:=
  ⟨I.ok,I.os,I.bare,I.base,let⟨m,hn,hl'⟩:=I.loc;⟨m,hn,fun i x v e1 e2 e3=>hl' i x v e1 (w i v e2) e3⟩,I.cell,I.free,I.freeC,I.pin,I.hok,hl.trans I.len⟩
theorem Inv.pins_of{pins':List (Addr × Obj)}(I:Inv X pins σ H s)(h:∀p∈pins',s.heap.get? p.1=some p.2∧H p.1=none∧p.1≠X.env.locals∧p.1 ∉ X.fs∧∀v,p.2.data≠.cell v):Inv X pins' σ H s:=
  ⟨I.ok,I.os,I.bare,I.base,I.loc,I.cell,I.free,I.freeC,fun p hp=>(List.mem_append.mp hp).elim (fun z=>I.pin p (List.mem_append_left _ z)) (h p),I.hok,I.len⟩
theorem nodup_ix{N:List Str}(hN:N.Nodup){i j:Nat}{x:Str}(a:N[i]? = some x)(b:N[j]? = some x):i=j:=by
  obtain⟨h1,e1⟩:=List.getElem?_eq_some_iff.mp a
  obtain⟨h2,e2⟩:=List.getElem?_eq_some_iff.mp b
  exact(List.getElem_inj hN).mp (e1.trans e2.symm)
theorem store_ok2{M:Model}{A:Around}{E:Value→Shared→Prop}{i:Nat}{x:Str}{v:V}{u:Value}{Q:Unit→Shared→Prop}(I:Inv X pins σ H s)(hN:X.N.Nodup)(hi:X.N[i]? = some x)(hx:Loc X.env.scope x)(r:RelV v u)
    (h:∀s',Inv X pins (σ.set i (some v)) H s'→(∃a,Heap.SameBut a s.heap s'.heap∧(a=X.env.locals∨X.env.cells.lookup x=some a))→Q () s') (hf:X.fn x=true∨X.env.scope.names.lookup x=some .local:=by first | exact .inl rfl | exact .inr rfl | assumption):wpAny M A (storeName X.env x u) Q E s:=by
  obtain⟨m,hn,hl⟩:=id I.loc
  have hcls:(X.env.scope.kind == .class || (X.env.scope.kind == .module && X.env.locals != X.env.globals))=false:=by rw[I.ok.kind];rfl
  have hiσ:i < σ.length:=by rw[I.len];exact(List.getElem?_eq_some_iff.mp hi).1
  have cne:=I.cne
  have tracked:∀{a:Addr} {h':Heap},(∃o,s.heap.get? a=some o∧H a=none)→Heap.SameBut a s.heap h'→HOk X.prog X.w H h':=fun{a h'} ha hs b ob e=>by
    obtain⟨_,_,hfree⟩:=ha
    refine(I.hok b ob e).stay (fun c w' hc q=>(hs.2 c ?_).trans q) (fun _ q=>q) fun _ _ q=>q
    rintro rfl
    rcases hc with rfl | hc
    · rw[hfree]at e;cases e
    · rw[hfree]at hc;cases hc
  rcases hx with hk | hk
  · refine wpAny_storeName_local hk hn (fun h' hn' hs=>?_) hcls
    obtain⟨oL,_,_,hoL,_⟩:=id hn
    refine h _ ⟨I.ok,I.os,I.bare,⟨fun b o e n hb hx=>?_,fun b o e n hb hx=>?_,I.base.free,fun b o e hx=>?_,I.base.tups,I.base.frzs,I.base.tbls⟩,⟨_,hn',fun j y v' e1 e2 e3=>?_⟩,fun y c e=>?_,I.free,I.freeC,fun p hp=>?_,tracked ⟨oL,hoL,I.free⟩ hs,by simpa using I.len⟩ ⟨_,hs,.inl rfl⟩
    · exact(hs.2 b (Nat.ne_of_lt (Nat.lt_of_lt_of_le (Heap.lt_size e) I.ok.above))).trans (I.base.keep b o e n hb hx)
    · obtain⟨sl,e1⟩:=I.base.slot b o e n hb hx
      exact⟨sl,(hs.2 b (Nat.ne_of_lt (Nat.lt_of_lt_of_le (Heap.lt_size e) I.ok.above))).trans e1⟩
    · obtain⟨o',e1⟩:=I.base.there b o e hx
      exact⟨o',(hs.2 b (Nat.ne_of_lt (Nat.lt_of_lt_of_le (Heap.lt_size e) I.ok.above))).trans e1⟩
    · by_cases hj:j=i
      · subst hj
        rw[hi]at e1;cases e1
        rw[List.getElem?_set_self hiσ]at e2
        cases e2
        exact⟨u,r,.inl ⟨hk,by simp⟩⟩
      · rw[List.getElem?_set_ne (Ne.symm hj)]at e2
        obtain⟨u',r',q⟩:=hl j y v' e1 e2 e3
        refine⟨u',r',?_⟩
        rcases q with ⟨k,e⟩ | ⟨k,c,e,z⟩
        · refine .inl ⟨k,?_⟩
          have:y≠x:=fun e=>hj (nodup_ix hN e1 (e▸hi))
          simp[this,e]
        · exact .inr ⟨k,c,e,z.sameBut hs (cne y c e)⟩
    · obtain⟨w',z⟩:=I.cell y c e
      exact⟨w',z.sameBut hs (cne y c e)⟩
    · obtain⟨e,n,ne,nf,d⟩:=I.pin p hp
      exact⟨(hs.2 p.1 ne).trans e,n,ne,nf,d⟩
  · have hfn:X.fn x=true:=by
      rcases hf with z | z
      · exact z
      · rw[z]at hk;cases hk
    obtain⟨c,hc⟩:=I.ok.has x (.inl hk)
    obtain⟨w',z⟩:=I.cell x c hc
    refine wpAny_storeName_cell I.ok.kind hk hc z (fun h' hc' hs=>?_)
    obtain⟨oc,hoc,hocd⟩:=id z
    refine h { s with heap:=h' } ⟨I.ok,I.os,I.bare,⟨fun b o e n hb hx=>?_,fun b o e n hb hx=>?_,I.base.free,fun b o e hx=>?_,I.base.tups,I.base.frzs,I.base.tbls⟩,⟨m,hn.sameBut hs (Ne.symm (cne x c hc)),fun j y v' e1 e2 e3=>?_⟩,fun y c' e=>?_,I.free,I.freeC,fun p hp=>?_,tracked ⟨oc,hoc,I.freeC x c hc⟩ hs,by simpa using I.len⟩ ⟨c,hs,.inr hc⟩
    · exact(hs.2 b (Nat.ne_of_lt (Nat.lt_of_lt_of_le (Heap.lt_size e) (I.ok.cab x c hfn hc)))).trans (I.base.keep b o e n hb hx)
    · obtain⟨sl,e1⟩:=I.base.slot b o e n hb hx
      exact⟨sl,(hs.2 b (Nat.ne_of_lt (Nat.lt_of_lt_of_le (Heap.lt_size e) (I.ok.cab x c hfn hc)))).trans e1⟩
    · obtain⟨o',e1⟩:=I.base.there b o e hx
      exact⟨o',(hs.2 b (Nat.ne_of_lt (Nat.lt_of_lt_of_le (Heap.lt_size e) (I.ok.cab x c hfn hc)))).trans e1⟩
    · by_cases hj:j=i
      · subst hj
        rw[hi]at e1;cases e1
        rw[List.getElem?_set_self hiσ]at e2
        cases e2
        exact⟨u,r,.inr ⟨.inl hk,c,hc,hc'⟩⟩
      · rw[List.getElem?_set_ne (Ne.symm hj)]at e2
        obtain⟨u',r',q⟩:=hl j y v' e1 e2 e3
        refine⟨u',r',?_⟩
        rcases q with q | ⟨k,c',e,z'⟩
        · exact .inl q
        · refine .inr ⟨k,c',e,z'.sameBut hs ?_⟩
          rintro rfl
          exact hj (nodup_ix hN e1 (I.ok.inj _ _ _ e hc▸hi))
    · by_cases hcc:c'=c
      · subst hcc;exact⟨_,hc'⟩
      · obtain⟨w2,z2⟩:=I.cell y c' e
        exact⟨w2,z2.sameBut hs hcc⟩
    · obtain⟨e,n,ne,nf,d⟩:=I.pin p hp
      refine⟨(hs.2 p.1 ?_).trans e,n,ne,nf,d⟩
      intro q
      rw[q,hoc]at e
      have q':oc=p.2:=Option.some.inj e
      exact d w' (by rw[← q'];exact hocd)
theorem store_ok{M:Model}{A:Around}{E:Value→Shared→Prop}{i:Nat}{x:Str}{v:V}{u:Value}{Q:Unit→Shared→Prop}(I:Inv X pins σ H s)(hN:X.N.Nodup)(hi:X.N[i]? = some x)(hx:Loc X.env.scope x)(r:RelV v u)
    (h:∀s',Inv X pins (σ.set i (some v)) H s'→Q () s') (hf:X.fn x=true∨X.env.scope.names.lookup x=some .local:=by first | exact .inl rfl | exact .inr rfl | assumption):wpAny M A (storeName X.env x u) Q E s:=
  store_ok2 I hN hi hx r (fun s' I' _=>h s' I') hf
theorem Inv.call'{s':Shared}{ch:List Addr}(I:Inv X pins σ H s)(ho:s'.os=s.os)(u:Un (frs X.stack) ch H H' s.heap s'.heap)(hok:HOk X.prog X.w H' s'.heap)(hg:AllBare s'.gens)
    (hch:∀b∈ch,(b∈X.ex∨X.s₀.heap.objs.size≤b)∧b≠X.env.locals∧(∀x c,X.env.cells.lookup x=some c→c≠b)∧∀p∈X.pn++pins,p.1≠b):Inv X pins σ H' s':=by
  obtain⟨h',g',d',t',o'⟩:=s'
  have e:o'=s.os:=ho
  subst e
  exact I.call (g':=g') (t':=t') (d':=d') u hok hg hch
end
abbrev XK:=Value→Option Addr→Hp→Prop
abbrev St:=List (Option V)
abbrev VK:=V→Hp→Prop
abbrev TE:=St→Hp→VK→Prop
abbrev TT:=St→Hp→(Bool→Hp→Prop)→Prop
abbrev TA:=St→Hp→(List V→Hp→Prop)→Prop
structure Ends where
  nx:St→Hp→Prop
  rt:VK
  bk:St→Hp→Prop:=fun _ _=>False
  ct:St→Hp→Prop:=fun _ _=>False
abbrev TS:=Ends→St→Hp→Prop
def EP(X:Cx)(pins:List (Addr × Obj))(σ:St)(Q:VK)(u:Value)(s':Shared):Prop:=∃v H',Inv X pins σ H' s'∧RelV v u∧Q v H'
def TP(X:Cx)(pins:List (Addr × Obj))(σ:St)(Q:Bool→Hp→Prop)(b:Bool)(s':Shared):Prop:=∃H',Inv X pins σ H' s'∧Q b H'
def AP(X:Cx)(pins:List (Addr × Obj))(σ:St)(Q:List V→Hp→Prop)(us:List Value)(s':Shared):Prop:=∃vs H',Inv X pins σ H' s'∧Vals vs us∧Q vs H'
def SP(X:Cx)(pins:List (Addr × Obj))(D:Ends)(f:Flow)(s':Shared):Prop:=
  match f with
  | .next=>∃σ' H',Inv X pins σ' H' s'∧D.nx σ' H'
  | .brk=>∃σ' H',Inv X pins σ' H' s'∧D.bk σ' H'
  | .cont=>∃σ' H',Inv X pins σ' H' s'∧D.ct σ' H'
  | .ret u=>∃v σ' H',Inv X pins σ' H' s'∧RelV v u∧D.rt v H'
def PE(X:Cx)(e:Expr)(t:TE):Prop:=
  ∀(pins:List (Addr × Obj)) (s:Shared) (σ:St) (H:Hp) (Q:VK),Inv X pins σ H s→t σ H Q→wpAny (model X.prog X.w) X.A (eval e X.env) (EP X pins σ Q) X.xe s
def PT(X:Cx)(e:Expr)(t:TT):Prop:=
  ∀(pins:List (Addr × Obj)) (s:Shared) (σ:St) (H:Hp) (Q:Bool→Hp→Prop),Inv X pins σ H s→t σ H Q→wpAny (model X.prog X.w) X.A (isTrue e X.env (eval e X.env)) (TP X pins σ Q) X.xe s
def PW(X:Cx)(e:Expr)(t:TT):Prop:=
  ∀(whole:Sem Value) (pins:List (Addr × Obj)) (s:Shared) (σ:St) (H:Hp) (Q:Bool→Hp→Prop),Inv X pins σ H s→t σ H Q→wpAny (model X.prog X.w) X.A (isTrue e X.env whole) (TP X pins σ Q) X.xe s
theorem PW.pt{X:Cx}{e:Expr}{t:TT}(h:PW X e t):PT X e t:=h _
def PA(X:Cx)(es:List Expr)(t:TA):Prop:=
  ∀(pos:Pos) (pins:List (Addr × Obj)) (s:Shared) (σ:St) (H:Hp) (Q:List V→Hp→Prop),Inv X pins σ H s→t σ H Q→wpAny (model X.prog X.w) X.A (spliced (backTo pos (starEach es X.env))) (AP X pins σ Q) X.xe s
def PS(X:Cx)(st:Stmt)(t:TS):Prop:=
  ∀(pins:List (Addr × Obj)) (s:Shared) (σ:St) (H:Hp) (D:Ends),Inv X pins σ H s→t D σ H→wpAny (model X.prog X.w) X.A (exec st X.env) (SP X pins D) X.xe s
def PSs(X:Cx)(st:List Stmt)(t:TS):Prop:=
  ∀(pins:List (Addr × Obj)) (s:Shared) (σ:St) (H:Hp) (D:Ends),Inv X pins σ H s→t D σ H→wpAny (model X.prog X.w) X.A (execs st X.env) (SP X pins D) X.xe s
theorem thn{α:Type}{t:Sem α}{Q Q':α→Shared→Prop}{M:Model}{A:Around}{E:Value→Shared→Prop}{s:Shared}(h:wpAny M A t Q E s)(hQ:∀a s,Q a s→Q' a s):wpAny M A t Q' E s:=wpAny_mono h hQ fun _ _ x=>x
end L2
namespace L2
open PySem PySem.Spec PyProof.Rows
section
variable{X:Cx}
def tVar(i:Nat):TE:=fun σ H Q=>∃v,σ[i]? = some (some v)∧Q v H
def tC(v:V):TE:=fun _ H Q=>Q v H
theorem pe_var{i:Nat}{x:Str}{pos:Pos}(hN:X.N[i]? = some x)(hv:Vis X.env.scope x)(hd:(x == ("__debug__":Str))=false:=by decide)(hcd:(x == ("__classdict__":Str))=false:=by decide):PE X (.Name x pos) (tVar i):=by
  intro pins s σ H Q I h
  obtain⟨v,e,h⟩:=h
  obtain⟨m,hn,hl⟩:=I.loc
  obtain⟨u,r,l⟩:=hl i x v hN e hv
  have fin:EP X pins σ Q u s:=⟨v,H,I,r,h⟩
  rcases l with ⟨hk,hm⟩ | ⟨hk,c,hc,hcell⟩
  · exact wpAny_Name (wpAny_loadName_local I.ok.kind hk hn hm fin) hd
  · rcases hk with hk | hk
    · exact wpAny_Name (wpAny_loadName_cell I.ok.kind hk hc hcell fin) hd
    · exact wpAny_Name (wpAny_loadName_free I.ok.kind hk hc hcell fin hcd) hd
theorem pe_int{i j pos}:PE X (.Constant (.int i) j pos) (tC (.int i)):=fun _ _ _ H _ I h=>wpAny_Constant_int ⟨.int i,H,I.tok _,⟨_,rfl⟩,h⟩
theorem pe_bl{b j pos}:PE X (.Constant (.bool b) j pos) (tC (.bl b)):=fun _ _ _ H _ I h=>Constant_bool ⟨.bl b,H,I,rfl,h⟩
theorem pe_non{j pos}:PE X (.Constant .none j pos) (tC .non):=fun _ _ _ H _ I h=>Constant_none ⟨.non,H,I,rfl,h⟩
theorem pe_str{x j pos}:PE X (.Constant (.str x) j pos) (tC (.str x)):=fun _ _ _ H _ I h=>Calls.Constant_str ⟨.str x,H,I.tok _,⟨_,rfl⟩,h⟩
def Gl(X:Cx)(x:Str):Prop:=X.env.kindOf x=some .globalImplicit
theorem ld_glob{E:Value→Shared→Prop}{pins:List (Addr × Obj)}{s:Shared}{σ:St}{H:Hp}{x:Str}{u:Value}{pos:Pos}{Q:Value→Shared→Prop}(I:Inv X pins σ H s)(hg:Gl X x)(hm:X.mg x=some u)(h:Q u s)
    (hd:(x == ("__debug__":Str))=false:=by decide):wpAny (model X.prog X.w) X.A (eval (.Name x pos) X.env) Q E s:=
  Calls.Name_function_global I.ok.kind hg (Calls.loadGlobal_global (by rw[I.ok.glob];exact I.mod.glob.keeps I.bk) hm h) hd
theorem ld_blt{E:Value→Shared→Prop}{pins:List (Addr × Obj)}{s:Shared}{σ:St}{H:Hp}{x:Str}{u:Value}{pos:Pos}{Q:Value→Shared→Prop}(I:Inv X pins σ H s)(hg:Gl X x)(hm:X.mg x=none)(hv:bootBuiltins x=some u)(h:Q u s)
    (hn:x≠"__name__":=by decide) (hd:(x == ("__debug__":Str))=false:=by decide):wpAny (model X.prog X.w) X.A (eval (.Name x pos) X.env) Q E s:=by
  obtain⟨mb,h1,h2⟩:=I.mod.blt
  exact Calls.Name_function_global I.ok.kind hg (Calls.loadGlobal_builtin (by rw[I.ok.glob];exact I.mod.glob.keeps I.bk) hm (by rw[I.ok.blt];exact h1.keeps I.bk) ((h2 x hn).trans hv) h) hd
theorem pe_glob{x:Str}{v:V}{u:Value}{pos:Pos}(hg:Gl X x)(hm:X.mg x=some u)(r:RelV v u)(hd:(x == ("__debug__":Str))=false:=by decide):PE X (.Name x pos) (tC v):=
  fun _ _ _ H _ I h=>ld_glob I hg hm ⟨v,H,I,r,h⟩ hd
theorem pe_bltn{x:Str}{v:V}{u:Value}{pos:Pos}(hg:Gl X x)(hm:X.mg x=none)(hv:bootBuiltins x=some u)(r:RelV v u)(hn:x≠"__name__":=by decide)(hd:(x == ("__debug__":Str))=false:=by decide):PE X (.Name x pos) (tC v):=
  fun _ _ _ H _ I h=>ld_blt I hg hm hv ⟨v,H,I,r,h⟩ hn hd
variable{a b:Expr}{ta tb:TE}{pos:Pos}
def tB(t:TE):TT:=fun σ H Q=>t σ H fun x H1=>∃c,x=.bl c∧Q c H1
theorem pt_val{e:Expr}{t:TE}(h:PE X e t)(he:∀whole,isTrue e X.env whole=(do let v ← whole;standAt e.pos;holding [v] (truthy v)):=by intro _;rfl):PT X e (tB t):=by
  intro pins s σ H Q I hw
  refine isTrue_plain (thn (h pins s σ H _ I hw) fun v s1 ⟨x,H1,I1,r1,q1⟩=>?_) (he _)
  obtain⟨d,rfl,q⟩:=q1
  cases r1
  exact wpAny_truthy_bool ⟨H1,I1,q⟩
variable{tA tB':TT}{rest:List Expr}
def tAnd(t u:TT):TT:=fun σ H Q=>t σ H fun c H1=>if c=true then u σ H1 Q else Q false H1
def tOr(t u:TT):TT:=fun σ H Q=>t σ H fun c H1=>if c=true then Q true H1 else u σ H1 Q
def tNot(t:TT):TT:=fun σ H Q=>t σ H fun c H1=>Q (!c) H1
theorem pw_and1(ha:PT X a tA):PW X (.BoolOp .And [a] pos) tA:=by
  intro wh pins s σ H Q I h
  refine isTrue_and (thn (ha pins s σ H Q I h) fun c s1 e=>?_)
  cases c with
  | true=>exact isTrue_and_nil e
  | false=>exact e
theorem pw_or1(ha:PT X a tA):PW X (.BoolOp .Or [a] pos) tA:=by
  intro wh pins s σ H Q I h
  refine isTrue_or (thn (ha pins s σ H Q I h) fun c s1 e=>?_)
  cases c with
  | false=>exact isTrue_or_nil e
  | true=>exact e
theorem pw_and(ha:PT X a tA)(hb:PW X (.BoolOp .And (b::rest) pos) tB'):PW X (.BoolOp .And (a::b::rest) pos) (tAnd tA tB'):=by
  intro wh pins s σ H Q I h
  refine isTrue_and (thn (ha pins s σ H _ I h) fun c s1 ⟨H1,I1,q1⟩=>?_)
  cases c with
  | true=>exact hb wh pins s1 σ H1 Q I1 q1
  | false=>exact⟨H1,I1,q1⟩
theorem pw_or(ha:PT X a tA)(hb:PW X (.BoolOp .Or (b::rest) pos) tB'):PW X (.BoolOp .Or (a::b::rest) pos) (tOr tA tB'):=by
  intro wh pins s σ H Q I h
  refine isTrue_or (thn (ha pins s σ H _ I h) fun c s1 ⟨H1,I1,q1⟩=>?_)
  cases c with
  | true=>exact⟨H1,I1,q1⟩
  | false=>exact hb wh pins s1 σ H1 Q I1 q1
theorem pt_not(ha:PT X a tA):PT X (.UnaryOp .Not a pos) (tNot tA):=by
  intro pins s σ H Q I h
  exact isTrue_not (ha pins s σ H (fun c H1=>Q (!c) H1) I h)
def tAndV(ta tb:TE):TE:=fun σ H Q=>ta σ H fun x H1=>∃c,x=.bl c∧if c=true then tb σ H1 Q else Q (.bl false) H1
def tOrV(ta tb:TE):TE:=fun σ H Q=>ta σ H fun x H1=>∃c,x=.bl c∧if c=true then Q (.bl true) H1 else tb σ H1 Q
theorem pe_one{op}{t:TE}(h:PE X a t):PE X (.BoolOp op [a] pos) t:=fun pins s σ H Q I hw=>BoolOp_one (h pins s σ H Q I hw)
theorem pe_and(ha:PE X a ta)(hb:PE X (.BoolOp .And (b::rest) pos) tb):PE X (.BoolOp .And (a::b::rest) pos) (tAndV ta tb):=by
  intro pins s σ H Q I h
  refine BoolOp_and (thn (ha pins s σ H _ I h) fun v s1 ⟨x,H1,I1,r1,q1⟩=>?_)
  obtain⟨c,rfl,q1⟩:=q1
  cases r1
  refine wpAny_truthy_bool ?_
  cases c with
  | true=>exact hb pins s1 σ H1 Q I1 q1
  | false=>exact⟨.bl false,H1,I1,rfl,q1⟩
theorem pe_or(ha:PE X a ta)(hb:PE X (.BoolOp .Or (b::rest) pos) tb):PE X (.BoolOp .Or (a::b::rest) pos) (tOrV ta tb):=by
  intro pins s σ H Q I h
  refine BoolOp_or (thn (ha pins s σ H _ I h) fun v s1 ⟨x,H1,I1,r1,q1⟩=>?_)
  obtain⟨c,rfl,q1⟩:=q1
  cases r1
  refine wpAny_truthy_bool ?_
  cases c with
  | false=>exact hb pins s1 σ H1 Q I1 q1
  | true=>exact⟨.bl true,H1,I1,rfl,q1⟩
def tIf(t:TT)(ta tb:TE):TE:=fun σ H Q=>t σ H fun c H1=>if c=true then ta σ H1 Q else tb σ H1 Q
theorem pe_ifExp{c:Expr}(hc:PT X c tA)(ha:PE X a ta)(hb:PE X b tb):PE X (.IfExp c a b pos) (tIf tA ta tb):=by
  intro pins s σ H Q I h
  refine wpAny_IfExp (thn (hc pins s σ H _ I h) fun d s1 ⟨H1,I1,q1⟩=>?_)
  cases d with
  | true=>exact ha pins s1 σ H1 Q I1 q1
  | false=>exact hb pins s1 σ H1 Q I1 q1
end
end L2
namespace L2
open PySem PySem.Spec PyProof.Rows
def SqL(K:PySem.W.Frag)(H:Hp)(a:Addr)(xs:List V):Prop:=
  Rd H a (.lst xs)∨
    ∃(o:Obj) (its:Array Value) (n:Nat),K.lookup a=some o∧o.cls=.type "list"∧o.dict=none∧o.data=.seq its n∧its.size≤sizeLine∧Vals xs its.toList
def SqT(K:PySem.W.Frag)(H:Hp)(a:Addr)(xs:List V):Prop:=
  Rd H a (.tup xs)∨
    ∃(o:Obj) (its:Array Value) (n:Nat),K.lookup a=some o∧o.cls=.type "tuple"∧o.data=.seq its n∧its.size≤sizeLine∧Vals xs its.toList
def absV:Value→Option V
  | .none=>some .non
  | .bool b=>some (.bl b)
  | .int i _=>some (.int i)
  | .str x _=>some (.str x)
  | .bytes b _=>some (.byt b)
  | .float b _=>some (.flt b)
  | .ref a=>some (.ref a)
  | .type n=>some (.ty n)
  | _=>none
theorem RelV.abs{x:V}{u:Value}(r:RelV x u):absV u=some x:=by
  cases x with
  | non=>cases r;rfl
  | bl _=>cases r;rfl
  | int _=>obtain⟨t,rfl⟩:=r;rfl
  | str _=>obtain⟨t,rfl⟩:=r;rfl
  | byt _=>obtain⟨t,rfl⟩:=r;rfl
  | flt _=>obtain⟨t,rfl⟩:=r;rfl
  | ref _=>cases r;rfl
  | ty _=>cases r;rfl
theorem RelV.inj{x y:V}{u:Value}(r:RelV x u)(q:RelV y u):x=y:=Option.some.inj (r.abs.symm.trans q.abs)
theorem Vals.inj:∀{xs ys:List V} {us:List Value},Vals xs us→Vals ys us→xs=ys
  | _,_,_,.nil,.nil=>rfl
  | _,_,_,.cons r t,.cons r' t'=>by rw[r.inj r',Vals.inj t t']
section
variable{X:Cx}{pins:List (Addr × Obj)}{σ:St}{H:Hp}{s:Shared}{a:Addr}{xs ys:List V}
theorem SqL.of{K:PySem.W.Frag}(h:H a=some (.lst xs)):SqL K H a xs:=.inl (.inl h)
theorem SqT.of{K:PySem.W.Frag}(h:H a=some (.tup xs)):SqT K H a xs:=.inl (.inl h)
theorem Inv.list(I:Inv X pins σ H s)(h:SqL X.K H a xs):∃its:List Value,Vals xs its∧PlainL s.heap a its.toArray∧xs.length≤sizeLine:=by
  rcases h with h | ⟨o,its,n,hk,hc,hd,hs,hz,r⟩
  · obtain⟨z,its,n,r,e⟩:=h.ok I.hok
    exact⟨its,r,⟨_,n,e,rfl,rfl,rfl⟩,z⟩
  · refine⟨its.toList,r,⟨o,n,I.kIn a o hk,hc,hd,by simpa using hs⟩,?_⟩
    have e:=r.length
    simp only[Array.length_toList]at e
    omega
theorem Inv.tuple(I:Inv X pins σ H s)(h:SqT X.K H a xs):∃its:List Value,Vals xs its∧IsTup s.heap a its.toArray∧xs.length≤sizeLine:=by
  rcases h with h | ⟨o,its,n,hk,hc,hs,hz,r⟩
  · obtain⟨z,its,r,p,_⟩:=h.ok I.hok
    exact⟨its,r,p,z⟩
  · refine⟨its.toList,r,⟨o,I.kIn a o hk,hc,n,by simpa using hs⟩,?_⟩
    have e:=r.length
    simp only[Array.length_toList]at e
    omega
theorem Inv.list_inj(I:Inv X pins σ H s)(h:SqL X.K H a xs)(h':SqL X.K H a ys):xs=ys:=by
  obtain⟨its,r,⟨o,n,e,_,_,d⟩,_⟩:=I.list h
  obtain⟨its',r',⟨o',n',e',_,_,d'⟩,_⟩:=I.list h'
  rw[e]at e';cases e'
  rw[d]at d'
  injection d' with d1 _
  have:its=its':=by simpa using congrArg Array.toList d1
  subst this
  exact r.inj r'
theorem Inv.tuple_inj(I:Inv X pins σ H s)(h:SqT X.K H a xs)(h':SqT X.K H a ys):xs=ys:=by
  obtain⟨its,r,⟨o,e,_,n,d⟩,_⟩:=I.tuple h
  obtain⟨its',r',⟨o',e',_,n',d'⟩,_⟩:=I.tuple h'
  rw[e]at e';cases e'
  rw[d]at d'
  injection d' with d1 _
  have:its=its':=by simpa using congrArg Array.toList d1
  subst this
  exact r.inj r'
end
abbrev Cx.wish(X:Cx)(E:Value→Shared→Prop):Cx:={ X with xe:=E }
abbrev Cx.nox(X:Cx):Cx:=X.wish fun _ _=>False
theorem Cx.Ok.wish{X:Cx}(ok:X.Ok)(E:Value→Shared→Prop):(X.wish E).Ok:=
  ⟨ok.mod,ok.kind,ok.glob,ok.blt,ok.above,ok.inj,ok.has,ok.cab,ok.hd,ok.frames,ok.stk,ok.exf,ok.bs,ok.bsz,ok.noex,ok.exfs,ok.funs,ok.frf⟩
theorem Cx.Ok.unwish{X:Cx}{E:Value→Shared→Prop}(ok:(X.wish E).Ok):X.Ok:=
  ⟨ok.mod,ok.kind,ok.glob,ok.blt,ok.above,ok.inj,ok.has,ok.cab,ok.hd,ok.frames,ok.stk,ok.exf,ok.bs,ok.bsz,ok.noex,ok.exfs,ok.funs,ok.frf⟩
section
variable{X:Cx}{pins:List (Addr × Obj)}{σ:St}{H:Hp}{s:Shared}{E:Value→Shared→Prop}
theorem Inv.wish(I:Inv X pins σ H s)(E:Value→Shared→Prop):Inv (X.wish E) pins σ H s:=⟨I.ok.wish E,I.os,I.bare,I.base,I.loc,I.cell,I.free,I.freeC,I.pin,I.hok,I.len⟩
theorem Inv.unwish(I:Inv (X.wish E) pins σ H s):Inv X pins σ H s:=⟨I.ok.unwish,I.os,I.bare,I.base,I.loc,I.cell,I.free,I.freeC,I.pin,I.hok,I.len⟩
theorem SP.unwish{D:Ends}{f:Flow}{s':Shared}(h:SP (X.wish E) pins D f s'):SP X pins D f s':=by
  cases f with
  | next=>obtain⟨σ',H',I,q⟩:=h;exact⟨σ',H',I.unwish,q⟩
  | brk=>obtain⟨σ',H',I,q⟩:=h;exact⟨σ',H',I.unwish,q⟩
  | cont=>obtain⟨σ',H',I,q⟩:=h;exact⟨σ',H',I.unwish,q⟩
  | ret u=>obtain⟨v,σ',H',I,r,q⟩:=h;exact⟨v,σ',H',I.unwish,r,q⟩
theorem PE.nox{e:Expr}{t:TE}(h:PE X.nox e t):PE X e t:=fun pins s σ H Q I hw=>
  wpAny_mono (h pins s σ H Q (I.wish _) hw) (fun _ _ ⟨v,H',I',r,q⟩=>⟨v,H',I'.unwish,r,q⟩) fun _ _ z=>False.elim z
theorem PT.nox{e:Expr}{t:TT}(h:PT X.nox e t):PT X e t:=fun pins s σ H Q I hw=>
  wpAny_mono (h pins s σ H Q (I.wish _) hw) (fun _ _ ⟨H',I',q⟩=>⟨H',I'.unwish,q⟩) fun _ _ z=>False.elim z
theorem PSs.nox{st:List Stmt}{t:TS}(h:PSs X.nox st t):PSs X st t:=fun pins s σ H D I hw=>
  wpAny_mono (h pins s σ H D (I.wish _) hw) (fun _ _ q=>q.unwish) fun _ _ z=>False.elim z
end
section
variable{X:Cx}{st:Stmt}{rest:List Stmt}{t u:TS}{e:Expr}{te:TE}{pos:Pos}
def tNext:TS:=fun D σ H=>D.nx σ H
def tSeq(t u:TS):TS:=fun D σ H=>t { D with nx:=u D } σ H
theorem pss_nil:PSs X [] tNext:=fun _ _ σ H _ I h=>wpAny_execs_nil ⟨σ,H,I,h⟩
theorem pss_cons(h1:PS X st t)(h2:PSs X rest u):PSs X (st::rest) (tSeq t u):=by
  intro pins s σ H D I h
  refine wpAny_execs_cons (thn (h1 pins s σ H { D with nx:=u D } I h) fun f s1 q=>?_)
  cases f with
  | next=>
    obtain⟨σ',H',I',q⟩:=q
    exact h2 pins s1 σ' H' D I' q
  | ret v=>exact q
  | brk=>exact q
  | cont=>exact q
theorem pss_one(h1:PS X st t):PSs X [st] t:=by
  intro pins s σ H D I h
  refine wpAny_execs_cons (thn (h1 pins s σ H D I h) fun f s1 q=>?_)
  cases f with
  | next=>exact wpAny_execs_nil q
  | ret v=>exact q
  | brk=>exact q
  | cont=>exact q
theorem Inv.quiet{pins:List (Addr × Obj)}{σ:St}{H:Hp}{s:Shared}(I:Inv X pins σ H s):interactive X.env=false:=by simp[interactive,I.ok.kind]
def tDrop(te:TE):TS:=fun D σ H=>te σ H fun _ H1=>D.nx σ H1
theorem ps_expr(he:PE X e te)(hs:swapsWith e none pos.line X.env=pure false:=by rfl):PS X (.Expr e pos) (tDrop te):=by
  intro pins s σ H D I h
  exact wpAny_Expr_any (thn (he pins s σ H _ I h) fun v s1 ⟨x,H1,I1,r1,q1⟩=>⟨σ,H1,I1,q1⟩) I.quiet hs
def tRet(te:TE):TS:=fun D σ H=>te σ H D.rt
theorem ps_ret(he:PE X e te):PS X (.Return (some e) pos) (tRet te):=by
  intro pins s σ H D I h
  exact wpAny_Return_some (thn (he pins s σ H _ I h) fun v s1 ⟨x,H1,I1,r1,q1⟩=>⟨x,σ,H1,I1,r1,q1⟩)
def tIfS(c:TT)(t u:TS):TS:=fun D σ H=>c σ H fun b H1=>if b=true then t D σ H1 else u D σ H1
theorem ps_if{c:Expr}{a b:List Stmt}{tc:TT}(hc:PT X c tc)(ha:PSs X a t)(hb:PSs X b u):PS X (.If c a b pos) (tIfS tc t u):=by
  intro pins s σ H D I h
  refine wpAny_If (thn (hc pins s σ H _ I h) fun d s1 ⟨H1,I1,q1⟩=>?_)
  cases d with
  | true=>exact ha pins s1 σ H1 D I1 q1
  | false=>exact hb pins s1 σ H1 D I1 q1
end
abbrev TG:=V→St→Hp→(St→Hp→Prop)→Prop
abbrev TGs:=List V→St→Hp→(St→Hp→Prop)→Prop
def PG(X:Cx)(target:Expr)(t:TG):Prop:=
  ∀(pins:List (Addr × Obj)) (s:Shared) (σ:St) (H:Hp) (v:V) (u:Value) (Q:St→Hp→Prop),Inv X pins σ H s→RelV v u→t v σ H Q→
    wpAny (model X.prog X.w) X.A (assign target X.env u) (fun _ s'=>∃σ' H',Inv X pins σ' H' s'∧Q σ' H') X.xe s
def PGs(X:Cx)(ts:List Expr)(t:TGs):Prop:=
  ∀(pins:List (Addr × Obj)) (s:Shared) (σ:St) (H:Hp) (vs:List V) (us:List Value) (Q:St→Hp→Prop),Inv X pins σ H s→Vals vs us→t vs σ H Q→
    wpAny (model X.prog X.w) X.A (assignInOrder ((assignEach ts X.env).map (·.2)) us) (fun _ s'=>∃σ' H',Inv X pins σ' H' s'∧Q σ' H') X.xe s
abbrev TSet:=V→V→V→Hp→(Hp→Prop)→Prop
def PSet(X:Cx)(t:TSet):Prop:=
  ∀(pins:List (Addr × Obj)) (s:Shared) (σ:St) (H:Hp) (o i v:V) (ov iv u:Value) (Q:Hp→Prop),Inv X pins σ H s→RelV o ov→RelV i iv→RelV v u→t o i v H Q→
    wpAny (model X.prog X.w) X.A (setItem ov iv u) (fun _ s'=>∃H',Inv X pins σ H' s'∧Q H') X.xe s
abbrev TIp:=V→V→Hp→VK→Prop
def PIp(X:Cx)(op:Operator)(t:TIp):Prop:=
  ∀(pins:List (Addr × Obj)) (s:Shared) (σ:St) (H:Hp) (x y:V) (v u:Value) (Q:VK),Inv X pins σ H s→RelV x v→RelV y u→t x y H Q→
    wpAny (model X.prog X.w) X.A (inplaceOp op v u) (EP X pins σ Q) X.xe s
section
variable{X:Cx}{pos:Pos}
def gName(i:Nat):TG:=fun v σ H Q=>Q (σ.set i (some v)) H
theorem pg_name{i:Nat}{x:Str}(hN:X.N.Nodup)(hi:X.N[i]? = some x)(hx:Loc X.env.scope x)(hf:X.fn x=true∨X.env.scope.names.lookup x=some .local:=by first | exact .inl rfl | exact .inr rfl | assumption):PG X (.Name x pos) (gName i):=by
  intro pins s σ H v u Q I r h
  exact wpAny_assign_Name (store_ok I hN hi hx r (fun s' I'=>⟨_,H,I',h⟩) hf)
def gNil:TGs:=fun vs σ H Q=>vs=[]∧Q σ H
def gCons(t:TG)(u:TGs):TGs:=fun vs σ H Q=>∃v r,vs=v::r∧t v σ H fun σ' H'=>u r σ' H' Q
theorem pgs_nil:PGs X [] gNil:=by
  intro pins s σ H vs us Q I r h
  obtain⟨e,h⟩:=h
  subst e
  cases r
  exact assignInOrder_nil ⟨σ,H,I,h⟩
theorem pgs_cons{e:Expr}{es:List Expr}{t:TG}{u:TGs}(h1:PG X e t)(h2:PGs X es u)
    (hs:(assignEach (e::es) X.env).map (·.2)=assign e X.env::(assignEach es X.env).map (·.2):=by rfl):PGs X (e::es) (gCons t u):=by
  intro pins s σ H vs us Q I r h
  obtain⟨v,vr,e1,h⟩:=h
  subst e1
  cases r with
  | cons r rr=>
    rw[hs]
    refine assignInOrder_cons (thn (h1 pins s σ H _ _ _ I r h) fun _ s1 ⟨σ1,H1,I1,q1⟩=>?_)
    exact h2 pins s1 σ1 H1 _ _ Q I1 rr q1
def gTup(K:PySem.W.Frag)(n:Nat)(t:TGs):TG:=fun v σ H Q=>∃a xs,v=.ref a∧SqT K H a xs∧xs.length=n∧t xs σ H Q
theorem pg_tup{es:List Expr}{k:Nat}{t:TGs}{n:Nat}(hc:X.calm=true)(h:PGs X es t)
    (hn:(assignEach es X.env).length=n:=by rfl) (hst:(assignEach es X.env).findIdx? (·.1)=none:=by rfl):PG X (.Tuple es k pos) (gTup X.K n t):=by
  intro pins s σ H v u Q I r hw
  obtain⟨a,xs,e1,hq,hl,hw⟩:=hw
  subst e1
  cases r
  obtain⟨its,rv,ht,hz⟩:=I.tuple hq
  refine assign_Tuple_tuple (I.ok.hd hc) ht (by simp[hn,← hl,rv.length]) hst fun h' hx=>?_
  have I1:Inv X pins σ H { s with heap:=h' }:=I.kept (t':=s.toks) fun b o e=>hx b o (Nat.ne_of_lt (Heap.lt_size e)) e
  exact h pins _ σ H xs _ Q I1 (by simpa using rv) hw
def gSub(to ti:TE)(t:TSet):TG:=fun v σ H Q=>to σ H fun o H1=>ti σ H1 fun i H2=>t o i v H2 fun H3=>Q σ H3
theorem pg_sub{o i:Expr}{to ti:TE}{t:TSet}(ho:PE X o to)(hi:PE X i ti)(hs:PSet X t)
    (ha:∀v,assign (.Subscript o i pos) X.env v=(do
      let ov ← holding [v] (eval o X.env)
      let iv ← holding [v,ov] (eval i X.env)
      standAt pos
      holding [v,ov,iv] (setItem ov iv v)
      release [v,ov,iv] []):=by intro _;rfl):PG X (.Subscript o i pos) (gSub to ti t):=by
  intro pins s σ H v u Q I r h
  rw[ha]
  refine wpAny_bind (wpAny_holding (thn (ho pins s σ H _ I h) fun ov s1 ⟨x,H1,I1,r1,q1⟩=>?_))
  refine wpAny_bind (wpAny_holding (thn (hi pins s1 σ H1 _ I1 q1) fun iv s2 ⟨y,H2,I2,r2,q2⟩=>?_))
  refine wpAny_bind (wpAny_standAt (wpAny_bind (wpAny_holding (thn (hs pins s2 σ H2 x y v ov iv u _ I2 r1 r2 r q2) fun _ s3 ⟨H3,I3,q3⟩=>?_))))
  exact wpAny_release ⟨σ,H3,I3,q3⟩
def tAsg(te:TE)(g:TG):TS:=fun D σ H=>te σ H fun x H1=>g x σ H1 D.nx
theorem ps_asg{tg e:Expr}{te:TE}{g:TG}(he:PE X e te)(hg:PG X tg g)(hs:swapsWithSole [tg] e pos.line X.env=pure false:=by rfl)(hw:swappedStores [tg] e X.env=pure none:=by rfl)
    (h1:(assignEach [tg] X.env).map (·.2)=[assign tg X.env]:=by rfl):PS X (.Assign [tg] e pos) (tAsg te g):=by
  intro pins s σ H D I h
  refine wpAny_Assign_stores (thn (he pins s σ H _ I h) fun v s1 ⟨x,H1,I1,r1,q1⟩=>?_) hs hw
  rw[h1]
  exact thn (hg pins s1 σ H1 x v _ I1 r1 q1) fun _ s2 q=>q
theorem ps_set{i:Nat}{x:Str}{e:Expr}{te:TE}{pos':Pos}(hN:X.N.Nodup)(hi:X.N[i]? = some x)(hx:Loc X.env.scope x)(he:PE X e te)(hs:swapsWith e (some (.Name x pos')) pos.line X.env=pure false:=by rfl)(hf:X.fn x=true∨X.env.scope.names.lookup x=some .local:=by first | exact .inl rfl | exact .inr rfl | assumption) :
    PS X (.Assign [.Name x pos'] e pos) (tAsg te (gName i)):=by
  intro pins s σ H D I h
  refine wpAny_Assign_Name (thn (he pins s σ H _ I h) fun v s1 ⟨y,H1,I1,r1,q1⟩=>?_) hs
  exact store_ok I1 hN hi hx r1 (fun s2 I2=>⟨_,H1,I2,q1⟩) hf
def tAug(i:Nat)(te:TE)(ti:TIp):TS:=fun D σ H=>∃x,σ[i]? = some (some x)∧te σ H fun y H1=>ti x y H1 fun z H2=>D.nx (σ.set i (some z)) H2
theorem ps_aug{i:Nat}{x:Str}{e:Expr}{te:TE}{op:Operator}{ti:TIp}{pos':Pos}(hN:X.N.Nodup)(hi:X.N[i]? = some x)(hx:Loc X.env.scope x)(he:PE X e te)(ho:PIp X op ti)(hf:X.fn x=true∨X.env.scope.names.lookup x=some .local:=by first | exact .inl rfl | exact .inr rfl | assumption) :
    PS X (.AugAssign (.Name x pos') op e pos) (tAug i te ti):=by
  intro pins s σ H D I h
  obtain⟨v,e1,h⟩:=h
  obtain⟨m,hn,hl⟩:=I.loc
  have vis:Vis X.env.scope x:=by rcases hx with k | k;exact .inl k;exact .inr (.inl k)
  obtain⟨u,r,l⟩:=hl i x v hi e1 vis
  refine wpAny_AugAssign_Name ?_
  have go:wpAny (model X.prog X.w) X.A (eval e X.env) (fun w s₂=>wpAny (model X.prog X.w) X.A (inplaceOp op u w) (fun r s₃=>wpAny (model X.prog X.w) X.A (storeName X.env x r) (fun _=>SP X pins D .next) X.xe s₃) X.xe s₂) X.xe s:=by
    refine thn (he pins s σ H _ I h) fun w s1 ⟨y,H1,I1,r1,q1⟩=>?_
    refine thn (ho pins s1 σ H1 v y u w _ I1 r r1 q1) fun z s2 ⟨zv,H2,I2,r2,q2⟩=>?_
    exact store_ok I2 hN hi hx r2 (fun s3 I3=>⟨_,H2,I3,q2⟩) hf
  rcases l with ⟨hk,hm⟩ | ⟨hk,c,hc,hcell⟩
  · exact wpAny_loadName_local I.ok.kind hk hn hm go
  · rcases hk with hk | hk
    · exact wpAny_loadName_cell I.ok.kind hk hc hcell go
    · rcases hx with k | k
      · have:X.env.scope.names.lookup x=some .free:=hk
        rw[k]at this;cases this
      · have:X.env.scope.names.lookup x=some .free:=hk
        rw[k]at this;cases this
def ipI(f:Int→Int→Int):TIp:=fun x y H Q=>∃i j,x=.int i∧y=.int j∧Q (.int (f i j)) H
theorem ip_add:PIp X .Add (ipI fun i j=>i+j):=by
  intro pins s σ H x y v u Q I r1 r2 h
  obtain⟨i,j,e1,e2,q⟩:=h
  subst e1;subst e2
  obtain⟨t,rfl⟩:=r1
  obtain⟨t',rfl⟩:=r2
  exact iadd_int ⟨.int _,H,I.tok _,⟨_,rfl⟩,q⟩
end
section
variable{X:Cx}{pos:Pos}
def tWhile(c:TT)(tb:TS):TS:=fun D σ H=>∃W:Nat→St→Hp→Prop,(∃m,W m σ H)∧∀m σ H,W m σ H→
  c σ H fun b H1=>if b=true then ∃N:St→Hp→Prop,(∀σ' H',N σ' H'→∃m',m' < m∧W m' σ' H')∧tb { D with nx:=N,ct:=N,bk:=D.nx } σ H1 else D.nx σ H1
theorem ps_while{c:Expr}{body:List Stmt}{tc:TT}{tb:TS}(hp:PassesOwn (model X.prog X.w) X.A X.env X.xe)(hc:PT X c tc)(hb:PSs X body tb):PS X (.While c body [] pos) (tWhile tc tb):=by
  intro pins s σ H D I h
  obtain⟨W,⟨m0,w0⟩,turn⟩:=h
  refine wpAny_While (codeAny_whileLoop (fun n s'=>∃σ' H',Inv X pins σ' H' s'∧W n σ' H') ?_ m0 ⟨σ,H,I,w0⟩)
  rintro n s1 ⟨σ1,H1,I1,w1⟩
  refine wpAny_passesOwn hp (thn (hc pins s1 σ1 H1 _ I1 (turn n σ1 H1 w1)) fun b s2 ⟨H2,I2,q2⟩=>?_)
  cases b with
  | true=>
    obtain⟨N,hN,q2⟩:=q2
    rw[if_pos rfl]
    refine wpAny_passesOwn hp (thn (hb pins s2 σ1 H2 _ I2 q2) fun f s3 q3=>?_)
    cases f with
    | next=>
      obtain⟨σ3,H3,I3,n3⟩:=q3
      obtain⟨m',hm,w3⟩:=hN σ3 H3 n3
      exact⟨m',hm,σ3,H3,I3,w3⟩
    | cont=>
      obtain⟨σ3,H3,I3,n3⟩:=q3
      obtain⟨m',hm,w3⟩:=hN σ3 H3 n3
      exact⟨m',hm,σ3,H3,I3,w3⟩
    | brk=>exact q3
    | ret v=>exact q3
  | false=>
    rw[if_neg Bool.false_ne_true]
    exact wpAny_execs_nil ⟨σ1,H2,I2,q2⟩
end
structure It where
  go:Nat→Hp→Prop
  yld:Nat→Hp→V→Hp→Prop
  stop:Nat→Hp→Prop
def FpOk(X:Cx)(pins:List (Addr × Obj))(H:Hp)(b:Addr):Prop:=
  H b=none∧b≠X.env.locals∧b ∉ X.fs∧(b∈X.ex∨X.s₀.heap.objs.size≤b)∧(∀x c,X.env.cells.lookup x=some c→c≠b)∧∀p∈X.pn++pins,p.1≠b
theorem Inv.fpOk{X:Cx}{pins:List (Addr × Obj)}{σ:St}{H H':Hp}{s:Shared}{b:Addr}(I:Inv X pins σ H s)(hb:s.heap.objs.size≤b)(hn:H' b=none):FpOk X pins H' b:=by
  refine⟨hn,Nat.ne_of_gt (Nat.lt_of_lt_of_le I.lt hb),I.nofs hb,.inr (Nat.le_trans I.sz hb),fun x c e z=>?_,fun p hp z=>?_⟩
  · obtain⟨v,q⟩:=I.cell x c e
    exact absurd (Nat.lt_of_lt_of_le q.lt (by rw[z];exact hb)) (Nat.lt_irrefl _)
  · exact absurd (Nat.lt_of_lt_of_le (Heap.lt_size (I.pin p hp).1) (by rw[z];exact hb)) (Nat.lt_irrefl _)
structure Turn(P:Program)(w:World)(K:PySem.W.Frag)(tg:Expr)(J:It)(fp:List Addr)(it:Addr)(tn:Nat→Heap→Prop):Prop where
  mem:it∈fp
  obj:∀i h,tn i h→∀b∈fp,∃o,h.get? b=some o∧∀v,o.data≠.cell v
  keep:∀i h h',tn i h→(∀b∈fp,∀o,h.get? b=some o→h'.get? b=some o)→tn i h'
  item:∀(X:Cx),X.prog=P→X.w=w→X.K=K→X.calm=true→∀(i:Nat) (pins:List (Addr × Obj)) (s:Shared) (σ:St) (H:Hp) (E:Value→Shared→Prop),Inv X pins σ H s→(∀b∈fp,FpOk X pins H b)→tn i s.heap→J.go i H→
    wpAny (model P w) X.A (pyNext (.ref it)) (fun r s1=>∃u,r=some u∧
      wpAny (model P w) X.A (letOwnedTupleGo tg (.ref it) u) (fun _ s2=>∃x H',Inv X pins σ H' s2∧RelV x u∧J.yld i H x H'∧tn (i+1) s2.heap∧∀b∈fp,H' b=none) E s1) E s
  done:∀(X:Cx),X.prog=P→X.w=w→X.K=K→X.calm=true→∀(i:Nat) (pins:List (Addr × Obj)) (s:Shared) (σ:St) (H:Hp) (E:Value→Shared→Prop),Inv X pins σ H s→(∀b∈fp,FpOk X pins H b)→tn i s.heap→J.stop i H→
    wpAny (model P w) X.A (pyNext (.ref it)) (fun r s1=>r=none∧Inv X pins σ H s1) E s
  self:∀(A:Around) (i:Nat) (s:Shared) (Q:Value→Shared→Prop) (E:Value→Shared→Prop),tn i s.heap→Q (.ref it) s→wpAny (model P w) A (pyIter (.ref it)) Q E s
abbrev TI:=St→Hp→(It→Hp→Prop)→Prop
def PIE(X:Cx)(pins:List (Addr × Obj))(σ:St)(tg:Expr)(R:It→Hp→Prop)(itv:Value)(s2:Shared):Prop:=
  ∃(it:Addr) (fp:List Addr) (tn:Nat→Heap→Prop) (J:It) (H':Hp),itv=.ref it∧Inv X pins σ H' s2∧Turn X.prog X.w X.K tg J fp it tn∧tn 0 s2.heap∧(∀b∈fp,FpOk X pins H' b)∧R J H'
def PI(X:Cx)(tg iter:Expr)(wi:TI):Prop:=
  ∀(pins:List (Addr × Obj)) (s:Shared) (σ:St) (H:Hp) (R:It→Hp→Prop),Inv X pins σ H s→wi σ H R→
    wpAny (model X.prog X.w) X.A (eval iter X.env) (fun v s1=>wpAny (model X.prog X.w) X.A (pyIter v) (PIE X pins σ tg R) X.xe s1) X.xe s
theorem go_of{M:Model}{A:Around}{E:Value→Shared→Prop}{s:Shared}{tg:Expr}{it:Addr}{u:Value}{o:Obj}{n:String}{vs:Array Value}{Q:Unit→Shared→Prop}(ho:s.heap.get? it=some o)(hc:o.cls=.type n)(hd:o.data=.fields vs)
    (hn:["enumerate","zip","dict_itemiterator","dict_reverseitemiterator","odict_iterator","itertools.zip_longest","itertools.pairwise"].contains n=false) (hQ:Q () s):wpAny M A (letOwnedTupleGo tg (.ref it) u) Q E s:=by
  unfold letOwnedTupleGo
  cases tg <;>first
    | exact wpAny_pure hQ
    | (cases u <;>first
        | exact wpAny_pure hQ
        | (refine wpAny_bind (wpAny_load ho ?_)
           rw[hc,hd]
           show wpAny M A (if(["enumerate","zip","dict_itemiterator","dict_reverseitemiterator","odict_iterator","itertools.zip_longest","itertools.pairwise"].contains n && vs[0]? == some (rawInt _))=true then _ else _) Q E s
           rw[if_neg (by intro h;rw[hn,Bool.false_and]at h;cases h)]
           exact wpAny_pure hQ))
def Itl(K:PySem.W.Frag)(a:Addr):It:=
  ⟨fun i H=>∃xs x,SqL K H a xs∧xs[i]? = some x,fun i H x H'=>H'=H∧∀xs,SqL K H a xs→xs[i]? = some x,fun i H=>∃xs,SqL K H a xs∧xs.length≤i⟩
def Itt(K:PySem.W.Frag)(a:Addr):It:=
  ⟨fun i H=>∃xs x,SqT K H a xs∧xs[i]? = some x,fun i H x H'=>H'=H∧∀xs,SqT K H a xs→xs[i]? = some x,fun i H=>∃xs,SqT K H a xs∧xs.length≤i⟩
def Itr(lo:Int)(n:Nat):It:=⟨fun i _=>i < n,fun i H x H'=>H'=H∧x=.int (lo+i),fun i _=>n≤i⟩
theorem turn_list{P:Program}{w:World}{K:PySem.W.Frag}{tg:Expr}(a it:Addr):Turn P w K tg (Itl K a) [it] it (fun i h=>h.IsListIter it a i)where
  mem:=by simp
  obj:=fun i h st b hb=>by
    have e:b=it:=by simpa using hb
    subst e
    obtain⟨o,e,c,d⟩:=st
    exact⟨o,e,fun v z=>by rw[d]at z;cases z⟩
  keep:=fun i h h' st k=>st.at fun o e=>k it (by simp) o e
  item:=by
    intro X hP hw hK hc i pins s σ H E I hf st hg
    subst hP hw hK
    obtain⟨xs,x,hq,hx⟩:=hg
    obtain⟨its,rv,p,hz⟩:=I.list hq
    obtain⟨u,hu,ru⟩:=rv.get hx
    obtain⟨f0,f1,f2,f3,f4,f5⟩:=hf it (by simp)
    refine wpAny_pyNext_list_item st p.isList (x:=u) (by simpa using hu) fun h' st' sb=>?_
    have I1:Inv X pins σ H { s with heap:=h' }:=I.turned (t':=s.toks) (fun b o hb e=>(sb.2 b hb).trans e) f0 f1 f3 f4 f5
    obtain⟨o,e,c,d⟩:=id st'
    exact⟨u,rfl,go_of (s:={ s with heap:=h' }) e c d (by decide) ⟨x,H,I1,ru,⟨rfl,fun ys hy=>by rw[I.list_inj hy hq];exact hx⟩,st',fun b hb=>(hf b hb).1⟩⟩
  done:=by
    intro X hP hw hK hc i pins s σ H E I hf st hg
    subst hP hw hK
    obtain⟨xs,hq,hx⟩:=hg
    obtain⟨its,rv,p,hz⟩:=I.list hq
    obtain⟨f0,f1,f2,f3,f4,f5⟩:=hf it (by simp)
    have hl:=rv.length
    exact wpAny_pyNext_list_end (I.ok.hd hc) st p.isList (by simp;omega) fun h' eb=>⟨rfl,I.turned (t':=s.toks) (fun b o hb e=>eb b o hb e) f0 f1 f3 f4 f5⟩
  self:=fun _ _ _ _ _ st h=>wpAny_pyIter_listiter st h
theorem turn_tuple{P:Program}{w:World}{K:PySem.W.Frag}{tg:Expr}(a it:Addr):Turn P w K tg (Itt K a) [it] it (fun i h=>h.IsTupleIter it a i)where
  mem:=by simp
  obj:=fun i h st b hb=>by
    have e:b=it:=by simpa using hb
    subst e
    obtain⟨o,e,c,d⟩:=st
    exact⟨o,e,fun v z=>by rw[d]at z;cases z⟩
  keep:=fun i h h' st k=>st.at fun o e=>k it (by simp) o e
  item:=by
    intro X hP hw hK hc i pins s σ H E I hf st hg
    subst hP hw hK
    obtain⟨xs,x,hq,hx⟩:=hg
    obtain⟨its,rv,p,hz⟩:=I.tuple hq
    obtain⟨u,hu,ru⟩:=rv.get hx
    obtain⟨f0,f1,f2,f3,f4,f5⟩:=hf it (by simp)
    refine wpAny_pyNext_tuple_item st (show s.heap.IsTuple a its.toArray from p) (x:=u) (by simpa using hu) fun h' st' sb=>?_
    have I1:Inv X pins σ H { s with heap:=h' }:=I.turned (t':=s.toks) (fun b o hb e=>(sb.2 b hb).trans e) f0 f1 f3 f4 f5
    obtain⟨o,e,c,d⟩:=id st'
    exact⟨u,rfl,go_of (s:={ s with heap:=h' }) e c d (by decide) ⟨x,H,I1,ru,⟨rfl,fun ys hy=>by rw[I.tuple_inj hy hq];exact hx⟩,st',fun b hb=>(hf b hb).1⟩⟩
  done:=by
    intro X hP hw hK hc i pins s σ H E I hf st hg
    subst hP hw hK
    obtain⟨xs,hq,hx⟩:=hg
    obtain⟨its,rv,p,hz⟩:=I.tuple hq
    obtain⟨f0,f1,f2,f3,f4,f5⟩:=hf it (by simp)
    have hl:=rv.length
    exact wpAny_pyNext_tuple_end (I.ok.hd hc) st (show s.heap.IsTuple a its.toArray from p) (by simp;omega) fun h' eb=>⟨rfl,I.turned (t':=s.toks) (fun b o hb e=>eb b o hb e) f0 f1 f3 f4 f5⟩
  self:=fun _ _ _ _ _ st h=>wpAny_pyIter_tupleiter st h
theorem turn_range{P:Program}{w:World}{K:PySem.W.Frag}{tg:Expr}(it:Addr)(lo:Int)(n:Nat):Turn P w K tg (Itr lo n) [it] it (fun i h=>IsRangeIter h it (lo+(i:Nat) * 1) ((n:Int) - (i:Nat)) 1)where
  mem:=by simp
  obj:=fun i h st b hb=>by
    have e:b=it:=by simpa using hb
    subst e
    exact⟨_,st,fun v z=>by
      have z':Data.fields _=Data.cell v:=z
      cases z'⟩
  keep:=fun i h h' st k=>k it (by simp) _ st
  item:=by
    intro X hP hw hK hc i pins s σ H E I hf st hg
    subst hP hw hK
    obtain⟨f0,f1,f2,f3,f4,f5⟩:=hf it (by simp)
    have W:=Walks.range (prog:=X.prog) (w:=X.w) (I.ok.hd hc) it lo 1 n
    refine W.item i s _ _ hg st fun v h' tk hv st' kk=>?_
    obtain⟨t,rfl⟩:=hv
    have I1:Inv X pins σ H { s with heap:=h',toks:=tk }:=I.turned (fun b o hb e=>kk b o (by simpa using hb) e) f0 f1 f3 f4 f5
    refine⟨_,rfl,go_of (s:={ s with heap:=h',toks:=tk }) (n:="range_iterator") st' rfl rfl (by decide) ⟨.int (lo+i),H,I1,⟨t,?_⟩,⟨rfl,rfl⟩,st',fun b hb=>(hf b hb).1⟩⟩
    rw[Int.mul_one]
  done:=by
    intro X hP hw hK hc i pins s σ H E I hf st hg
    subst hP hw hK
    obtain⟨f0,f1,f2,f3,f4,f5⟩:=hf it (by simp)
    exact wpAny_pyNext_range_end (I.ok.hd hc) st (by have:n≤i:=hg;omega) fun h' eb=>⟨rfl,I.turned (t':=s.toks) (fun b o hb e=>eb b o hb e) f0 f1 f3 f4 f5⟩
  self:=fun _ _ _ _ _ st h=>wpAny_pyIter_rangeiter st h
end L2
namespace L2
open PySem PySem.Spec PyProof.Rows
section
variable{X:Cx}{tg:Expr}
def iList(K:PySem.W.Frag)(tl:TE):TI:=fun σ H R=>tl σ H fun x H1=>∃a,x=.ref a∧(∃xs,SqL K H1 a xs)∧R (Itl K a) H1
def iTup(K:PySem.W.Frag)(tl:TE):TI:=fun σ H R=>tl σ H fun x H1=>∃a,x=.ref a∧(∃xs,SqT K H1 a xs)∧R (Itt K a) H1
theorem pi_list{l:Expr}{tl:TE}(hl:PE X l tl):PI X tg l (iList X.K tl):=by
  intro pins s σ H R I h
  refine thn (hl pins s σ H _ I h) fun v s1 ⟨x,H1,I1,r1,q1⟩=>?_
  obtain⟨a,e,⟨xs,hq⟩,q⟩:=q1
  subst e
  cases r1
  obtain⟨its,rv,p,hz⟩:=I1.list hq
  refine wpAny_pyIter_list p.isList ?_
  refine⟨s1.heap.objs.size,[s1.heap.objs.size],_,_,H1,rfl,I1.kept (t':=s1.toks) fun b o e=>Heap.get?_push_of_some _ e,turn_list a _,⟨_,Heap.get?_push_size _ rfl,rfl,rfl⟩,fun b hb=>?_,q⟩
  have e:b=s1.heap.objs.size:=by simpa using hb
  subst e
  exact I1.fpOk (Nat.le_refl _) (I1.hok.fresh (Nat.le_refl _))
theorem pi_tup{l:Expr}{tl:TE}(hl:PE X l tl):PI X tg l (iTup X.K tl):=by
  intro pins s σ H R I h
  refine thn (hl pins s σ H _ I h) fun v s1 ⟨x,H1,I1,r1,q1⟩=>?_
  obtain⟨a,e,⟨xs,hq⟩,q⟩:=q1
  subst e
  cases r1
  obtain⟨its,rv,p,hz⟩:=I1.tuple hq
  refine wpAny_pyIter_tuple (show s1.heap.IsTuple a its.toArray from p) ?_
  refine⟨s1.heap.objs.size,[s1.heap.objs.size],_,_,H1,rfl,I1.kept (t':=s1.toks) fun b o e=>Heap.get?_push_of_some _ e,turn_tuple a _,⟨_,Heap.get?_push_size _ rfl,rfl,rfl⟩,fun b hb=>?_,q⟩
  have e:b=s1.heap.objs.size:=by simpa using hb
  subst e
  exact I1.fpOk (Nat.le_refl _) (I1.hok.fresh (Nat.le_refl _))
theorem range_it{pins:List (Addr × Obj)}{σ:St}{H:Hp}{s:Shared}{R:It→Hp→Prop}{E:Value→Shared→Prop}{lo hi:Int}{t u v:Tok}{tk:Nat}(I:Inv X pins σ H s)(h1:-(2 ^ 62)≤lo)(h2:lo < 2 ^ 62)(h3:-(2 ^ 62)≤hi)(h4:hi < 2 ^ 62)
    (q:R (Itr lo (hi - lo).toNat) H):wpAny (model X.prog X.w) X.A (pyIter (.ref s.heap.objs.size)) (PIE X pins σ tg R) E { s with heap:=s.heap.push { cls:=.type "range",data:=.fields #[.int lo t,.int hi u,.int 1 v] },toks:=tk }:=by
  refine wpAny_pyIter_range (IsRange.new ..) (small_one h1 h2 h3 h4) ?_
  have I1:Inv X pins σ H { s with heap:=s.heap.push { cls:=.type "range",data:=.fields #[.int lo t,.int hi u,.int 1 v] },toks:=tk }:=I.kept fun b o e=>Heap.get?_push_of_some _ e
  refine⟨(s.heap.push { cls:=.type "range",data:=.fields #[.int lo t,.int hi u,.int 1 v] }).objs.size,[(s.heap.push { cls:=.type "range",data:=.fields #[.int lo t,.int hi u,.int 1 v] }).objs.size],_,_,H,rfl,
    I1.kept (t':=tk) fun b o e=>Heap.get?_push_of_some _ e,turn_range _ lo (hi - lo).toNat,?_,fun b hb=>?_,q⟩
  · have e1:lo+((0:Nat):Int) * 1=lo:=by simp
    have e2:(((hi - lo).toNat:Nat):Int) - ((0:Nat):Int)=Builtin.Range.rangeSize lo hi 1:=by rw[rangeSize_one];split <;>omega
    show IsRangeIter _ _ (lo+((0:Nat):Int) * 1) ((((hi - lo).toNat:Nat):Int) - ((0:Nat):Int)) 1
    rw[e1,e2]
    exact Heap.get?_push_size _ rfl
  · have e:b=(s.heap.push { cls:=.type "range",data:=.fields #[.int lo t,.int hi u,.int 1 v] }).objs.size:=by simpa using hb
    subst e
    exact I1.fpOk (Nat.le_refl _) (I1.hok.fresh (Nat.le_refl _))
def iRng1(ta:TA):TI:=fun σ H R=>ta σ H fun vs H1=>∃j:Int,vs=[.int j]∧-(2 ^ 62)≤j∧j < 2 ^ 62∧R (Itr 0 j.toNat) H1
theorem pi_range1{a:Expr}{ta:TA}{p pos:Pos}(hg:Gl X "range")(hm:X.mg "range"=none)(ha:PA X [a] ta)(hs:starEach [a] X.env=[(false,eval a X.env)]:=by rfl):PI X tg (.Call (.Name "range" p) [a] [] pos) (iRng1 ta):=by
  intro pins s σ H R I h
  refine Call_ (ld_blt I hg hm boot_range (PyProof.Rows.callWith_type1 (thn (ha pos pins s σ H _ I h) fun us s1 ⟨vs,H1,I1,r1,q1⟩=>?_) hs rfl))
  obtain⟨j,e,q1,q2,q⟩:=q1
  subst e
  cases r1 with
  | cons r rr=>
    cases rr
    obtain⟨t,rfl⟩:=r
    exact call_range_1 (range_it I1 (by omega) (by omega) q1 q2 (by simpa using q))
def tFor(wi:TI)(g:TG)(tb:TS):TS:=fun D σ H=>wi σ H fun J H1=>∃W:Nat→Nat→St→Hp→Prop,(∃m,W 0 m σ H1)∧∀i m σ H,W i m σ H→
  (J.stop i H∧D.nx σ H)∨(J.go i H∧∃N:St→Hp→Prop,(∀σ' H',N σ' H'→∃m',m' < m∧W (i+1) m' σ' H')∧∀x H',J.yld i H x H'→g x σ H' fun σ2 H2=>tb { D with nx:=N,ct:=N,bk:=D.nx } σ2 H2)
def pinsAt(fp:List Addr)(h:Heap):List (Addr × Obj):=fp.filterMap fun b=>(h.get? b).map fun o=>(b,o)
theorem mem_pinsAt{fp:List Addr}{h:Heap}{b:Addr}{o:Obj}(hb:b∈fp)(e:h.get? b=some o):(b,o)∈pinsAt fp h:=List.mem_filterMap.mpr ⟨b,hb,by rw[e];rfl⟩
theorem of_pinsAt{fp:List Addr}{h:Heap}{p:Addr × Obj}(hp:p∈pinsAt fp h):p.1∈fp∧h.get? p.1=some p.2:=by
  obtain⟨b,hb,e⟩:=List.mem_filterMap.mp hp
  cases q:h.get? b with
  | none=>rw[q]at e;cases e
  | some o=>
    rw[q]at e
    have e':(b,o)=p:=Option.some.inj e
    subst e'
    exact⟨hb,q⟩
theorem Inv.pinned{pins:List (Addr × Obj)}{σ:St}{H:Hp}{s:Shared}{fp:List Addr}(I:Inv X pins σ H s)(hf:∀b∈fp,FpOk X pins H b)(ho:∀b∈fp,∃o,s.heap.get? b=some o∧∀v,o.data≠.cell v):Inv X (pins++pinsAt fp s.heap) σ H s:=
  I.pins_of fun p hp=>(List.mem_append.mp hp).elim (fun z=>I.pin p (List.mem_append_right _ z)) fun z=>by
    obtain⟨hb,e⟩:=of_pinsAt z
    obtain⟨f0,f1,f2,_⟩:=hf p.1 hb
    obtain⟨o,e',d⟩:=ho p.1 hb
    rw[e]at e';cases e'
    exact⟨e,f0,f1,f2,d⟩
theorem Inv.unpinned{pins pl:List (Addr × Obj)}{σ:St}{H:Hp}{s:Shared}(I:Inv X (pins++pl) σ H s):Inv X pins σ H s:=I.pins_of fun p hp=>I.pin p (List.mem_append_right _ (List.mem_append_left _ hp))
theorem ps_for{iter:Expr}{body:List Stmt}{wi:TI}{g:TG}{tb:TS}{pos:Pos}(hp:PassesOwn (model X.prog X.w) X.A X.env X.xe)(hc:X.calm=true)(hi:PI X tg iter wi)(hg:PG X tg g)(hb:PSs X body tb)
    (hs:∀x,foldedSetIterable iter X.env x=pure x:=by intro _;rfl):PS X (.For tg iter body [] pos) (tFor wi g tb):=by
  intro pins s σ H D I h
  refine wpAny_For (thn (hi pins s σ H _ I h) fun v s1 h1=>thn h1 fun itv s2 h2=>?_) hs
  obtain⟨it,fp,tn,J,H2,e,I2,T,st2,f2,W,⟨m0,w0⟩,turn⟩:=h2
  subst e
  have stat:∀{H':Hp},(∀b∈fp,H' b=none)→∀b∈fp,FpOk X pins H' b:=fun hn b hb=>⟨hn b hb,(f2 b hb).2⟩
  refine codeAny_forLoop_any (fun n s'=>∃i σ' H',Inv X pins σ' H' s'∧tn i s'.heap∧(∀b∈fp,H' b=none)∧W i n σ' H') ?_ m0 ⟨0,σ,H2,I2,st2,fun b hb=>(f2 b hb).1,w0⟩
  rintro n s3 ⟨i,σ3,H3,I3,st3,fr3,w3⟩
  rcases turn i n σ3 H3 w3 with ⟨stop,qn⟩ | ⟨go,N,hN,step⟩
  · refine wpAny_passesOwn hp (thn (T.done X rfl rfl rfl hc i pins s3 σ3 H3 X.xe I3 (stat fr3) st3 stop) fun r s4 ⟨hr,I4⟩=>?_)
    subst hr
    exact wpAny_execs_nil ⟨σ3,H3,I4,qn⟩
  · refine wpAny_passesOwn hp (thn (T.item X rfl rfl rfl hc i pins s3 σ3 H3 X.xe I3 (stat fr3) st3 go) fun r s4 ⟨u,hr,h4⟩=>?_)
    subst hr
    refine wpAny_passesOwn hp (thn h4 fun _ s5 ⟨x,H5,I5,r5,y5,st5,fr5⟩=>?_)
    have I5':=I5.pinned (stat fr5) (T.obj _ _ st5)
    refine wpAny_passesOwn hp (thn (hg _ s5 σ3 H5 x u _ I5' r5 (step x H5 y5)) fun _ s6 ⟨σ6,H6,I6,q6⟩=>?_)
    refine wpAny_passesOwn hp (thn (hb _ s6 σ6 H6 _ I6 q6) fun f s7 q7=>?_)
    have again:∀{σ7:St} {H7:Hp},Inv X (pins++pinsAt fp s5.heap) σ7 H7 s7→N σ7 H7→∃m,m < n∧∃i σ' H',Inv X pins σ' H' s7∧tn i s7.heap∧(∀b∈fp,H' b=none)∧W i m σ' H':=fun{σ7 H7} I7 n7=>by
      obtain⟨m',hm,w7⟩:=hN σ7 H7 n7
      refine⟨m',hm,i+1,σ7,H7,I7.unpinned,T.keep _ _ _ st5 fun b hb o e=>(I7.pin (b,o) (List.mem_append_right _ (List.mem_append_right _ (mem_pinsAt hb e)))).1,fun b hb=>?_,w7⟩
      obtain⟨o,e,d⟩:=T.obj _ _ st5 b hb
      exact(I7.pin (b,o) (List.mem_append_right _ (List.mem_append_right _ (mem_pinsAt hb e)))).2.1
    cases f with
    | next=>obtain⟨σ7,H7,I7,n7⟩:=q7;exact again I7 n7
    | cont=>obtain⟨σ7,H7,I7,n7⟩:=q7;exact again I7 n7
    | brk=>obtain⟨σ7,H7,I7,q7⟩:=q7;exact⟨σ7,H7,I7.unpinned,q7⟩
    | ret v=>obtain⟨x7,σ7,H7,I7,r7,q7⟩:=q7;exact⟨x7,σ7,H7,I7.unpinned,r7,q7⟩
end
theorem for_list{K:PySem.W.Frag}{a:Addr}{xs:List V}{g:TG}{tb:TS}{D:Ends}{σ:St}{H:Hp}(Pv:Nat→St→Hp→Prop)(h0:Pv 0 σ H)(hl:∀i σ H,i≤xs.length→Pv i σ H→SqL K H a xs)
    (hs:∀i x σ H,xs[i]? = some x→Pv i σ H→g x σ H fun σ2 H2=>tb { D with nx:=Pv (i+1),ct:=Pv (i+1),bk:=D.nx } σ2 H2) (hd:∀σ H,Pv xs.length σ H→D.nx σ H) :
    ∃W:Nat→Nat→St→Hp→Prop,(∃m,W 0 m σ H)∧∀i m σ H,W i m σ H→
      ((Itl K a).stop i H∧D.nx σ H)∨((Itl K a).go i H∧∃N:St→Hp→Prop,(∀σ' H',N σ' H'→∃m',m' < m∧W (i+1) m' σ' H')∧∀x H',(Itl K a).yld i H x H'→g x σ H' fun σ2 H2=>tb { D with nx:=N,ct:=N,bk:=D.nx } σ2 H2):=by
  refine⟨fun i m σ H=>m=xs.length - i∧i≤xs.length∧Pv i σ H,⟨xs.length,by simp,Nat.zero_le _,h0⟩,?_⟩
  rintro i m σ H ⟨rfl,hi,p⟩
  have q:=hl i σ H hi p
  by_cases hlt:i < xs.length
  · refine .inr ⟨⟨xs,xs[i],q,by simp[hlt]⟩,Pv (i+1),fun σ' H' p'=>⟨xs.length - (i+1),by omega,rfl,hlt,p'⟩,fun x H' y=>?_⟩
    obtain⟨e,y⟩:=y
    subst e
    exact hs i x σ _ (y xs q) p
  · have e:i=xs.length:=by omega
    subst e
    exact .inl ⟨⟨xs,q,Nat.le_refl _⟩,hd σ H p⟩
theorem for_range{lo:Int}{n:Nat}{g:TG}{tb:TS}{D:Ends}{σ:St}{H:Hp}(Pv:Nat→St→Hp→Prop)(h0:Pv 0 σ H)
    (hs:∀i σ H,i < n→Pv i σ H→g (.int (lo+i)) σ H fun σ2 H2=>tb { D with nx:=Pv (i+1),ct:=Pv (i+1),bk:=D.nx } σ2 H2) (hd:∀σ H,Pv n σ H→D.nx σ H) :
    ∃W:Nat→Nat→St→Hp→Prop,(∃m,W 0 m σ H)∧∀i m σ H,W i m σ H→
      ((Itr lo n).stop i H∧D.nx σ H)∨((Itr lo n).go i H∧∃N:St→Hp→Prop,(∀σ' H',N σ' H'→∃m',m' < m∧W (i+1) m' σ' H')∧∀x H',(Itr lo n).yld i H x H'→g x σ H' fun σ2 H2=>tb { D with nx:=N,ct:=N,bk:=D.nx } σ2 H2):=by
  refine⟨fun i m σ H=>m=n - i∧i≤n∧Pv i σ H,⟨n,by simp,Nat.zero_le _,h0⟩,?_⟩
  rintro i m σ H ⟨rfl,hi,p⟩
  by_cases hlt:i < n
  · refine .inr ⟨hlt,Pv (i+1),fun σ' H' p'=>⟨n - (i+1),by omega,rfl,hlt,p'⟩,fun x H' y=>?_⟩
    obtain⟨e,y⟩:=y
    subst e y
    exact hs i σ _ hlt p
  · have e:i=n:=by omega
    subst e
    exact .inl ⟨Nat.le_refl _,hd σ H p⟩
end L2
namespace L2
open PySem PySem.Spec PyProof.Rows
abbrev R2:=V→V→Hp→VK→Prop
def OpR(X:Cx)(f:Value→Value→Sem Value)(r:R2):Prop:=
  ∀(pins:List (Addr × Obj)) (s:Shared) (σ:St) (H:Hp) (x y:V) (v u:Value) (Q:VK),Inv X pins σ H s→RelV x v→RelV y u→r x y H Q→
    wpAny (model X.prog X.w) X.A (f v u) (EP X pins σ Q) X.xe s
def UnR(X:Cx)(f:Value→Sem Value)(r:V→Hp→VK→Prop):Prop:=
  ∀(pins:List (Addr × Obj)) (s:Shared) (σ:St) (H:Hp) (x:V) (v:Value) (Q:VK),Inv X pins σ H s→RelV x v→r x H Q→
    wpAny (model X.prog X.w) X.A (f v) (EP X pins σ Q) X.xe s
def CallR(X:Cx)(f:Value)(r:List V→Hp→VK→Prop):Prop:=
  ∀(pins:List (Addr × Obj)) (s:Shared) (σ:St) (H:Hp) (xs:List V) (us:List Value) (Q:VK),Inv X pins σ H s→Vals xs us→r xs H Q→
    wpAny (model X.prog X.w) X.A (call f us) (EP X pins σ Q) X.xe s
def tOp(r:R2)(ta tb:TE):TE:=fun σ H Q=>ta σ H fun x H1=>tb σ H1 fun y H2=>r x y H2 Q
def tUn(r:V→Hp→VK→Prop)(ta:TE):TE:=fun σ H Q=>ta σ H fun x H1=>r x H1 Q
def rI(C:Int→Int→Prop)(g:Int→Int→V):R2:=fun x y H Q=>∃i j,x=.int i∧y=.int j∧C i j∧Q (g i j) H
def rI0(g:Int→Int→V):R2:=fun x y H Q=>∃i j,x=.int i∧y=.int j∧Q (g i j) H
def rU(g:Int→V):V→Hp→VK→Prop:=fun x H Q=>∃i,x=.int i∧Q (g i) H
section
variable{X:Cx}{a b c:Expr}{ta tb tc:TE}{pos:Pos}
theorem binT(ha:PE X a ta)(hb:PE X b tb){pins:List (Addr × Obj)}{s:Shared}{σ:St}{H:Hp}{R:V→V→Hp→Prop}(I:Inv X pins σ H s)
    (h:ta σ H fun x H1=>tb σ H1 fun y H2=>R x y H2) {Q:Value→Shared→Prop} {f:Value→Value→Sem Value}
    (hf:∀v u s2 x y H2,Inv X pins σ H2 s2→RelV x v→RelV y u→R x y H2→wpAny (model X.prog X.w) X.A (f v u) Q X.xe s2) :
    wpAny (model X.prog X.w) X.A (eval a X.env) (fun v s₁=>wpAny (model X.prog X.w) X.A (eval b X.env) (fun u s₂=>wpAny (model X.prog X.w) X.A (f v u) Q X.xe s₂) X.xe s₁) X.xe s:=by
  refine thn (ha pins s σ H _ I h) fun v s1 ⟨x,H1,I1,r1,q1⟩=>?_
  refine thn (hb pins s1 σ H1 _ I1 q1) fun u s2 ⟨y,H2,I2,r2,q2⟩=>?_
  exact hf v u s2 x y H2 I2 r1 r2 q2
theorem pe_op{op:Operator}{r:R2}(ho:OpR X (binaryOp op) r)(ha:PE X a ta)(hb:PE X b tb):PE X (.BinOp a op b pos) (tOp r ta tb):=by
  intro pins s σ H Q I h
  exact wpAny_BinOp (binT ha hb I h fun v u s2 x y H2 I2 rx ry q=>ho pins s2 σ H2 x y v u Q I2 rx ry q)
theorem pe_un{op:UnaryOp}{r:V→Hp→VK→Prop}(ho:UnR X (unaryOp op) r)(ha:PE X a ta):PE X (.UnaryOp op a pos) (tUn r ta):=by
  intro pins s σ H Q I h
  exact UnaryOp_ (thn (ha pins s σ H _ I h) fun v s1 ⟨x,H1,I1,r1,q1⟩=>ho pins s1 σ H1 x v Q I1 r1 q1)
theorem opI{f:Value→Value→Sem Value}{C:Int→Int→Prop}{g:Int→Int→Int}
    (rule:∀(i j:Int) (t u:Tok) (s:Shared) (Q:Value→Shared→Prop) (E:Value→Shared→Prop),C i j→Q (.int (g i j) s.toks) { s with toks:=s.toks+1 }→wpAny (model X.prog X.w) X.A (f (.int i t) (.int j u)) Q E s) :
    OpR X f (rI C fun i j=>.int (g i j)):=by
  intro pins s σ H x y v u Q I rx ry h
  obtain⟨i,j,rfl,rfl,hc,q⟩:=h
  obtain⟨t,rfl⟩:=rx
  obtain⟨t',rfl⟩:=ry
  exact rule i j t t' s _ _ hc ⟨.int (g i j),H,I.tok _,⟨_,rfl⟩,q⟩
theorem opI0{f:Value→Value→Sem Value}{g:Int→Int→Int}
    (rule:∀(i j:Int) (t u:Tok) (s:Shared) (Q:Value→Shared→Prop) (E:Value→Shared→Prop),Q (.int (g i j) s.toks) { s with toks:=s.toks+1 }→wpAny (model X.prog X.w) X.A (f (.int i t) (.int j u)) Q E s) :
    OpR X f (rI0 fun i j=>.int (g i j)):=by
  intro pins s σ H x y v u Q I rx ry h
  obtain⟨i,j,rfl,rfl,q⟩:=h
  obtain⟨t,rfl⟩:=rx
  obtain⟨t',rfl⟩:=ry
  exact rule i j t t' s _ _ ⟨.int (g i j),H,I.tok _,⟨_,rfl⟩,q⟩
theorem opB0{f:Value→Value→Sem Value}{g:Int→Int→Bool}
    (rule:∀(i j:Int) (t u:Tok) (s:Shared) (Q:Value→Shared→Prop) (E:Value→Shared→Prop),Q (.bool (g i j)) s→wpAny (model X.prog X.w) X.A (f (.int i t) (.int j u)) Q E s) :
    OpR X f (rI0 fun i j=>.bl (g i j)):=by
  intro pins s σ H x y v u Q I rx ry h
  obtain⟨i,j,rfl,rfl,q⟩:=h
  obtain⟨t,rfl⟩:=rx
  obtain⟨t',rfl⟩:=ry
  exact rule i j t t' s _ _ ⟨.bl (g i j),H,I,rfl,q⟩
def CPow(i j:Int):Prop:=0≤j∧j≤1000000∧i.natAbs < 2 ^ 64
def CMul(i j:Int):Prop:=(-(2 ^ 64) < i∧i < 2 ^ 64)∨(-(2 ^ 64) < j∧j < 2 ^ 64)
theorem CMul.ok{i j:Int}(h:CMul i j):IntMulOk i j:=by
  rcases h with ⟨h1,h2⟩ | ⟨h1,h2⟩
  · exact .of_left (intBits_le_64 h1 h2)
  · exact .of_right (intBits_le_64 h1 h2)
theorem op_add:OpR X (binaryOp .Add) (rI0 fun i j=>.int (i+j)):=opI0 fun _ _ _ _ _ _ _ q=>add_int q
theorem op_mul:OpR X (binaryOp .Mult) (rI CMul fun i j=>.int (i * j)):=opI fun _ _ _ _ _ _ _ hc q=>mul_int q hc.ok
theorem op_modN:OpR X (binaryOp .Mod) (rI (fun _ j=>j≠0) fun i j=>.int (i.fmod j)):=opI fun _ _ _ _ _ _ _ hc q=>mod_int' hc q
theorem op_pow:OpR X (binaryOp .Pow) (rI CPow fun i j=>.int (i ^ j.toNat)):=opI fun _ _ _ _ _ _ _ hc q=>pow_int_small hc.1 hc.2.1 hc.2.2 q
theorem unI{f:Value→Sem Value}{g:Int→Int}
    (rule:∀(i:Int) (t:Tok) (s:Shared) (Q:Value→Shared→Prop) (E:Value→Shared→Prop),Q (.int (g i) s.toks) { s with toks:=s.toks+1 }→wpAny (model X.prog X.w) X.A (f (.int i t)) Q E s) :
    UnR X f (rU fun i=>.int (g i)):=by
  intro pins s σ H x v Q I rx h
  obtain⟨i,rfl,q⟩:=h
  obtain⟨t,rfl⟩:=rx
  exact rule i t s _ _ ⟨.int (g i),H,I.tok _,⟨_,rfl⟩,q⟩
theorem un_neg:UnR X (unaryOp .USub) (rU fun i=>.int (-i)):=unI fun _ _ _ _ _ q=>neg_int q
end
def scal:V→V→Bool
  | .non,.non=>true | .non,.int _=>true | .int _,.non=>true | .non,.bl _=>true | .bl _,.non=>true | .non,.str _=>true | .str _,.non=>true
  | .int _,.int _=>true | .bl _,.bl _=>true | .str _,.str _=>true | .byt _,.byt _=>true
  | .int _,.str _=>true | .str _,.int _=>true | .bl _,.str _=>true | .str _,.bl _=>true
  | _,_=>false
def rEq:R2:=fun x y H Q=>scal x y=true∧Q (.bl (decide (x=y))) H
def rNe:R2:=fun x y H Q=>scal x y=true∧Q (.bl (!decide (x=y))) H
theorem dec_int{i j:Int}:decide (V.int i=V.int j)=(i == j):=by
  rw[Bool.eq_iff_iff]
  simp
theorem dec_bl{i j:Bool}:decide (V.bl i=V.bl j)=(i == j):=by
  rw[Bool.eq_iff_iff]
  simp
theorem dec_str{i j:Str}:decide (V.str i=V.str j)=(i == j):=by
  rw[Bool.eq_iff_iff]
  simp
theorem dec_byt{i j:Array UInt8}:decide (V.byt i=V.byt j)=(i.toList == j.toList):=by
  rw[Bool.eq_iff_iff]
  cases i
  cases j
  simp
section
variable{X:Cx}{a b c:Expr}{ta tb tc:TE}{pos:Pos}
theorem fin_bl{pins:List (Addr × Obj)}{σ:St}{H:Hp}{s:Shared}{Q:VK}{k k':Bool}(I:Inv X pins σ H s)(q:Q (.bl k) H)(e:k=k'):EP X pins σ Q (.bool k') s:=by
  subst e
  exact⟨.bl k,H,I,rfl,q⟩
theorem op_eq:OpR X (compareOp .Eq) rEq:=by
  intro pins s σ H x y v u Q I rx ry h
  obtain⟨hs,q⟩:=h
  cases x with
  | non=>
    cases rx
    cases y with
    | non=>cases ry;exact PySem.EqNone.eq_none_none (fin_bl I q (by simp))
    | bl j=>cases ry;exact PySem.EqNone.eq_none_bool (fin_bl I q (by simp))
    | int j=>obtain⟨t',rfl⟩:=ry;exact PySem.EqNone.eq_none_int (fin_bl I q (by simp))
    | str j=>obtain⟨t',rfl⟩:=ry;exact PySem.EqNone.eq_none_str (fin_bl I q (by simp))
    | _=>exact absurd (show false=true from hs) Bool.false_ne_true
  | bl i=>
    cases rx
    cases y with
    | non=>cases ry;exact PySem.EqNone.eq_bool_none (fin_bl I q (by simp))
    | bl j=>cases ry;exact eq_bool (fin_bl I q dec_bl)
    | str j=>obtain⟨t',rfl⟩:=ry;exact PySem.EqMixed.eq_bool_str (fin_bl I q (by simp))
    | _=>exact absurd (show false=true from hs) Bool.false_ne_true
  | int i=>
    obtain⟨t,rfl⟩:=rx
    cases y with
    | non=>cases ry;exact PySem.EqNone.eq_int_none (fin_bl I q (by simp))
    | int j=>obtain⟨t',rfl⟩:=ry;exact eq_int (fin_bl I q dec_int)
    | str j=>obtain⟨t',rfl⟩:=ry;exact PySem.EqMixed.eq_int_str (fin_bl I q (by simp))
    | _=>exact absurd (show false=true from hs) Bool.false_ne_true
  | str i=>
    obtain⟨t,rfl⟩:=rx
    cases y with
    | non=>cases ry;exact PySem.EqNone.eq_str_none (fin_bl I q (by simp))
    | bl j=>cases ry;exact PySem.EqMixed.eq_str_bool (fin_bl I q (by simp))
    | int j=>obtain⟨t',rfl⟩:=ry;exact PySem.EqMixed.eq_str_int (fin_bl I q (by simp))
    | str j=>obtain⟨t',rfl⟩:=ry;exact eq_str (fin_bl I q dec_str)
    | _=>exact absurd (show false=true from hs) Bool.false_ne_true
  | byt i=>
    obtain⟨t,rfl⟩:=rx
    cases y with
    | byt j=>obtain⟨t',rfl⟩:=ry;exact PySem.W.eq_bytes (fin_bl I q dec_byt)
    | _=>exact absurd (show false=true from hs) Bool.false_ne_true
  | _=>cases y <;>exact absurd (show false=true from hs) Bool.false_ne_true
theorem op_ne:OpR X (compareOp .NotEq) rNe:=by
  intro pins s σ H x y v u Q I rx ry h
  obtain⟨hs,q⟩:=h
  cases x with
  | non=>
    cases rx
    cases y with
    | non=>cases ry;exact PySem.EqNone.ne_none_none (fin_bl I q (by simp))
    | bl j=>cases ry;exact PySem.EqNone.ne_none_bool (fin_bl I q (by simp))
    | int j=>obtain⟨t',rfl⟩:=ry;exact PySem.EqNone.ne_none_int (fin_bl I q (by simp))
    | str j=>obtain⟨t',rfl⟩:=ry;exact PySem.EqNone.ne_none_str (fin_bl I q (by simp))
    | _=>exact absurd (show false=true from hs) Bool.false_ne_true
  | bl i=>
    cases rx
    cases y with
    | non=>cases ry;exact PySem.EqNone.ne_bool_none (fin_bl I q (by simp))
    | bl j=>cases ry;exact ne_bool (fin_bl I q (congrArg not dec_bl))
    | str j=>obtain⟨t',rfl⟩:=ry;exact PySem.EqMixed.ne_bool_str (fin_bl I q (by simp))
    | _=>exact absurd (show false=true from hs) Bool.false_ne_true
  | int i=>
    obtain⟨t,rfl⟩:=rx
    cases y with
    | non=>cases ry;exact PySem.EqNone.ne_int_none (fin_bl I q (by simp))
    | int j=>obtain⟨t',rfl⟩:=ry;exact ne_int (fin_bl I q (congrArg not dec_int))
    | str j=>obtain⟨t',rfl⟩:=ry;exact PySem.EqMixed.ne_int_str (fin_bl I q (by simp))
    | _=>exact absurd (show false=true from hs) Bool.false_ne_true
  | str i=>
    obtain⟨t,rfl⟩:=rx
    cases y with
    | non=>cases ry;exact PySem.EqNone.ne_str_none (fin_bl I q (by simp))
    | bl j=>cases ry;exact PySem.EqMixed.ne_str_bool (fin_bl I q (by simp))
    | int j=>obtain⟨t',rfl⟩:=ry;exact PySem.EqMixed.ne_str_int (fin_bl I q (by simp))
    | str j=>obtain⟨t',rfl⟩:=ry;exact ne_str (fin_bl I q (congrArg not dec_str))
    | _=>exact absurd (show false=true from hs) Bool.false_ne_true
  | byt i=>
    obtain⟨t,rfl⟩:=rx
    cases y with
    | byt j=>obtain⟨t',rfl⟩:=ry;exact PySem.W.ne_bytes (fin_bl I q (congrArg not dec_byt))
    | _=>exact absurd (show false=true from hs) Bool.false_ne_true
  | _=>cases y <;>exact absurd (show false=true from hs) Bool.false_ne_true
theorem op_lt:OpR X (compareOp .Lt) (rI0 fun i j=>.bl (decide (i < j))):=opB0 fun _ _ _ _ _ _ _ q=>lt_int q
theorem op_le:OpR X (compareOp .LtE) (rI0 fun i j=>.bl (decide (i≤j))):=opB0 fun _ _ _ _ _ _ _ q=>le_int q
theorem op_gt:OpR X (compareOp .Gt) (rI0 fun i j=>.bl (decide (j < i))):=opB0 fun _ _ _ _ _ _ _ q=>gt_int q
theorem op_ge:OpR X (compareOp .GtE) (rI0 fun i j=>.bl (decide (j≤i))):=opB0 fun _ _ _ _ _ _ _ q=>ge_int q
theorem op_isN:OpR X (compareOp .Is) (fun x y H Q=>y=.non∧Q (.bl (decide (x=.non))) H):=by
  intro pins s σ H x y v u Q I rx ry h
  obtain⟨rfl,q⟩:=h
  cases ry
  refine is_none_gen (fin_bl I q ?_)
  cases x <;>first
    | (cases rx;rfl)
    | (obtain⟨t,rfl⟩:=rx;rfl)
theorem OpR.or{f:Value→Value→Sem Value}{r r':R2}(h:OpR X f r)(h':OpR X f r'):OpR X f (fun x y H Q=>r x y H Q∨r' x y H Q):=by
  intro pins s σ H x y v u Q I rx ry q
  rcases q with q | q
  · exact h pins s σ H x y v u Q I rx ry q
  · exact h' pins s σ H x y v u Q I rx ry q
theorem nomark(b:Expr){op:CmpOp}(h:op≠.In:=by decide)(h2:op≠.NotIn:=by decide):behindInMarks op b=false:=by
  have e1:(op == CmpOp.In)=false:=by cases op <;>first | rfl | exact absurd rfl h
  have e2:(op == CmpOp.NotIn)=false:=by cases op <;>first | rfl | exact absurd rfl h2
  cases b <;>simp[behindInMarks,e1,e2]
theorem pe_cmpR{op:CmpOp}{r:R2}(ho:OpR X (compareOp op) r)(ha:PE X a ta)(hb:PE X b tb)(hm:behindInMarks op b=false):PE X (.Compare a [op] [b] pos) (tOp r ta tb):=by
  intro pins s σ H Q I h
  exact wpAny_Compare1 (binT ha hb I h fun v u s2 x y H2 I2 rx ry q=>ho pins s2 σ H2 x y v u Q I2 rx ry q) hm
def tTest(t:TE):TT:=fun σ H Q=>t σ H fun x H'=>∃k,x=.bl k∧Q k H'
theorem pt_cmpR{op:CmpOp}{r:R2}(ho:OpR X (compareOp op) r)(ha:PE X a ta)(hb:PE X b tb)(hm:behindInMarks op b=false):PT X (.Compare a [op] [b] pos) (tTest (tOp r ta tb)):=by
  intro pins s σ H Q I h
  refine wpAny_isTrue_Compare1 (thn (ha pins s σ H _ I h) fun v s1 ⟨x,H1,I1,r1,q1⟩=>thn (hb pins s1 σ H1 _ I1 q1) fun u s2 ⟨y,H2,I2,r2,q2⟩=>
    thn (ho pins s2 σ H2 x y v u _ I2 r1 r2 q2) fun c s3 ⟨z,H3,I3,r3,k,e,q3⟩=>?_) hm
  subst e
  cases r3
  exact wpAny_truthy_bool ⟨H3,I3,q3⟩
theorem line63:(sizeLine:Nat) < 2 ^ 63:=by rw[sizeLine_eq];decide
theorem vals1{x:V}{us:List Value}(r:Vals [x] us):∃u,us=[u]∧RelV x u:=by
  cases r with
  | cons r1 r2=>cases r2;exact⟨_,rfl,r1⟩
theorem call_int1:CallR X (.type "int") (fun xs H Q=>(∃i,xs=[.int i]∧Q (.int i) H)∨∃k,xs=[.bl k]∧Q (.int (if k then 1 else 0)) H):=by
  intro pins s σ H xs us Q I r h
  rcases h with ⟨i,rfl,q⟩ | ⟨k,rfl,q⟩
  · obtain⟨u,rfl,t,rfl⟩:=vals1 r
    exact call_int_int ⟨.int i,H,I,⟨_,rfl⟩,q⟩
  · obtain⟨u,rfl,r1⟩:=vals1 r
    cases r1
    exact call_int_bool ⟨.int (if k then 1 else 0),H,I.tok _,⟨_,rfl⟩,q⟩
def LenV(K:PySem.W.Frag)(x:V)(H:Hp)(n:Nat):Prop:=
  match x with
  | .str y=>y.length≤sizeLine∧n=y.length
  | .byt y=>y.size≤sizeLine∧n=y.size
  | .ref p=>(∃xs,SqL K H p xs∧n=xs.length)∨∃xs,SqT K H p xs∧n=xs.length
  | _=>False
theorem call_len:CallR X (.builtin "len") (fun xs H Q=>∃x n,xs=[x]∧LenV X.K x H n∧Q (.int n) H):=by
  intro pins s σ H xs us Q I r h
  obtain⟨x,n,rfl,e,q⟩:=h
  obtain⟨u,rfl,rx⟩:=vals1 r
  have hl:=line63
  have hs:sizeLine=16777216:=sizeLine_eq
  cases x with
  | str y=>
    obtain⟨t,rfl⟩:=rx
    obtain⟨hy,e'⟩:y.length≤sizeLine∧n=y.length:=e
    subst e'
    exact len_str (by omega) ⟨.int _,H,I.tok _,⟨_,rfl⟩,q⟩
  | byt y=>
    obtain⟨t,rfl⟩:=rx
    obtain⟨hy,e'⟩:y.size≤sizeLine∧n=y.size:=e
    subst e'
    exact PySem.W.len_bytes (by omega) ⟨.int _,H,I.tok _,⟨_,rfl⟩,q⟩
  | ref p=>
    cases rx
    have e':(∃xs,SqL X.K H p xs∧n=xs.length)∨∃xs,SqT X.K H p xs∧n=xs.length:=e
    rcases e' with ⟨xs,hx,e'⟩ | ⟨xs,hx,e'⟩
    · subst e'
      obtain⟨its,r',pl,hz⟩:=I.list hx
      have hlen:=r'.length
      exact Calls.call_len_list pl.isList (by simp only[List.size_toArray];omega) ⟨.int xs.length,H,I.tok _,⟨_,by simp only[List.size_toArray];rw[hlen]⟩,q⟩
    · subst e'
      obtain⟨its,r',pl,hz⟩:=I.tuple hx
      have hlen:=r'.length
      exact len_tuple pl (by simp only[List.size_toArray];omega) ⟨.int xs.length,H,I.tok _,⟨_,by simp only[List.size_toArray];rw[hlen]⟩,q⟩
  | _=>exact(show False from e).elim
end
end L2
namespace L2
open PySem PySem.Spec PyProof.Rows
structure ObjM(h:Heap)(x dx C:Addr)(mA:Str→Option Value):Prop where
  obj:h.get? x=some (PySem.W.instObj C dx)
  ns:h.Ns1 dx mA
  ne:dx≠x
theorem lookIn_ns{h:Heap}{dx:Addr}{mA:Str→Option Value}(n:h.Ns1 dx mA):∃od,h.get? dx=some od∧∀name,PySem.W.lookIn name od=some (mA name):=by
  obtain⟨o,es,ep,ho,hd,hk,_,hm⟩:=n
  refine⟨o,ho,fun name=>?_⟩
  have e:=hm name
  unfold nsFind findBy at e
  rw[← Array.find?_toList]at e
  unfold PySem.W.lookIn
  rw[hd]
  dsimp only
  split
  · rename_i y q
    rw[q]at e
    exact congrArg some e
  · rename_i q
    rw[q]at e
    have a:es.toList.any (·.refKey)=false:=by
      rw[List.any_eq_false]
      intro y hy
      obtain⟨z,t,hkey⟩:=hk y (Array.mem_toList_iff.mp hy)
      simp[DictEntry.refKey,hkey]
    have a':¬es.toList.any (·.refKey)=true:=by rw[a];exact Bool.false_ne_true
    rw[if_neg a']
    exact congrArg some e
theorem ObjM.look{h:Heap}{x dx C:Addr}{mA:Str→Option Value}(I:ObjM h x dx C mA):∃od,PySem.W.InstAt h x (PySem.W.instObj C dx) C (some od)∧∀name,PySem.W.lookIn name od=some (mA name):=
  let⟨od,ho,hl⟩:=lookIn_ns I.ns
  ⟨od,⟨I.obj,rfl,rfl,ho⟩,hl⟩
section
variable{prog:Program}{w:World}{A:Around}{E:Value→Shared→Prop}{s:Shared}{K:PySem.W.Frag}{x dx C f:Addr}{mA:Str→Option Value}{name:Str}{v:Value}
theorem get_meth{pl:Sem Bool}{Q:Value × List Value→Shared→Prop}(X:K.In s.heap)(I:ObjM s.heap x dx C mA)(hg:PySem.W.plainGet K C name=true)
    (hf:PySem.W.findIn K (.ref C) name=some (some (.ref f))) (ht:PySem.W.isFn K (.ref f)=true) (hv:mA name=none) (h:Q (.ref f,[.ref x]) s) :
    wpAny (model prog w) A (getMethod (.ref x) name pl) Q E s:=by
  obtain⟨od,J,hl⟩:=I.look
  exact PySem.W.method_fn X J (PySem.W.plainGet_of hg).1 (PySem.W.plainGet_of hg).2 hf (beq_iff_eq.mp ht) (by show(PySem.W.lookIn name od).map (·.isSome)=some false;rw[hl,hv];rfl) h
theorem make_map0{R:Result→Shared→Prop}(X:K.In s.heap)(hm:PySem.W.makesIn K C=true)
    (hi:PySem.W.findIn K (.ref C) "__init__"=some (some (.builtin "object.__init__")))
    (hb:∀self,PySem.W.Looks (model prog w) s.heap (bindSpecial (.builtin "object.__init__") self) (.builtin "object.__init__",[self]))
    (h:codeAny (model prog w) (A.under (.builtin "type.__call__" ⟨[.ref C],[]⟩)) (.call (.builtin "object.__init__") ⟨[.ref (s.heap.objs.size+1)],[]⟩) (PySem.W.InitBack (s.heap.objs.size+1) R)
      { s with heap:=(s.heap.push PySem.W.emptyDict).push (PySem.W.instObj C s.heap.objs.size) }) :
    codeAny (model prog w) A (.call (.ref C) ⟨[],[]⟩) R s:=by
  obtain⟨hh,g,d,t,os⟩:=s
  exact PySem.W.make_core (PySem.W.makes_of X hm) (PySem.W.looks_findIn X hi) hb (.inr ⟨rfl,rfl⟩) h
end
theorem RelO.none_of{o:Option Value}(r:RelO none o):o=none:=by
  cases o with
  | none=>rfl
  | some u=>exact(show False from r).elim
section
variable{P:Program}{w:World}{H H':Hp}{h h':Heap}{a C dx:Addr}{fs fs':List (Str × V)}
theorem ins_get(hok:HOk P w H h)(e:H a=some (.ins C dx fs)):∃mA,ObjM h a dx C mA∧(∀f,RelO (fs.lookup f) (mA f))∧PySem.Within mA (fs.map (·.1))∧fs.length≤1000∧H dx=some (.own a):=by
  obtain⟨d,z,ne,ob,mA,n,r,q⟩:=(show ObjOk P w H h a (.ins C dx fs)from hok a _ e)
  exact⟨mA,⟨ob,n,ne⟩,r,q,z,d⟩
end
structure Cls(K:PySem.W.Frag)(C:Addr):Prop where
  pg:PySem.W.plainGet K C Str.empty=true
  hd:PySem.W.hasDictIn K C=true
  po:PySem.W.plainOver K C=true
  sa:PySem.W.findIn K (.ref C) "__setattr__"=some (some (.builtin "object.__setattr__"))
theorem Cls.get{K:PySem.W.Frag}{C:Addr}(c:Cls K C)(f:Str):PySem.W.plainGet K C f=true:=c.pg
structure Con(K:PySem.W.Frag)(C:Addr)(f:Str)(v:V)(u:Value):Prop where
  at_:PySem.W.findIn K (.ref C) f=some (some u)
  rel:RelV v u
  get:PySem.W.specialIn K u "__get__"=some none
  cp:PySem.W.copiedNames.contains f=false
structure Meth(K:PySem.W.Frag)(C:Addr)(m:Str)(f:Addr):Prop where
  at_:PySem.W.findIn K (.ref C) m=some (some (.ref f))
  fn:PySem.W.isFn K (.ref f)=true
  kp:PySem.W.keepIn K (.ref f)=true
section
variable{X:Cx}{pins:List (Addr × Obj)}{σ:St}{H:Hp}{s:Shared}{a C dx:Addr}{fs:List (Str × V)}{f:Str}{v:V}{A:Around}{E:Value→Shared→Prop}
theorem getmeth_ok{m:Str}{g:Addr}{pl:Sem Bool}{Q:Value × List Value→Shared→Prop}(I:Inv X pins σ H s)(e:H a=some (.ins C dx fs))(c:Cls X.K C)(k:Meth X.K C m g)(l:fs.lookup m=none)
    (h:Q (.ref g,[.ref a]) s):wpAny (model X.prog X.w) A (getMethod (.ref a) m pl) Q E s:=by
  obtain⟨mA,O,r,_,_,_⟩:=ins_get I.hok e
  have hn:mA m=none:=RelO.none_of (by rw[← l];exact r m)
  exact get_meth I.kIn O (c.get m) k.at_ k.fn hn h
theorem Inv.made(I:Inv X pins σ H s):Inv X pins σ (upd (upd H s.heap.objs.size (.own (s.heap.objs.size+1))) (s.heap.objs.size+1) (.ins C s.heap.objs.size []))
    { s with heap:=(s.heap.push PySem.W.emptyDict).push (PySem.W.instObj C s.heap.objs.size) }:=by
  have e1:(s.heap.push PySem.W.emptyDict).get? s.heap.objs.size=some PySem.W.emptyDict:=Heap.get?_push_size s.heap rfl
  have e2:((s.heap.push PySem.W.emptyDict).push (PySem.W.instObj C s.heap.objs.size)).get? (s.heap.objs.size+1)=some (PySem.W.instObj C s.heap.objs.size):=by
    have:=Heap.get?_push_size (s.heap.push PySem.W.emptyDict) (o:=PySem.W.instObj C s.heap.objs.size) rfl
    rwa [Heap.size_push]at this
  have e3:(s.heap.push PySem.W.emptyDict).Ns s.heap.objs.size (fun _=>none):=⟨PySem.W.emptyDict,#[],_,e1,rfl,(fun e he=>absurd he (by simp)),fun _=>rfl⟩
  have I1:=I.laid (a:=s.heap.objs.size) (o:=.own (s.heap.objs.size+1)) (h':=s.heap.push PySem.W.emptyDict) (t':=s.toks) (fun b u q=>Heap.get?_push_of_some _ q) (Nat.le_refl _) ⟨_,e1⟩
  refine I1.laid (a:=s.heap.objs.size+1) (o:=.ins C s.heap.objs.size []) (t':=s.toks) (fun b u q=>Heap.get?_push_of_some _ q) (Nat.le_of_eq (Heap.size_push _ _)) ?_
  have ne:s.heap.objs.size≠s.heap.objs.size+1:=Nat.ne_of_lt (Nat.lt_succ_self _)
  refine⟨by rw[upd_ne ne,upd_same],Nat.zero_le _,ne,e2,fun _=>none,(Heap.Ns1.of_empty e3).at fun o q=>Heap.get?_push_of_some _ q,fun _=>True.intro,fun y hy=>absurd rfl hy⟩
end
section
variable{X:Cx}{o e value:Expr}{f:Str}{pos pos' tpos:Pos}{ta tv:TE}
end
section
variable{X:Cx}{pins:List (Addr × Obj)}{σ:St}{H:Hp}{s:Shared}{A:Around}{E:Value→Shared→Prop}{Q:Value→Shared→Prop}{c:Value}{b:Bool}
inductive TyOf(K:PySem.W.Frag)(H:Hp):V→Value→Prop where
  | non:TyOf K H .non (.type "NoneType")
  | bl (x:Bool):TyOf K H (.bl x) (.type "bool")
  | int (i:Int):TyOf K H (.int i) (.type "int")
  | str (x:Str):TyOf K H (.str x) (.type "str")
  | flt (x:UInt64):TyOf K H (.flt x) (.type "float")
  | lst {a:Addr} {xs:List V} (e:H a=some (.lst xs)):TyOf K H (.ref a) (.type "list")
  | frz {a:Addr} {o:Obj} {xs:List V} (e:H a=some (.frz o (.lst xs))):TyOf K H (.ref a) (.type "list")
  | tup {a:Addr} {xs:List V} (e:H a=some (.tup xs)):TyOf K H (.ref a) (.type "tuple")
  | dK {a:Addr} {kvs:List (Key × V)} (e:H a=some (.dK kvs)):TyOf K H (.ref a) (.type "dict")
  | dT {a:Addr} {kvs:List (List Key × V)} (e:H a=some (.dT kvs)):TyOf K H (.ref a) (.type "dict")
  | ins {a C dx:Addr} {fs:List (Str × V)} (e:H a=some (.ins C dx fs)) (cl:Cls K C) (ha:PySem.W.findIn K (.ref C) "__class__"=some (some (.builtin "object.__class__")))
      (hn:PySem.W.specialIn K (.builtin "object.__class__") "__get__"=some (some (.builtin "getset_descriptor.__get__"))) (htk:PySem.W.takesIn K (.builtin "object.__class__")=some true)
      (hm:PySem.W.mroIn K C (.type "object")=some true):TyOf K H (.ref a) (.ref C)
theorem isinst_ok{x:V}{u t:Value}(I:Inv X pins σ H s)(rx:RelV x u)(ty:TyOf X.K H x t)(e:PySem.W.kitOne X.K t c=some b)(h:∀tk,Q (.bool b) { s with toks:=tk }) :
    wpAny (model X.prog X.w) A (call (.builtin "isinstance") [u,c]) Q E s:=by
  cases ty with
  | non=>cases (show u=Value.none from rx);exact PySem.W.kia_one PySem.W.kitx_none I.kIn True.intro e (fun z=>nomatch z) h
  | bl y=>cases (show u=Value.bool y from rx);exact PySem.W.kia_one PySem.W.kitx_bool I.kIn True.intro e (fun z=>nomatch z) h
  | int i=>obtain⟨t,q⟩:=(show ∃t,u=Value.int i t from rx);cases q;exact PySem.W.kia_one PySem.W.kitx_int I.kIn True.intro e (fun z=>nomatch z) h
  | str y=>obtain⟨t,q⟩:=(show ∃t,u=Value.str y t from rx);cases q;exact PySem.W.kia_one PySem.W.kitx_str I.kIn True.intro e (fun z=>nomatch z) h
  | flt y=>obtain⟨t,q⟩:=(show ∃t,u=Value.float y t from rx);cases q;exact PySem.W.kia_one PySem.W.kitx_float I.kIn True.intro e (fun z=>nomatch z) h
  | @lst a xs ea=>
    cases (show u=Value.ref a from rx)
    obtain⟨_,_,n,_,h1⟩:=(show ObjOk X.prog X.w H s.heap a (.lst xs)from I.hok a _ ea)
    exact PySem.W.kia_one PySem.W.kitx_list I.kIn ⟨_,h1,rfl⟩ e (fun z=>nomatch z) h
  | @frz a ob xs ea=>
    cases (show u=Value.ref a from rx)
    obtain⟨_,_,_,n,_,h1⟩:=(show ObjOk X.prog X.w H s.heap a (.frz ob (.lst xs))from I.hok a _ ea)
    exact PySem.W.kia_one PySem.W.kitx_list I.kIn ⟨_,h1,rfl⟩ e (fun z=>nomatch z) h
  | @tup a xs ea=>
    cases (show u=Value.ref a from rx)
    obtain⟨_,_,_,p,_⟩:=(show ObjOk X.prog X.w H s.heap a (.tup xs)from I.hok a _ ea)
    obtain⟨o,h1,h2,_⟩:=p
    exact PySem.W.kia_one PySem.W.kitx_tuple I.kIn ⟨o,h1,h2⟩ e (fun z=>nomatch z) h
  | @dK a kvs ea=>
    cases (show u=Value.ref a from rx)
    obtain⟨_,_,vs,_,p⟩:=(show ObjOk X.prog X.w H s.heap a (.dK kvs)from I.hok a _ ea)
    obtain⟨o,es,ep,h1,h2,_⟩:=p
    exact PySem.W.kia_one PySem.W.kitx_dict I.kIn ⟨o,h1,h2.1⟩ e (fun z=>nomatch z) h
  | @dT a kvs ea=>
    cases (show u=Value.ref a from rx)
    obtain⟨_,_,xs,_,o,es,ep,h1,h2,_⟩:=(show ObjOk X.prog X.w H s.heap a (.dT kvs)from I.hok a _ ea)
    exact PySem.W.kia_one PySem.W.kitx_dict I.kIn ⟨o,h1,h2.1⟩ e (fun z=>nomatch z) h
  | @ins a C dx fs ea cl ha hn htk hm=>
    cases (show u=Value.ref a from rx)
    obtain⟨mA,O,_⟩:=ins_get I.hok ea
    obtain⟨od,J,_⟩:=O.look
    exact PySem.W.kia_one (PySem.W.kitx_own (cl.get _) cl.hd ha hn htk hm) I.kIn J e (fun z=>nomatch z) h
end
end L2
namespace L2
open PySem PySem.Spec PyProof.Rows
structure Room(k:Nat)(A:Around):Prop where
  hd:A.handled=none
  dp:A.depth+3 * k+5 < recursionLimit
  un:A.units+16 * k+200 < cLine
theorem Room.mono{j k:Nat}{A:Around}(r:Room k A)(h:j≤k):Room j A:=⟨r.hd,by have:=r.dp;omega,by have:=r.un;omega⟩
theorem Room.deeper{k:Nat}{A:Around}(r:Room (k+1) A)(env:Env):Room k (A.deeper env):=
  ⟨r.hd,by have:=r.dp;show A.depth+1+3 * k+5 < _;omega,by have:=r.un;show A.units+3+16 * k+200 < _;omega⟩
theorem Room.in1{k:Nat}{A:Around}(r:Room (k+1) A):Room k A.in1:=
  ⟨r.hd,by have:=r.dp;show A.depth+3 * k+5 < _;omega,by have:=r.un;show A.units+1+16 * k+200 < _;omega⟩
theorem make_depth{A:Around}{C:Addr}{us:List Value}{kw:List (Str × Value)}:(A.under (.builtin "type.__call__" ⟨.ref C::us,kw⟩)).depth=A.depth+1:=by
  first | rfl | simp[Around.under,Code.weight,Code.isCreation,Code.isGuard,Code.isCaller,Code.frames,Code.isFrame,guardIds]
theorem make_units{A:Around}{C:Addr}{us:List Value}{kw:List (Str × Value)}:(A.under (.builtin "type.__call__" ⟨.ref C::us,kw⟩)).units=A.units+1:=by
  first | rfl | simp[Around.under,Code.cUnits,Code.frames,Code.isFrame]
theorem Room.make{k:Nat}{A:Around}(r:Room (k+1) A)(C:Addr)(us:List Value)(kw:List (Str × Value)):Room k (A.under (.builtin "type.__call__" ⟨.ref C::us,kw⟩)):=
  ⟨r.hd,by have:=r.dp;rw[make_depth];omega,by have:=r.un;rw[make_units];omega⟩
theorem Room.depth{k:Nat}{A:Around}(r:Room k A):A.depth < recursionLimit:=by have:=r.dp;omega
theorem Room.units{k:Nat}{A:Around}(r:Room k A):A.units+64 < cLine:=by have:=r.un;omega
def tNil:TA:=fun _ H Q=>Q [] H
def tCons(ta:TE)(tr:TA):TA:=fun σ H Q=>ta σ H fun x H1=>tr σ H1 fun xs H2=>Q (x::xs) H2
section
variable{X:Cx}{e:Expr}{es:List Expr}{te:TE}{t:TA}{pos:Pos}
theorem pa_nil:PA X [] tNil:=fun _ _ _ _ H Q I h=>Calls.spliced_nil ⟨[],H,I,.nil,h⟩
theorem pa_cons(ha:PE X e te)(hr:PA X es t)(hs:starEach (e::es) X.env=(false,eval e X.env)::starEach es X.env:=by rfl):PA X (e::es) (tCons te t):=by
  intro pos pins s σ H Q I h
  rw[hs]
  show wpAny _ _ (spliced ((false,eval e X.env)::backTo pos (starEach es X.env))) _ _ s
  refine Calls.spliced_cons (thn (ha pins s σ H _ I h) fun u s1 ⟨x,H1,I1,r1,q1⟩=>?_)
  exact thn (hr pos pins s1 σ H1 _ I1 q1) fun us s2 ⟨xs,H2,I2,r2,q2⟩=>⟨x::xs,H2,I2,.cons r1 r2,q2⟩
def tTup(t:TA):TE:=fun σ H Q=>t σ H fun xs H1=>xs.length≤sizeLine∧∀p,H1 p=none→Q (.ref p) (upd H1 p (.tup xs))
def tLst(t:TA):TE:=fun σ H Q=>t σ H fun xs H1=>xs.length≤sizeLine∧∀p,H1 p=none→Q (.ref p) (upd H1 p (.lst xs))
theorem pe_tup{x1}(h:PA X es t):PE X (.Tuple es x1 pos) (tTup t):=by
  intro pins s σ H Q I hq
  refine wpAny_Tuple_spliced (thn (h pos pins s σ H _ I hq) fun us s1 ⟨xs,H1,I1,r,z,q⟩=>⟨by rw[← r.length];exact z,?_⟩)
  have hf:H1 s1.heap.objs.size=none:=I1.hok.fresh (Nat.le_refl _)
  refine⟨.ref s1.heap.objs.size,upd H1 s1.heap.objs.size (.tup xs),I1.laid (t':=s1.toks) (fun b u e=>Heap.get?_push_of_some _ e) (Nat.le_refl _) ?_,rfl,q _ hf⟩
  exact⟨z,us,r,⟨_,Heap.get?_push_size _ rfl,rfl,_,rfl⟩,fun _=>⟨_,Heap.get?_push_size _ rfl,rfl⟩⟩
theorem pe_lst(h:PA X es t):PE X (.List es pos) (tLst t):=by
  intro pins s σ H Q I hq
  refine wpAny_List_spliced (thn (h pos pins s σ H _ I hq) fun us s1 ⟨xs,H1,I1,r,z,q⟩=>⟨by rw[← r.length];exact z,?_⟩)
  have hf:H1 s1.heap.objs.size=none:=I1.hok.fresh (Nat.le_refl _)
  refine⟨.ref s1.heap.objs.size,upd H1 s1.heap.objs.size (.lst xs),I1.laid (t':=s1.toks) (fun b u e=>Heap.get?_push_of_some _ e) (Nat.le_refl _) ?_,rfl,q _ hf⟩
  exact⟨z,us,0,r,Heap.get?_push_size _ rfl⟩
end
abbrev Sp:=List V→Hp→VK→XK→Prop
abbrev CXT:=List Env→Hp→Shared→XK→Value→Shared→Prop
structure Env0(P:Program)(w:World)(K:PySem.W.Frag)(mg:Str→Option Value)(base:Heap)(A:Around)(outer:List Env)(s:Shared)(H:Hp):Prop where
  frames:A.frames=some outer
  mod:Mod K mg base
  bs:∀b o,base.get? b=some o→s.heap.get? b=some o∧H b=none
  bsz:base.objs.size≤s.heap.objs.size
  funs:s.heap.FunFrames base outer
  frf:∀b∈frs outer,H b=none
  hok:HOk P w H s.heap
  bare:AllBare s.gens
def CE(outer:List Env)(P:Program)(w:World)(H:Hp)(s:Shared)(Q:VK)(u:Value)(s':Shared):Prop:=
  ∃v H',s'.os=s.os∧AllBare s'.gens∧Un (frs outer) [] H H' s.heap s'.heap∧HOk P w H' s'.heap∧RelV v u∧Q v H'
def CR(CX:CXT)(outer:List Env)(P:Program)(w:World)(H:Hp)(s:Shared)(Q:VK)(E:XK)(r:Result)(s':Shared):Prop:=
  match r with
  | .ok (.ret u)=>CE outer P w H s Q u s'
  | .ok _=>False
  | .error e=>CX outer H s E e s'
structure FnOk(P:Program)(w:World)(K:PySem.W.Frag)(mg:Str→Option Value)(base:Heap)(CX:CXT)(k:Nat)(f:Addr)(fd:FuncData)(ps:List Str)(sp:Sp):Prop where
  len:∀vs H Q E,sp vs H Q E→vs.length=ps.length
  run:∀(A:Around) (outer:List Env) (s:Shared) (H:Hp) (args:Args) (us:List Value) (vs:List V) (Q:VK) (E:XK),Room k A→Env0 P w K mg base A outer s H→BindsTo s fd args (ps.zip us)→Vals vs us→sp vs H Q E→
    codeAny (model P w) A (.call (.ref f) args) (CR CX outer P w H s Q E) s
theorem FnOk.mono{P:Program}{w:World}{K:PySem.W.Frag}{mg:Str→Option Value}{base:Heap}{CX:CXT}{j k:Nat}{f:Addr}{fd:FuncData}{ps:List Str}{sp:Sp}(F:FnOk P w K mg base CX j f fd ps sp)(h:j≤k) :
    FnOk P w K mg base CX k f fd ps sp:=⟨F.len,fun A outer s H args us vs Q E hr=>F.run A outer s H args us vs Q E (hr.mono h)⟩
theorem FnOk.imp{P:Program}{w:World}{K:PySem.W.Frag}{mg:Str→Option Value}{base:Heap}{CX:CXT}{k:Nat}{f:Addr}{fd:FuncData}{ps:List Str}{sp sp':Sp}(F:FnOk P w K mg base CX k f fd ps sp)
    (h:∀vs H Q E,sp' vs H Q E→sp vs H Q E):FnOk P w K mg base CX k f fd ps sp':=
  ⟨fun vs H Q E q=>F.len vs H Q E (h _ _ _ _ q),fun A outer s H args us vs Q E hr he hb hv hs=>F.run A outer s H args us vs Q E hr he hb hv (h _ _ _ _ hs)⟩
theorem Env0.make{P:Program}{w:World}{K:PySem.W.Frag}{mg:Str→Option Value}{base:Heap}{A:Around}{outer:List Env}{s:Shared}{H:Hp}(e:Env0 P w K mg base A outer s H)(C:Addr)(us:List Value)(kw:List (Str × Value)) :
    Env0 P w K mg base (A.under (.builtin "type.__call__" ⟨.ref C::us,kw⟩)) outer s H:=⟨by first | exact e.frames | (simpa [Around.under,Code.envs,Code.isFrame,pushEnvs] using e.frames),e.mod,e.bs,e.bsz,e.funs,e.frf,e.hok,e.bare⟩
theorem Env0.in1{P:Program}{w:World}{K:PySem.W.Frag}{mg:Str→Option Value}{base:Heap}{A:Around}{outer:List Env}{s:Shared}{H:Hp}(e:Env0 P w K mg base A outer s H) :
    Env0 P w K mg base A.in1 outer s H:=⟨e.frames,e.mod,e.bs,e.bsz,e.funs,e.frf,e.hok,e.bare⟩
section
variable{X:Cx}{pins:List (Addr × Obj)}{σ:St}{H:Hp}{s s':Shared}
theorem Inv.env0(I:Inv X pins σ H s):Env0 X.prog X.w X.K X.mg X.base X.A X.stack s H:=
  ⟨I.ok.frames,I.ok.mod,I.bs,Nat.le_trans I.ok.bsz I.sz,I.stack,I.stkFree,I.hok,I.bare⟩
theorem Inv.after{Q:VK}{u:Value}(I:Inv X pins σ H s)(h:CE X.stack X.prog X.w H s Q u s'):EP X pins σ Q u s':=by
  obtain⟨v,H',os,bare,un,hok,r,q⟩:=h
  obtain⟨hh,g,d,t,os'⟩:=s'
  obtain rfl:os'=s.os:=os
  exact⟨v,H',I.call (h':=hh) (g':=g) (d':=d) (t':=t) (ch:=[]) un hok bare (fun b z=>absurd z (by simp)),r,q⟩
end
def tCall(sp:Sp)(dvs:List V)(E:XK)(t:TA):TE:=fun σ H Q=>t σ H fun vs H1=>sp (vs++dvs) H1 Q E
def tMeth(C:Addr)(m:Str)(sp:Sp)(dvs:List V)(E:XK)(ta:TE)(t:TA):TE:=fun σ H Q=>ta σ H fun x H1=>∃a dx fs,x=.ref a∧H1 a=some (.ins C dx fs)∧fs.lookup m=none∧
  t σ H1 fun vs H2=>sp (x::(vs++dvs)) H2 Q E
def Binds(K:PySem.W.Frag)(fd:FuncData)(ps:List Str)(ds:List Value):Prop:=
  ∀(s:Shared) (us:List Value),K.In s.heap→(us++ds).length=ps.length→BindsTo s fd ⟨us,[]⟩ (ps.zip (us++ds))
theorem Binds.all{K:PySem.W.Frag}{fd:FuncData}{ps:List Str}(h:∀us:List Value,us.length=ps.length→bindArgs fd ⟨us,[]⟩=pure (ps.zip us)):Binds K fd ps []:=fun s us _ hl=>by
  rw[List.append_nil]at hl ⊢
  exact .of_eq (h us hl)
def Passes(CX:CXT)(X:Cx)(E:XK):Prop:=∀(pins:List (Addr × Obj)) (σ:St) (H:Hp) (s:Shared) (e:Value) (s':Shared),Inv X pins σ H s→CX X.stack H s E e s'→X.xe e s'
section
variable{X:Cx}{CX:CXT}{k:Nat}{f C:Addr}{fd:FuncData}{ps:List Str}{sp:Sp}{dvs:List V}{ds:List Value}{E:XK}{x m:Str}{p pos apos:Pos}{e o:Expr}{es:List Expr}{ta:TE}{t:TA}
theorem run_fn{pins:List (Addr × Obj)}{σ:St}{H:Hp}{s:Shared}{Q:VK}{us:List Value}{vs:List V}(F:FnOk X.prog X.w X.K X.mg X.base CX k f fd ps sp)(hr:Room k X.A)(hb:Binds X.K fd ps ds)(hd:Vals dvs ds)(hx:Passes CX X E)
    (I:Inv X pins σ H s) (r:Vals vs us) (h:sp (vs++dvs) H Q E):wpAny (model X.prog X.w) X.A (call (.ref f) us) (EP X pins σ Q) X.xe s:=by
  have r2:Vals (vs++dvs) (us++ds):=r.append hd
  have hl:(us++ds).length=ps.length:=by rw[← r2.length];exact F.len _ _ _ _ h
  refine wpAny_call (codeAny_mono (F.run X.A X.stack s H ⟨us,[]⟩ (us++ds) (vs++dvs) Q E hr I.env0 (hb s us I.kIn hl) r2 h) fun r s' hq=>?_)
  cases r with
  | error e=>exact hx pins σ H s e s' I hq
  | ok fl=>
    cases fl with
    | ret u=>exact I.after hq
    | next=>exact False.elim hq
    | brk=>exact False.elim hq
    | cont=>exact False.elim hq
theorem pe_call(F:FnOk X.prog X.w X.K X.mg X.base CX k f fd ps sp)(hr:Room k X.A)(hg:Gl X x)(hm:X.mg x=some (.ref f))(hk:PySem.W.keepIn X.K (.ref f)=true)(hb:Binds X.K fd ps ds)(hd:Vals dvs ds)(hx:Passes CX X E)
    (ha:PA X (e::es) t) (hdb:(x == ("__debug__":Str))=false:=by decide) (he:starEach (e::es) X.env=(false,eval e X.env)::starEach es X.env:=by rfl) (hpl:(backTo pos (starEach es X.env)).any (·.1)=false:=by rfl) :
    PE X (.Call (.Name x p) (e::es) [] pos) (tCall sp dvs E t):=by
  intro pins s σ H Q I h
  refine wpAny_Call_Name_kw (ld_glob I hg hm ?_ hdb)
  refine PySem.W.callWith_K (h₀:=X.base) I.ok.mod.kin hk (thn (ha pos pins s σ H _ I h) fun us s1 ⟨vs,H1,I1,r,q⟩=>⟨I1.kIn,?_⟩) he hpl
  exact run_fn F hr hb hd hx I1 r q
theorem pe_meth0{pl:Sem Bool}(he:PE X o ta)(c:Cls X.K C)(hm:Meth X.K C m f)(F:FnOk X.prog X.w X.K X.mg X.base CX k f fd ps sp)(hr:Room k X.A)(hb:Binds X.K fd ps ds)(hd:Vals dvs ds)(hx:Passes CX X E)
    (ht:eval (.Call (.Attribute o m apos) [] [] pos) X.env=(do
      let ov ← eval o X.env
      standAt apos.atName
      let(f,first) ← holding [ov] (getMethod ov m pl)
      callWith pos f first (backTo pos (starEach [] X.env)) (backToKw pos (keywordEach [] X.env))):=by rfl) :
    PE X (.Call (.Attribute o m apos) [] [] pos) (tMeth C m sp dvs E ta tNil):=by
  intro pins s σ H Q I h
  refine PySem.W.methodCall_KW (pl:=pl) (thn (he pins s σ H _ I h) fun u s1 ⟨x,H1,I1,rx,a,dx,fs,ex,ea,l,q⟩=>?_) ht
  subst ex
  obtain rfl:u=Value.ref a:=rx
  refine getmeth_ok I1 ea c hm l ?_
  exact PySem.W.callWith_K0 (first:=[.ref a]) I1.kIn hm.kp (run_fn (us:=[.ref a]) (vs:=[.ref a]) F hr hb hd hx I1 (.cons rfl .nil) q)
structure Mk(K:PySem.W.Frag)(C f:Addr):Prop where
  makes:PySem.W.makesIn K C=true
  init:PySem.W.findIn K (.ref C) "__init__"=some (some (.ref f))
  fn:PySem.W.isFn K (.ref f)=true
  kp:PySem.W.keepIn K (.ref C)=true
end
section
variable{X:Cx}{CX:CXT}{k:Nat}{f C:Addr}{fd:FuncData}{ps ks:List Str}{sp:Sp}{E:XK}{x m:Str}{p pos apos kpos:Pos}{e o:Expr}{es:List Expr}{kws:List Keyword}{te ta:TE}{t tk:TA}{nm:Option Str}
structure KBinds(K:PySem.W.Frag)(fd:FuncData)(ps ks:List Str)(g:List Value→List Value→List Value)(gV:List V→List V→List V):Prop where
  to:∀(s:Shared) (us ws:List Value),K.In s.heap→(g us ws).length=ps.length→BindsTo s fd ⟨us,ks.zip ws⟩ (ps.zip (g us ws))
  rel:∀{vs:List V} {us:List Value} {zs:List V} {ws:List Value},Vals vs us→Vals zs ws→Vals (gV vs zs) (g us ws)
variable{g:List Value→List Value→List Value}{gV:List V→List V→List V}
end
structure FnScope(N P:List Str)(sc:Scope):Prop where
  kind:sc.kind=.function
  co:sc.isCoroutine=false
  gen:sc.isGenerator=false
  nd:N.Nodup
  pre:N.take P.length=P
  par:∀x∈P,sc.names.lookup x=some .local∨sc.names.lookup x=some .cell
  nofree:∀y∈sc.names,y.2≠.free
theorem bindL_out{kindOf:Str→Option NameKind}{x:Str}:∀{binds:List (Str × Value)} {m:Str→Option Value},(∀v,(x,v) ∉ binds)→bindL kindOf binds m x=m x
  | [],_,_=>rfl
  | (n,v)::r,m,h=>by
    unfold bindL
    rw[bindL_out fun w hw=>h w (List.mem_cons_of_mem _ hw)]
    split
    · have:x≠n:=by rintro rfl;exact h v List.mem_cons_self
      simp[this]
    · rfl
theorem bindC_out{kindOf:Str→Option NameKind}{x:Str}:∀{binds:List (Str × Value)} {m:Str→Option Value},(∀v,(x,v) ∉ binds)→bindC kindOf binds m x=m x
  | [],_,_=>rfl
  | (n,v)::r,m,h=>by
    unfold bindC
    rw[bindC_out fun w hw=>h w (List.mem_cons_of_mem _ hw)]
    split
    · rfl
    · have:x≠n:=by rintro rfl;exact h v List.mem_cons_self
      simp[this]
theorem bindL_get{kindOf:Str→Option NameKind}{x:Str}{v:Value}:∀{P:List Str} {vs:List Value} {i:Nat} {m:Str→Option Value},P.Nodup→P[i]? = some x→vs[i]? = some v→kindOf x=some .local→
    bindL kindOf (P.zip vs) m x=some v
  | [],_,_,_,_,h,_,_=>by simp at h
  | _::_,[],_,_,_,_,h,_=>by simp at h
  | p::P,w::vs,0,m,nd,h1,h2,hk=>by
    simp at h1 h2;subst h1;subst h2
    show bindL kindOf ((p,w)::P.zip vs) m p=_
    unfold bindL
    rw[bindL_out fun v hv=>(List.nodup_cons.mp nd).1 (List.of_mem_zip hv).1,if_pos hk]
    simp
  | p::P,w::vs,i+1,m,nd,h1,h2,hk=>by
    show bindL kindOf ((p,w)::P.zip vs) m x=_
    unfold bindL
    exact bindL_get (i:=i) (List.nodup_cons.mp nd).2 (by simpa using h1) (by simpa using h2) hk
theorem bindC_get{kindOf:Str→Option NameKind}{x:Str}{v:Value}:∀{P:List Str} {vs:List Value} {i:Nat} {m:Str→Option Value},P.Nodup→P[i]? = some x→vs[i]? = some v→kindOf x≠some .local→
    bindC kindOf (P.zip vs) m x=some v
  | [],_,_,_,_,h,_,_=>by simp at h
  | _::_,[],_,_,_,_,h,_=>by simp at h
  | p::P,w::vs,0,m,nd,h1,h2,hk=>by
    simp at h1 h2;subst h1;subst h2
    show bindC kindOf ((p,w)::P.zip vs) m p=_
    unfold bindC
    rw[bindC_out fun v hv=>(List.nodup_cons.mp nd).1 (List.of_mem_zip hv).1,if_neg hk]
    simp
  | p::P,w::vs,i+1,m,nd,h1,h2,hk=>by
    show bindC kindOf ((p,w)::P.zip vs) m x=_
    unfold bindC
    exact bindC_get (i:=i) (List.nodup_cons.mp nd).2 (by simpa using h1) (by simpa using h2) hk
def start(N:List Str)(vs:List V):St:=vs.map some++List.replicate (N.length - vs.length) none
def cxOf(CX:CXT)(P:Program)(w:World)(K:PySem.W.Frag)(mg:Str→Option Value)(base:Heap)(N:List Str)(qual:Str)(scope:Scope)(f:Addr)(cd:Value)(A:Around)(outer:List Env)(s:Shared)(H:Hp)(E:XK):Cx where
  prog:=P
  w:=w
  K:=K
  mg:=mg
  base:=base
  A:=A.deeper (envOfC qual scope s.heap.objs.size f cd)
  N:=N
  s₀:=s
  H₀:=H
  env:=envOfC qual scope s.heap.objs.size f cd
  outer:=outer
  stack:=envOfC qual scope s.heap.objs.size f cd::outer
  ex:=[]
  calm:=true
  fn:=fun _=>true
  pn:=[]
  xe:=fun e s'=>wpAny (model P w) (A.deeper (envOfC qual scope s.heap.objs.size f cd)) (leaving (envOfC qual scope s.heap.objs.size f cd) e) (fun _ s''=>CX outer H s E e s'') (fun e' s''=>CX outer H s E e' s'') s'
theorem cell_has{sc:Scope}{n:Nat}{x:Str}(h:sc.names.lookup x=some .cell):∃c,(cellsFrom n sc.names []).lookup x=some c:=by
  have q:=PySem.W.cellsFrom_some sc.names n [] (.inl h)
  exact Option.isSome_iff_exists.mp q
theorem inv_start{CX:CXT}{P:Program}{w:World}{K:PySem.W.Frag}{mg:Str→Option Value}{base:Heap}{N ps:List Str}{qual:Str}{scope:Scope}{f:Addr}{cd:Value}{A:Around}{outer:List Env}{s s1:Shared}{H:Hp}{E:XK}{us:List Value}{vs:List V}
    (S:FnScope N ps scope) (hd:A.handled=none) (e0:Env0 P w K mg base A outer s H) (hl:vs.length=ps.length) (r:Vals vs us)
    (x:InCallC s s.heap.objs.size (bindL (envOfC qual scope s.heap.objs.size f cd).kindOf (ps.zip us) fun _=>none) (cellsFrom (s.heap.objs.size+1) scope.names []) (bindC (envOfC qual scope s.heap.objs.size f cd).kindOf (ps.zip us) fun _=>none) s1) :
    Inv (cxOf CX P w K mg base N qual scope f cd A outer s H E) [] (start N vs) H s1:=by
  have hpl:ps.length≤N.length:=by have:=congrArg List.length S.pre;rw[List.length_take]at this;omega
  obtain⟨h1,tk,rfl,hk⟩:=x.done
  have noA:∀b:Addr,b ∉ (cxOf CX P w K mg base N qual scope f cd A outer s H E).ex:=fun b z=>absurd (show b∈([]:List Addr)from z) (by simp)
  refine⟨⟨e0.mod,S.kind,rfl,rfl,Nat.le_refl _,fun y z c h1 h2=>?_,fun y hy=>?_,fun y c _ h=>?_,fun _=>hd,Around.frames_deeper e0.frames,.inr ⟨rfl,rfl⟩,fun b z=>absurd z (noA b),e0.bs,e0.bsz,fun b _ _=>noA b,fun b z=>absurd z (noA b),e0.funs,e0.frf⟩,
    rfl,e0.bare,Un.kept hk,⟨_,x.toInCall.ns,fun i y v h1 h2 h3=>?_⟩,fun y c h=>⟨_,x.cell y c h⟩,e0.hok.fresh (Nat.le_refl _),fun y c h=>?_,fun p hp=>absurd (show p∈([]:List (Addr × Obj))from hp) (by simp),e0.hok.kept hk,?_⟩
  · exact name_of_addr x.apart (PySem.mem_of_lookup h1) (PySem.mem_of_lookup h2)
  · have hy:scope.names.lookup y=some .cell∨scope.names.lookup y=some .free:=hy
    rcases hy with hy | hy
    · exact cell_has hy
    · exact absurd rfl (S.nofree _ (PySem.mem_of_lookup hy))
  · exact Nat.le_of_lt (x.above y c (PySem.mem_of_lookup h))
  · have hi:i < vs.length:=by
      unfold start at h2
      by_cases hi:i < vs.length
      · exact hi
      · rw[List.getElem?_append_right (by simpa using hi)]at h2
        rw[List.getElem?_replicate]at h2
        split at h2 <;>cases h2
    have ha:vs[i]? = some v:=by
      unfold start at h2
      rw[List.getElem?_append_left (by simpa using hi),List.getElem?_map]at h2
      cases e:vs[i]? with
      | none=>rw[e]at h2;cases h2
      | some a=>rw[e]at h2;cases h2;rfl
    obtain⟨u,hu,rv⟩:=r.get ha
    have hp:ps[i]? = some y:=by
      rw[← S.pre,List.getElem?_take_of_lt (by omega)];exact h1
    have ndP:ps.Nodup:=by rw[← S.pre];exact S.nd.sublist (List.take_sublist _ _)
    refine⟨u,rv,?_⟩
    rcases S.par y (List.mem_of_getElem? hp)with k | k
    · exact .inl ⟨k,bindL_get ndP hp hu k⟩
    · obtain⟨c,e⟩:=cell_has (n:=s.heap.objs.size+1) k
      refine .inr ⟨.inl k,c,e,?_⟩
      have q:=x.cell y c e
      rw[bindC_get ndP hp hu (by show scope.names.lookup y≠_;rw[k];decide)]at q
      exact q
  · exact e0.hok.fresh (Nat.le_of_lt (x.above y c (PySem.mem_of_lookup h)))
  · unfold start
    show _=N.length
    rw[List.length_append,List.length_map,List.length_replicate]
    omega
theorem fn_of{CX:CXT}{P:Program}{w:World}{K:PySem.W.Frag}{mg:Str→Option Value}{base:Heap}{k:Nat}{f:Addr}{name qual:Str}{params:Arguments}{body:List Stmt}{scope:Scope}{dV kV doc pm cdv ct oc:Value}{an od:Option Addr}
    {osl:Array (Option Value)} {N ps:List Str} {sp:Sp} (lk:K.lookup f=some ⟨oc,od,.func (PySem.W.fnOf name qual params body scope dV kV doc pm an cdv ct),osl⟩) (hcd:PySem.W.codeIn K cdv qual=true) (S:FnScope N ps scope)
    (len:∀vs H Q E,sp vs H Q E→vs.length=ps.length)
    (hbody:∀(A:Around) (outer:List Env) (s:Shared) (H:Hp) (vs:List V) (Q:VK) (E:XK),Room k (A.deeper (envOfC qual scope s.heap.objs.size f cdv))→sp vs H Q E→
      ∃t,PSs (cxOf CX P w K mg base N qual scope f cdv A outer s H E) body t∧t { nx:=fun _ H'=>Q .non H',rt:=Q } (start N vs) H) :
    FnOk P w K mg base CX (k+1) f (PySem.W.fnOf name qual params body scope dV kV doc pm an cdv ct) ps sp:=by
  refine⟨len,fun A outer s H args us vs Q E hr e0 hb r hsp=>?_⟩
  have hl:=len _ _ _ _ hsp
  have KX:K.In s.heap:=e0.mod.kin.keeps fun b o e=>(e0.bs b o e).1
  have lim:s.heap.NoLimit:=e0.mod.nolimit.keeps fun b o e=>(e0.bs b o e).1
  have hkind:∀y∈ps.zip us,scope.names.lookup y.1=some .local∨(scope.names.lookup y.1=some .cell∧((cellsFrom (s.heap.objs.size+1) scope.names []).lookup y.1).isSome=true):=fun⟨n,v⟩ hy=>by
    rcases S.par n (List.of_mem_zip hy).1 with q | q
    · exact .inl q
    · exact .inr ⟨q,PySem.W.cellsFrom_some _ _ _ (.inl q)⟩
  refine codeAny_call_function hr.depth (KX _ _ lk) rfl S.co S.gen rfl (PySem.W.codeRec_of KX hcd) (hb _ _ _ _ ?_)
  refine wpAny_newFunctionEnv_cells S.kind hkind fun env he s1 x=>?_
  subst he
  refine⟨lim.keeps x.toInCall.keep,codeAny_func ?_⟩
  obtain⟨t,ht,hq⟩:=hbody A outer s H vs Q E (hr.deeper _) hsp
  have I:Inv (cxOf CX P w K mg base N qual scope f cdv A outer s H E) [] (start N vs) H s1:=inv_start S hr.hd e0 hl r x
  refine wpAny_mono (ht [] s1 (start N vs) H _ I hq) (fun fl s' hs=>?_) fun e s' hs=>hs
  have fin:∀{σ':St} {H':Hp} {v:V} {u:Value},Inv (cxOf CX P w K mg base N qual scope f cdv A outer s H E) [] σ' H' s'→RelV v u→Q v H'→CE outer P w H s Q u s':=
    fun{σ' H' v u} J rv q=>⟨v,H',J.os,J.bare,J.base,J.hok,rv,q⟩
  cases fl with
  | ret u=>
    obtain⟨v,σ',H',J,rv,q⟩:=hs
    exact fin J rv q
  | next=>
    obtain⟨σ',H',J,q⟩:=hs
    exact fin (v:=V.non) (u:=Value.none) J rfl q
  | brk=>
    obtain⟨_,_,_,q⟩:=hs
    exact False.elim q
  | cont=>
    obtain⟨_,_,_,q⟩:=hs
    exact False.elim q
end L2
namespace L2
open PySem PySem.Spec PyProof.Rows
section
variable{X:Cx}{x:Str}{p pos:Pos}{e:Expr}{es:List Expr}{t:TA}{id T:String}{r:List V→Hp→VK→Prop}
def tCB(r:List V→Hp→VK→Prop)(t:TA):TE:=fun σ H Q=>t σ H fun vs H1=>r vs H1 Q
theorem pe_callB(hc:CallR X (.builtin id) r)(hg:Gl X x)(hm:X.mg x=none)(hv:bootBuiltins x=some (.builtin id))(ha:PA X (e::es) t)(hn:x≠"__name__":=by decide)(hdb:(x == ("__debug__":Str))=false:=by decide)
    (he:starEach (e::es) X.env=(false,eval e X.env)::starEach es X.env:=by rfl) (hpl:(backTo pos (starEach es X.env)).any (·.1)=false:=by rfl):PE X (.Call (.Name x p) (e::es) [] pos) (tCB r t):=by
  intro pins s σ H Q I h
  refine wpAny_Call_Name_kw (ld_blt I hg hm hv ?_ hn hdb)
  exact PyProof.Rows.callWith_builtin1 (thn (ha pos pins s σ H _ I h) fun us s1 ⟨vs,H1,I1,r1,q1⟩=>hc pins s1 σ H1 vs us Q I1 r1 q1) he hpl
theorem pe_callTy(hc:CallR X (.type T) r)(hg:Gl X x)(hm:X.mg x=none)(hv:bootBuiltins x=some (.type T))(ha:PA X (e::es) t)(hn:x≠"__name__":=by decide)(hdb:(x == ("__debug__":Str))=false:=by decide)
    (he:starEach (e::es) X.env=(false,eval e X.env)::starEach es X.env:=by rfl) (hpl:(backTo pos (starEach es X.env)).any (·.1)=false:=by rfl):PE X (.Call (.Name x p) (e::es) [] pos) (tCB r t):=by
  intro pins s σ H Q I h
  refine wpAny_Call_Name_kw (ld_blt I hg hm hv ?_ hn hdb)
  exact PyProof.Rows.callWith_type1 (thn (ha pos pins s σ H _ I h) fun us s1 ⟨vs,H1,I1,r1,q1⟩=>hc pins s1 σ H1 vs us Q I1 r1 q1) he hpl
end
end L2
namespace HT
open PySem PyProof.Rows
section
open PySem.SeqAt
open PySem.AutoSeq1 (wpAny_loadPart')
open PySem.MeetsSeq PySem.MeetsSeq2 PySem.MeetsSeq3
end
section
variable{prog:Program}{w:World}{A:Around}{E:Value→Shared→Prop}{s:Shared}
def sIx(n d:Nat):Option Int→Nat
  | none=>d
  | some v=>if v < 0 then(v+(n:Int)).toNat else min v.toNat n
theorem sIx_none(n d:Nat):sIx n d none=d:=rfl
theorem sIx_nat(n d k:Nat):sIx n d (some (k:Int))=min k n:=by
  show(if(k:Int) < 0 then((k:Int)+(n:Int)).toNat else min (k:Int).toNat n)=min k n
  rw[if_neg (by omega),Int.toNat_natCast]
end
end HT
namespace L2
open PySem PySem.Spec PyProof.Rows
abbrev TO:=St→Hp→(Option Int→Hp→Prop)→Prop
def PO(X:Cx)(e:Option Expr)(t:TO):Prop:=
  ∀(pins:List (Addr × Obj)) (s:Shared) (σ:St) (H:Hp) (Q:Option Int→Hp→Prop),Inv X pins σ H s→t σ H Q→
    wpAny (model X.prog X.w) X.A (evalPart e X.env) (fun u s'=>∃o H',Inv X pins σ H' s'∧IsPart u o∧Q o H') X.xe s
def tNoPart:TO:=fun _ H Q=>Q none H
def tPart(t:TE):TO:=fun σ H Q=>t σ H fun x H1=>∃i,x=.int i∧Q (some i) H1
section
variable{X:Cx}{e:Expr}{te:TE}{lo hi:Option Expr}{tl th:TO}{pos p2:Pos}
theorem po_none:PO X none tNoPart:=by
  intro pins s σ H Q I h
  rw[evalPart_none]
  exact wpAny_pure ⟨none,H,I,.none,h⟩
theorem po_some(h:PE X e te):PO X (some e) (tPart te):=by
  intro pins s σ H Q I hw
  rw[evalPart_some]
  refine thn (h pins s σ H _ I hw) fun u s1 ⟨x,H1,I1,r1,q1⟩=>?_
  obtain⟨i,rfl,q⟩:=q1
  obtain⟨t,rfl⟩:=r1
  exact⟨some i,H1,I1,.int i t,q⟩
def SlR(X:Cx)(r:V→Option Int→Option Int→Hp→VK→Prop):Prop:=
  ∀(pins:List (Addr × Obj)) (s:Shared) (σ:St) (H:Hp) (x:V) (v vl vu:Value) (lo hi:Option Int) (sl:Addr) (Q:VK),Inv X pins σ H s→RelV x v→s.heap.IsSliceOf sl vl vu .none→IsPart vl lo→IsPart vu hi→r x lo hi H Q→
    ∃T id,typeLookup (.type T) "__getitem__"=pure (some (.builtin id))∧s.TypeIs v T∧wpAny (model X.prog X.w) X.A (getItem v (.ref sl)) (EP X pins σ Q) X.xe s
theorem SlR.or{r r':V→Option Int→Option Int→Hp→VK→Prop}(h:SlR X r)(h':SlR X r'):SlR X (fun x lo hi H Q=>r x lo hi H Q∨r' x lo hi H Q):=by
  intro pins s σ H x v vl vu lo hi sl Q I rx hs pl pu q
  rcases q with q | q
  · exact h pins s σ H x v vl vu lo hi sl Q I rx hs pl pu q
  · exact h' pins s σ H x v vl vu lo hi sl Q I rx hs pl pu q
def tSl(r:V→Option Int→Option Int→Hp→VK→Prop)(te:TE)(tl th:TO):TE:=fun σ H Q=>te σ H fun x H1=>tl σ H1 fun l H2=>th σ H2 fun u H3=>r x l u H3 Q
theorem pe_slice{r:V→Option Int→Option Int→Hp→VK→Prop}(hr:SlR X r)(he:PE X e te)(hl:PO X lo tl)(hu:PO X hi th):PE X (.Subscript e (.Slice lo hi none p2) pos) (tSl r te tl th):=by
  intro pins s σ H Q I h
  refine Subscript_ (thn (he pins s σ H _ I h) fun v s1 ⟨x,H1,I1,r1,q1⟩=>?_)
  refine wpAny_Slice (thn (hl pins s1 σ H1 _ I1 q1) fun vl s2 ⟨l,H2,I2,pl,q2⟩=>thn (hu pins s2 σ H2 _ I2 q2) fun vu s3 ⟨u,H3,I3,pu,q3⟩=>?_)
  rw[evalPart_none]
  refine wpAny_pure ?_
  have I4:Inv X pins σ H3 { s3 with heap:=s3.heap.push { cls:=.type "slice",data:=.fields #[vl,vu,.none] } }:=I3.kept (t':=s3.toks) fun b ob q=>Heap.get?_push_of_some _ q
  obtain⟨T,id,hT,ht,hg⟩:=hr pins { s3 with heap:=s3.heap.push { cls:=.type "slice",data:=.fields #[vl,vu,.none] } } σ H3 x v vl vu l u s3.heap.objs.size Q I4 r1 (Heap.IsSliceOf.new ..) pl pu q3
  show wpAny (model X.prog X.w) X.A (subscriptTail e (.Slice lo hi none p2) v (.ref s3.heap.objs.size)) (EP X pins σ Q) X.xe { s3 with heap:=s3.heap.push { cls:=.type "slice",data:=.fields #[vl,vu,.none] } }
  exact tail_any (ops:=[.ref s3.heap.objs.size,v]) ht hT hg (by with_unfolding_all rfl)
def cutV(xs:List V)(lo hi:Option Int):List V:=(xs.drop (HT.sIx xs.length 0 lo)).take (HT.sIx xs.length xs.length hi - HT.sIx xs.length 0 lo)
theorem cutV_length(xs:List V)(lo hi:Option Int):(cutV xs lo hi).length≤xs.length:=by
  unfold cutV
  rw[List.length_take,List.length_drop]
  omega
end
end L2
namespace L2
open PySem PySem.Spec PyProof.Rows
def ixN(n:Nat)(i:Int):Option Nat:=if 0≤i then(if i < n then some i.toNat else none)else if -(n:Int)≤i then some (i+n).toNat else none
def atI{α:Type}(xs:List α)(i:Int):Option α:=(ixN xs.length i).bind fun j=>xs[j]?
theorem ixN_seq{n:Nat}{i:Int}{j:Nat}(h:ixN n i=some j):seqIndex? i n=some j∧j < n∧-(n:Int)≤i∧i < n:=by
  unfold ixN at h
  by_cases h0:0≤i
  · rw[if_pos h0]at h
    by_cases h1:i < n
    · rw[if_pos h1]at h
      have e:i.toNat=j:=Option.some.inj h
      exact⟨by rw[seqIndex_of h0 h1,e],by omega,by omega,h1⟩
    · rw[if_neg h1]at h;cases h
  · rw[if_neg h0]at h
    by_cases h1:-(n:Int)≤i
    · rw[if_pos h1]at h
      have e:(i+n).toNat=j:=Option.some.inj h
      exact⟨by rw[seqIndex_neg (by omega) h1,e],by omega,h1,by omega⟩
    · rw[if_neg h1]at h;cases h
theorem atI_get{α:Type}{xs:List α}{i:Int}{v:α}(h:atI xs i=some v):∃j,seqIndex? i xs.length=some j∧xs[j]? = some v∧j < xs.length∧-(xs.length:Int)≤i∧i < xs.length:=by
  unfold atI at h
  cases e:ixN xs.length i with
  | none=>rw[e]at h;cases h
  | some j=>
    rw[e]at h
    obtain⟨h1,h2,h3,h4⟩:=ixN_seq e
    exact⟨j,h1,h,h2,h3,h4⟩
theorem atI_nat{α:Type}{xs:List α}{j:Nat}{v:α}(h:xs[j]? = some v):atI xs (j:Int)=some v:=by
  have hj:j < xs.length:=(List.getElem?_eq_some_iff.mp h).1
  have e:ixN xs.length (j:Int)=some j:=by
    unfold ixN
    rw[if_pos (by omega),if_pos (by omega)];simp
  unfold atI;rw[e];exact h
def PlainIx(b:Expr):Prop:=∀o i,subscripted b false o i=operate [o,i] (getItem o i)
def IxR(X:Cx)(r:R2):Prop:=
  ∀(value slice:Expr) (pins:List (Addr × Obj)) (s:Shared) (σ:St) (H:Hp) (x y:V) (v u:Value) (Q:VK),Inv X pins σ H s→RelV x v→RelV y u→r x y H Q→
    subscripted slice false v u=operate [v,u] (getItem v u)→wpAny (model X.prog X.w) X.A (subscriptTail value slice v u) (EP X pins σ Q) X.xe s
def MtR(X:Cx)(id:String)(r:V→List V→Hp→VK→Prop):Prop:=
  ∀(pins:List (Addr × Obj)) (s:Shared) (σ:St) (H:Hp) (x:V) (xs:List V) (v:Value) (us:List Value) (Q:VK),Inv X pins σ H s→RelV x v→Vals xs us→r x xs H Q→
    wpAny (model X.prog X.w) X.A (call (.builtin id) (v::us)) (EP X pins σ Q) X.xe s
section
variable{X:Cx}{a b:Expr}{ta tb:TE}{pos:Pos}
theorem IxR.or{r r':R2}(h:IxR X r)(h':IxR X r'):IxR X (fun x y H Q=>r x y H Q∨r' x y H Q):=by
  intro value slice pins s σ H x y v u Q I rx ry q hs
  rcases q with q | q
  · exact h value slice pins s σ H x y v u Q I rx ry q hs
  · exact h' value slice pins s σ H x y v u Q I rx ry q hs
theorem MtR.or{id:String}{r r':V→List V→Hp→VK→Prop}(h:MtR X id r)(h':MtR X id r'):MtR X id (fun x xs H Q=>r x xs H Q∨r' x xs H Q):=by
  intro pins s σ H x xs v us Q I rx rs q
  rcases q with q | q
  · exact h pins s σ H x xs v us Q I rx rs q
  · exact h' pins s σ H x xs v us Q I rx rs q
theorem pe_ix{r:R2}(hr:IxR X r)(ha:PE X a ta)(hb:PE X b tb)(hs:PlainIx b):PE X (.Subscript a b pos) (tOp r ta tb):=by
  intro pins s σ H Q I h
  exact Subscript_ (binT ha hb I h fun v u s2 x y H2 I2 rx ry q=>hr a b pins s2 σ H2 x y v u Q I2 rx ry q (hs _ _))
def rIxL(K:PySem.W.Frag):R2:=fun x y H Q=>∃p xs i v,x=.ref p∧y=.int i∧SqL K H p xs∧atI xs i=some v∧Q v H
def rIxT(K:PySem.W.Frag):R2:=fun x y H Q=>∃p xs i v,x=.ref p∧y=.int i∧SqT K H p xs∧atI xs i=some v∧Q v H
theorem ix_list:IxR X (rIxL X.K):=by
  intro value slice pins s σ H x y v u Q I rx ry h hs
  obtain⟨p,xs,i,z,rfl,rfl,hq,he,q⟩:=h
  cases rx
  obtain⟨t,rfl⟩:=ry
  obtain⟨its,r,pl,hz⟩:=I.list hq
  obtain⟨j,h1,h2,h3,h4,h5⟩:=atI_get he
  obtain⟨w,ew,rw'⟩:=r.get h2
  have hl:=r.length
  have hn:=line63
  have fin:EP X pins σ Q w s:=⟨z,H,I,rw',q⟩
  by_cases h0:0≤i
  · have hj:i.toNat=j:=by
      rw[seqIndex_of h0 h5]at h1
      exact Option.some.inj h1
    exact item_listR pl.isList h0 (by omega) (by rw[hj];simpa using ew) fin hs
  · have hj:(i+(its.toArray.size:Int)).toNat=j:=by
      rw[seqIndex_neg (by omega) h4]at h1
      rw[List.size_toArray,← hl]
      exact Option.some.inj h1
    exact subscriptTail_builtinR (x:=w) pl.isList.typeIs slot_list_getitem.lookup
      (wpAny_getItem_list_neg (Q:=fun r s'=>r=w∧EP X pins σ Q r s') pl.isList (by omega) (by rw[List.size_toArray] <;>omega) (by omega) (by rw[hj];simpa using ew) ⟨rfl,fin⟩) hs
theorem ix_tup:IxR X (rIxT X.K):=by
  intro value slice pins s σ H x y v u Q I rx ry h hs
  obtain⟨p,xs,i,z,rfl,rfl,hq,he,q⟩:=h
  cases rx
  obtain⟨t,rfl⟩:=ry
  obtain⟨its,r,pl,hz⟩:=I.tuple hq
  obtain⟨j,h1,h2,h3,h4,h5⟩:=atI_get he
  obtain⟨w,ew,rw'⟩:=r.get h2
  have hl:=r.length
  have hn:=line63
  have fin:EP X pins σ Q w s:=⟨z,H,I,rw',q⟩
  exact subscriptTail_builtinR (x:=w) pl.typeIs slot_tuple_getitem.lookup
    (getItem_tuple (j:=j) (Q:=fun r s'=>r=w∧EP X pins σ Q r s') pl (by omega) (by omega) (by rw[List.size_toArray,← hl];exact h1) (by simpa using ew) ⟨rfl,fin⟩) hs
theorem mapSeq_set(its:List Value)(n j:Nat)(u:Value):Obj.mapSeq (·.setIfInBounds j u) { cls:=.type "list",data:=.seq its.toArray n }={ cls:=.type "list",data:=.seq (its.set j u).toArray n }:=by
  simp[Obj.mapSeq]
theorem Inv.lst{pins:List (Addr × Obj)}{σ:St}{H:Hp}{s:Shared}{p:Addr}{xs:List V}(I:Inv X pins σ H s)(h:H p=some (.lst xs)) :
    ∃(its:List Value) (n:Nat),Vals xs its∧s.heap.get? p=some { cls:=.type "list",data:=.seq its.toArray n }∧xs.length≤sizeLine:=by
  obtain⟨z,its,n,r,e⟩:=I.hok p _ h
  exact⟨its,n,r,e,z⟩
theorem Inv.lstUpd{pins:List (Addr × Obj)}{σ:St}{H:Hp}{s:Shared}{p:Addr}{xs ys:List V}{its its':List Value}{n n':Nat}{f:Obj→Obj}(I:Inv X pins σ H s)(h:H p=some (.lst xs))
    (ho:s.heap.get? p=some { cls:=.type "list",data:=.seq its.toArray n }) (hf:f { cls:=.type "list",data:=.seq its.toArray n }={ cls:=.type "list",data:=.seq its'.toArray n' }) (r:Vals ys its') (hz:ys.length≤sizeLine) (t:Nat) :
    Inv X pins σ (upd H p (.lst ys)) { s with heap:=s.heap.update p f,toks:=t }:=by
  have e:(s.heap.update p f).get? p=some { cls:=.type "list",data:=.seq its'.toArray n' }:=by
    rw[Heap.get?_update_self f ho (by rw[hf] <;>rfl),hf]
  refine I.write (x:=p) (e:=p) (by rw[h];trivial) (.inl rfl) (fun b u hb q=>(Heap.get?_update_other _ _ (Ne.symm hb)).trans q) ⟨_,e⟩ ?_
  exact⟨hz,its',n',r,e⟩
def rSetL:V→V→V→Hp→(Hp→Prop)→Prop:=fun o i v H Q=>∃p xs k j,o=.ref p∧i=.int k∧H p=some (.lst xs)∧ixN xs.length k=some j∧Q (upd H p (.lst (xs.set j v)))
theorem set_list:PSet X rSetL:=by
  intro pins s σ H o i v ov iv u Q I ro ri rv h
  obtain⟨p,xs,k,j,rfl,rfl,hp,hj,q⟩:=h
  cases ro
  obtain⟨t,rfl⟩:=ri
  obtain⟨its,n,r,ho,hz⟩:=I.lst hp
  obtain⟨h1,h2,h3,h4⟩:=ixN_seq hj
  have hl:=r.length
  have hn:=line63
  have I':Inv X pins σ (upd H p (.lst (xs.set j v))) { s with heap:=s.heap.update p (Obj.mapSeq (·.setIfInBounds j u)) }:=
    I.lstUpd hp ho (mapSeq_set its n j u) (r.set rv j) (by rw[List.length_set];exact hz) s.toks
  by_cases h0:0≤k
  · have hk:k.toNat=j:=by
      rw[seqIndex_of h0 h4]at h1
      exact Option.some.inj h1
    exact PySem.W.ki_setAt ho h0 (by omega) (by rw[List.size_toArray,← hl];exact h4) (by rw[hk];exact⟨_,I',q⟩)
  · have hk:(k+(its.toArray.size:Int)).toNat=j:=by
      rw[seqIndex_neg (by omega) h3]at h1
      rw[List.size_toArray,← hl]
      exact Option.some.inj h1
    exact PySem.W.ki_setBack ho (by omega) (by rw[List.size_toArray,← hl];exact h3) (by omega) (by rw[hk];exact⟨_,I',q⟩)
theorem slice_bounds(lo hi:Option Int)(n:Nat):(sliceBounds lo hi none n).1=((HT.sIx n 0 lo:Nat):Int)∧(sliceBounds lo hi none n).2.1=((HT.sIx n n hi:Nat):Int)∧(sliceBounds lo hi none n).2.2=1:=by
  refine⟨?_,?_,rfl⟩
  · cases lo with
    | none=>simp[sliceBounds,HT.sIx]
    | some i=>
      simp only[sliceBounds,HT.sIx,Option.getD_none,show(1:Int) > 0 by decide,if_true]
      by_cases h:i < 0
      · simp only[h,if_true] <;>omega
      · simp only[h,if_false] <;>omega
  · cases hi with
    | none=>simp[sliceBounds,HT.sIx]
    | some i=>
      simp only[sliceBounds,HT.sIx,Option.getD_none,show(1:Int) > 0 by decide,if_true]
      by_cases h:i < 0
      · simp only[h,if_true] <;>omega
      · simp only[h,if_false] <;>omega
theorem slicePick_cut(its:List Value)(lo hi:Option Int):slicePick its.toArray lo hi none=((its.drop (HT.sIx its.length 0 lo)).take (HT.sIx its.length its.length hi - HT.sIx its.length 0 lo)).toArray:=by
  obtain⟨h1,h2,h3⟩:=slice_bounds lo hi its.toArray.size
  unfold slicePick
  rw[h1,h2,h3]
  simp only[sliceRange_one,pick_run,List.size_toArray] <;>rfl
def rSlL(K:PySem.W.Frag):V→Option Int→Option Int→Hp→VK→Prop:=fun x lo hi H Q=>∃a xs,x=.ref a∧SqL K H a xs∧∀p,H p=none→Q (.ref p) (upd H p (.lst (cutV xs lo hi)))
theorem sl_list:SlR X (rSlL X.K):=by
  intro pins s σ H x v vl vu lo hi sl Q I rx hs pl pu h
  obtain⟨a,xs,rfl,hx,q⟩:=h
  cases rx
  obtain⟨its,r,ht,hz⟩:=I.list hx
  have hlen:=r.length
  refine⟨"list",_,slot_list_getitem.lookup,ht.isList.typeIs,?_⟩
  refine wpAny_getItem_list_slice ht.isList hs pl pu .none (by simp) ?_ (by rw[List.size_toArray] <;>omega)
  rw[slicePick_cut,← hlen]
  refine⟨.ref s.heap.objs.size,_,I.laid (t':=s.toks) (o:=.lst (cutV xs lo hi)) (fun b ob q=>Heap.get?_push_of_some _ q) (Nat.le_refl _) ?_,rfl,q _ (I.hok.fresh (Nat.le_refl _))⟩
  exact⟨Nat.le_trans (cutV_length xs lo hi) hz,_,0,(r.drop (HT.sIx xs.length 0 lo)).take (HT.sIx xs.length xs.length hi - HT.sIx xs.length 0 lo),Heap.get?_push_size _ rfl⟩
theorem CallR.or{f:Value}{r r':List V→Hp→VK→Prop}(h:CallR X f r)(h':CallR X f r'):CallR X f (fun xs H Q=>r xs H Q∨r' xs H Q):=by
  intro pins s σ H xs us Q I rs q
  rcases q with q | q
  · exact h pins s σ H xs us Q I rs q
  · exact h' pins s σ H xs us Q I rs q
theorem call_tuple_of:CallR X (.type "tuple") (fun xs H Q=>∃p ys,xs=[.ref p]∧((SqL X.K H p ys∧∀l,H l=none→Q (.ref l) (upd H l (.tup ys)))∨(SqT X.K H p ys∧Q (.ref p) H))):=by
  intro pins s σ H xs us Q I r h
  obtain⟨p,ys,rfl,h⟩:=h
  obtain⟨u,rfl,rx⟩:=vals1 r
  cases rx
  rcases h with ⟨hq,q⟩ | ⟨hq,q⟩
  · obtain⟨its,r',pl,hz⟩:=I.list hq
    have hlen:=r'.length
    refine call_tuple_list pl.isList (fun h' kp=>?_) (by simp only[List.size_toArray] <;>omega)
    have I1:Inv X pins σ H { s with heap:=h' }:=I.kept (t':=s.toks) kp
    have I2:Inv X pins σ (upd H h'.objs.size (.tup ys)) { s with heap:=h'.push { cls:=.type "tuple",data:=.seq its.toArray } }:=
      I1.laid (t':=s.toks) (fun b o e=>Heap.get?_push_of_some _ e) (Nat.le_refl _) (show ObjOk X.prog X.w _ _ _ (.tup ys)from⟨hz,its,r',IsTup.new _ _,fun _=>⟨_,Heap.get?_push_size _ rfl,rfl⟩⟩)
    exact⟨.ref h'.objs.size,_,I2,rfl,q _ (I1.hok.fresh (Nat.le_refl _))⟩
  · obtain⟨its,r',pl,hz⟩:=I.tuple hq
    exact call_tuple_same pl ⟨.ref p,H,I,rfl,q⟩
def tyV(K:PySem.W.Frag)(T:String)(x:V)(H:Hp):Prop:=match x with
  | .str _=>T="str"
  | .int _=>T="int"
  | .ref p=>(T="list"∧∃xs,SqL K H p xs)∨(T="tuple"∧∃o,K.lookup p=some o∧o.cls=.type "tuple"∧o.dict=none)∨
      (T="dict"∧((∃kvs,H p=some (.dK kvs))∨∃kvs,H p=some (.dT kvs)))∨(T="set"∧∃S n,H p=some (.set S n))
  | _=>False
theorem tyV_is{pins:List (Addr × Obj)}{σ:St}{H:Hp}{s:Shared}{T:String}{x:V}{v:Value}(I:Inv X pins σ H s)(r:RelV x v)(ty:tyV X.K T x H) :
    s.TypeIs v T∧∀a,v=.ref a→∃ob,s.heap.get? a=some ob∧ob.dict=none:=by
  cases x with
  | str z=>
    obtain⟨t,rfl⟩:=r
    cases (show T="str" from ty)
    exact⟨typeIs_str s z t,fun _ e=>nomatch e⟩
  | int i=>
    obtain⟨t,rfl⟩:=r
    cases (show T="int" from ty)
    exact⟨typeIs_int s i t,fun _ e=>nomatch e⟩
  | ref p=>
    cases r
    rcases ty with ⟨rfl,xs,hq⟩ | ⟨rfl,o,hk,hc,hd⟩ | ⟨rfl,hk⟩ | ⟨rfl,S,n,hk⟩
    · obtain⟨its,_,pl,_⟩:=I.list hq
      refine⟨pl.isList.typeIs,fun a e=>?_⟩
      cases e
      obtain⟨o,n,e,c,hd,_⟩:=pl
      exact⟨o,e,hd⟩
    · refine⟨⟨o,I.kIn p o hk,hc⟩,fun a e=>?_⟩
      cases e
      exact⟨o,I.kIn _ o hk,hd⟩
    · have z:∃o,s.heap.get? p=some o∧o.ExactDict:=by
        rcases hk with ⟨kvs,hk⟩ | ⟨kvs,hk⟩
        · obtain⟨_,_,_,_,o,_,_,e,ex,_⟩:=I.hok p _ hk
          exact⟨o,e,ex⟩
        · obtain⟨_,_,_,_,o,_,_,e,ex,_⟩:=I.hok p _ hk
          exact⟨o,e,ex⟩
      obtain⟨o,e,ex⟩:=z
      refine⟨⟨o,e,ex.1⟩,fun a e2=>?_⟩
      cases e2
      exact⟨o,e,ex.2.1⟩
    · obtain⟨o,_,_,_,e,ex,_⟩:=I.hok p _ hk
      refine⟨⟨o,e,ex.1⟩,fun a e2=>?_⟩
      cases e2
      exact⟨o,e,ex.2.1⟩
  | _=>exact False.elim ty
def tBM(K:PySem.W.Frag)(T:String)(r:V→List V→Hp→VK→Prop)(to:TE)(t:TA):TE:=fun σ H Q=>to σ H fun x H1=>tyV K T x H1∧t σ H1 fun xs H2=>r x xs H2 Q
variable{o e:Expr}{es:List Expr}{to:TE}{t:TA}{name:Str}{apos cpos:Pos}{T id:String}{r:V→List V→Hp→VK→Prop}
theorem pe_bm(pa:PlainAttrs T)(slot:Slot T name id)(hty:typeOf (.builtin id)=pure (.type "method_descriptor"))(hm:MtR X id r)(ho:PE X o to)(ha:PA X (e::es) t)
    (hbase:attributeBase o name X.env (eval o X.env)=eval o X.env:=by rfl)
    (hfew:((backTo cpos (starEach (e::es) X.env)).all (fun x=>!x.1) && (backToKw cpos (keywordEach [] X.env)).all (fun x=>x.1.isSome)
      && decide ((e::es).length+([]:List Keyword).length+(if([]:List Keyword).isEmpty then 0 else 1) < 30))=true:=by rfl)
    (hline:(apos.endLine == cpos.line)=true:=by rfl) (hs:starEach (e::es) X.env=(false,eval e X.env)::starEach es X.env:=by rfl) (hplain:(backTo cpos (starEach es X.env)).any (·.1)=false:=by rfl) :
    PE X (.Call (.Attribute o name apos) (e::es) [] cpos) (tBM X.K T r to t):=by
  intro pins s σ H Q I h
  refine wpAny_Call_method_late hbase hfew hline rfl (thn (ho pins s σ H _ I h) fun v s1 ⟨x,H1,I1,r1,ty,q1⟩=>?_)
  obtain⟨h1,h2⟩:=tyV_is I1 r1 ty
  refine⟨T,id,pa,slot,hty,h1,h2,?_⟩
  have hA:=ha cpos pins s1 σ H1 _ I1 q1
  rw[hs]at hA ⊢
  refine Calls.callWith_builtin (by show(false || (backTo cpos (starEach es X.env)).any (·.1))=false;rw[hplain] <;>rfl) (Calls.evalArgs_plain ?_)
  exact thn hA fun us s2 ⟨vs,H2,I2,r2,q2⟩=>hm pins s2 σ H2 x vs v us Q I2 r1 r2 q2
end
end L2
namespace L2
open PySem PySem.Spec PyProof.Rows
def MtM(X:Cx)(id:String)(r:V→List V→Hp→VK→Prop):Prop:=
  ∀(pins:List (Addr × Obj)) (s:Shared) (σ:St) (H:Hp) (x:V) (xs:List V) (v:Value) (us:List Value) (Q:VK),Inv X pins σ H s→RelV x v→Vals xs us→r x xs H Q→
    wpAny (model X.prog X.w) X.A (call (.builtin id) (v::us)) (EP X pins σ Q) X.xe s
theorem Vals.one:∀{x:V} {us:List Value},Vals [x] us→∃u,us=[u]∧RelV x u
  | _,_,.cons r .nil=>⟨_,rfl,r⟩
theorem Vals.two:∀{x y:V} {us:List Value},Vals [x,y] us→∃u v,us=[u,v]∧RelV x u∧RelV y v
  | _,_,_,.cons r (.cons q .nil)=>⟨_,_,rfl,r,q⟩
theorem Vals.zero:∀{us:List Value},Vals [] us→us=[]
  | _,.nil=>rfl
theorem Vals.eraseIdx:∀{xs:List V} {us:List Value} (i:Nat),Vals xs us→Vals (xs.eraseIdx i) (us.eraseIdx i)
  | _,_,_,.nil=>.nil
  | _,_,0,.cons _ t=>t
  | _,_,i+1,.cons r t=>.cons r (Vals.eraseIdx i t)
theorem Vals.rep{xs:List V}{us:List Value}(h:Vals xs us):∀k:Nat,Vals (List.replicate k xs).flatten (List.replicate k us).flatten
  | 0=>.nil
  | k+1=>by
    rw[List.replicate_succ,List.replicate_succ,List.flatten_cons,List.flatten_cons]
    exact Vals.append h (Vals.rep h k)
theorem len_erase{α:Type}:∀(l:List α) (i:Nat),(l.eraseIdx i).length≤l.length
  | [],_=>Nat.le_refl _
  | _::_,0=>Nat.le_succ _
  | _::r,i+1=>Nat.succ_le_succ (len_erase r i)
theorem foldl_rep(its:List Value):∀(k:Nat) (acc:List Value),
    List.foldl (fun x1 x2=>x1++x2) acc.toArray (List.replicate k its.toArray)=(acc++(List.replicate k its).flatten).toArray
  | 0,acc=>by simp
  | k+1,acc=>by
    have e:acc.toArray++its.toArray=(acc++its).toArray:=by simp
    have e2:(acc++its)++(List.replicate k its).flatten=acc++(List.replicate (k+1) its).flatten:=by
      rw[List.replicate_succ,List.flatten_cons,List.append_assoc]
    rw[← e2,← foldl_rep its k (acc++its),← e,List.replicate_succ,List.foldl_cons]
section
variable{X:Cx}{pins:List (Addr × Obj)}{σ:St}{H:Hp}{s:Shared}{l b:Addr}{xs ys zs:List V}
theorem Inv.lset{its its':List Value}{n:Nat}{f:Array Value→Array Value}{t':Nat}(I:Inv X pins σ H s)(hH:H l=some (.lst xs))
    (e:s.heap.get? l=some { cls:=.type "list",data:=.seq its.toArray n }) (hf:f its.toArray=its'.toArray) (hv:Vals ys its') (hz:ys.length≤sizeLine) :
    Inv X pins σ (upd H l (.lst ys)) { s with heap:=s.heap.update l (Obj.mapSeq f),toks:=t' }:=by
  have q:=PySem.IsL.update e f
  rw[hf]at q
  refine I.write (x:=l) (e:=l) (by rw[hH];exact trivial) (.inl rfl) (fun b' u hb hu=>(Heap.get?_update_other s.heap (Obj.mapSeq f) (Ne.symm hb)).trans hu) ⟨_,q⟩ ?_
  exact⟨hz,its',_,hv,q⟩
theorem Inv.lnew{its:List Value}{t':Nat}(I:Inv X pins σ H s)(hv:Vals ys its)(hz:ys.length≤sizeLine) :
    Inv X pins σ (upd H s.heap.objs.size (.lst ys)) { s with heap:=s.heap.push { cls:=.type "list",data:=.seq its.toArray },toks:=t' }:=
  I.laid (fun _ _ q=>Heap.get?_push_of_some _ q) (Nat.le_refl _) ⟨hz,its,0,hv,Heap.get?_push_size _ rfl⟩
theorem Inv.fresh(I:Inv X pins σ H s):H s.heap.objs.size=none:=I.hok.fresh (Nat.le_refl _)
theorem Inv.lstM(I:Inv X pins σ H s)(hH:H l=some (.lst xs)):xs.length≤sizeLine∧∃(its:List Value) (n:Nat),Vals xs its∧xs.length=its.length∧s.heap.get? l=some { cls:=.type "list",data:=.seq its.toArray n }:=by
  obtain⟨z,its,n,r,e⟩:=I.hok l _ hH
  exact⟨z,its,n,r,r.length,e⟩
theorem notLongL{n:Nat}(h:n≤sizeLine):Builtin.List.listTooLong n=false:=by
  unfold Builtin.List.listTooLong
  exact decide_eq_false (by omega)
end
section
variable{X:Cx}
def rAppend:V→List V→Hp→VK→Prop:=fun x vs H Q=>∃l xs y,x=.ref l∧vs=[y]∧H l=some (.lst xs)∧xs.length < sizeLine∧Q .non (upd H l (.lst (xs++[y])))
theorem mt_append:MtM X "list.append" rAppend:=by
  intro pins s σ H x vs v us Q I rx rv h
  obtain⟨l,xs,y,rfl,rfl,hH,hz,q⟩:=h
  cases rx
  obtain⟨u,rfl,ru⟩:=rv.one
  obtain⟨z,its,n,r,hl,e⟩:=I.lstM hH
  refine call_meets F.slot_list_append ⟨_,e,rfl⟩ F.entry_list_append (F.args_list_append_2 _ _) (PySem.list_append l its.toArray n u (by rw[List.size_toArray];omega)) ⟨e,?_⟩
  refine⟨.non,_,I.lset (its':=its++[u]) hH e (by simp) (r.append (.cons ru .nil)) ?_,rfl,q⟩
  rw[List.length_append,List.length_singleton]
  omega
def rPopAt:V→List V→Hp→VK→Prop:=fun x vs H Q=>∃l xs i k y,x=.ref l∧vs=[.int i]∧H l=some (.lst xs)∧-(2 ^ 63)≤i∧i < 2 ^ 63∧seqIndex? i xs.length=some k∧xs[k]? = some y∧Q y (upd H l (.lst (xs.eraseIdx k)))
theorem mt_popAt:MtM X "list.pop" rPopAt:=by
  intro pins s σ H x vs v us Q I rx rv h
  obtain⟨l,xs,i,k,y,rfl,rfl,hH,h1,h2,hk,hy,q⟩:=h
  cases rx
  obtain⟨u,rfl,ru⟩:=rv.one
  obtain⟨t,rfl⟩:=ru
  obtain⟨z,its,n,r,hl,e⟩:=I.lstM hH
  obtain⟨w,hw,rw'⟩:=r.get hy
  refine call_meets F.slot_list_pop ⟨_,e,rfl⟩ F.entry_list_pop (F.args_list_pop_2 _ _)
    (MeetsSeq.list_pop_at l its.toArray n i t k w (fitsIndex_both h1 h2) (by rw[List.size_toArray,← hl];exact hk) (by rw[← Array.getElem?_toList];exact hw) (by rw[List.size_toArray];omega)) ⟨e,?_⟩
  refine⟨y,_,I.lset (its':=its.eraseIdx k) hH e ?_ (r.eraseIdx k) ?_,rw',q⟩
  · show its.toArray.eraseIdxIfInBounds k=(its.eraseIdx k).toArray
    rw[List.eraseIdxIfInBounds_toArray]
  · have:=len_erase xs k
    omega
def rCat:R2:=fun x y H Q=>∃l b xs zs,x=.ref l∧y=.ref b∧H l=some (.lst xs)∧H b=some (.lst zs)∧xs.length+zs.length≤sizeLine∧∀p,H p=none→Q (.ref p) (upd H p (.lst (xs++zs)))
theorem op_cat:OpR X (binaryOp .Add) rCat:=by
  intro pins s σ H x y v u Q I rx ry h
  obtain⟨l,b,xs,zs,rfl,rfl,hH,hB,hz,q⟩:=h
  cases rx
  cases ry
  obtain⟨z,its,n,r,hl,e⟩:=I.lstM hH
  obtain⟨z2,its2,n2,r2,hl2,e2⟩:=I.lstM hB
  refine PySem.P.add_list e e2 ?_ (by rw[List.size_toArray,List.size_toArray];omega)
  have ea:its.toArray++its2.toArray=(its++its2).toArray:=by simp
  rw[ea]
  exact⟨.ref _,_,I.lnew (t':=s.toks) (r.append r2) (by rw[List.length_append];omega),rfl,q _ I.fresh⟩
def rRep:R2:=fun x y H Q=>∃l k xs,x=.ref l∧y=.int k∧H l=some (.lst xs)∧-(2 ^ 63)≤k∧k < 2 ^ 63∧xs.length * k.toNat≤sizeLine∧
  ∀p,H p=none→Q (.ref p) (upd H p (.lst (List.replicate k.toNat xs).flatten))
theorem len_rep{α:Type}(xs:List α)(k:Nat):(List.replicate k xs).flatten.length=k * xs.length:=by
  induction k with
  | zero=>simp
  | succ k ih=>rw[List.replicate_succ,List.flatten_cons,List.length_append,ih,Nat.succ_mul,Nat.add_comm]
theorem op_rep:OpR X (binaryOp .Mult) rRep:=by
  intro pins s σ H x y v u Q I rx ry h
  obtain⟨l,k,xs,rfl,rfl,hH,h1,h2,hz,q⟩:=h
  cases rx
  obtain⟨t,rfl⟩:=ry
  obtain⟨z,its,n,r,hl,e⟩:=I.lstM hH
  have hlen:its.toArray.size * k.toNat≤sizeLine:=by rw[List.size_toArray,← hl];exact hz
  have hcap:¬its.toArray.size * k.toNat > (2 ^ 63 - 1) / 8:=by
    have:(sizeLine:Nat)≤(2 ^ 63 - 1) / 8:=by decide
    omega
  have hfit:¬(!Builtin.List.listFitsIndex k)=true:=by
    rw[fitsIndex_both h1 h2]
    exact Bool.false_ne_true
  have hlong:¬Builtin.List.listTooLong (its.toArray.size * k.toNat)=true:=by
    rw[notLongL hlen]
    exact Bool.false_ne_true
  have hnew:List.foldl (fun x1 x2=>x1++x2) #[] (List.replicate (if its.toArray.isEmpty=true then 0 else k.toNat) its.toArray)=(List.replicate k.toNat its).flatten.toArray:=by
    have f0:∀m:Nat,List.foldl (fun x1 x2=>x1++x2) #[] (List.replicate m its.toArray)=(List.replicate m its).flatten.toArray:=fun m=>by
      have:=foldl_rep its m []
      rw[List.nil_append]at this
      exact this
    rw[f0]
    cases its with
    | nil=>simp
    | cons a r'=>rw[if_neg (by simp)]
  refine wpAny_binaryOp_repeat_ref (T:="list") (U:="int") (by decide) ⟨_,e,rfl⟩ (fun s'=>typeIs_int s' k t) noFill_list_mul F.fills_int_mul F.slot_int_rmul repeat_list F.slot_int_index.lookup
    (call_meets F.slot_int_rmul (typeIs_int s k t) F.entry_int_rmul (F.args_int_rmul_2 _ _) (int___rmul___int_list k t l its.toArray n)
      ⟨e,rfl,⟨_,e,rfl⟩,call_meets F.slot_list_mul ⟨_,e,rfl⟩ F.entry_list_mul (F.args_list_mul_2 _ _) (AutoListH.list___mul___list_int_3 l its.toArray n k t hfit hcap hlong) ⟨e,?_⟩⟩)
  rw[hnew]
  exact⟨.ref _,_,I.lnew (t':=s.toks) (r.rep k.toNat) (by rw[len_rep,Nat.mul_comm];exact hz),rfl,q _ I.fresh⟩
end
section
variable{prog:Program}{w:World}{A:Around}{E:Value→Shared→Prop}{s:Shared}
set_option maxRecDepth 100000 in
end
section
variable{X:Cx}
end
end L2
namespace Att
open PySem PySem.W PySem.Calls PyProof.Rows
theorem ints_of_wellAll{P:Params}{h:Heap}:∀(ns:List Int) (vs:List Value),WellAll P h vs (ns.map WData.int)→IntsAre vs ns:=by
  intro ns
  induction ns with
  | nil=>
    intro vs w
    rw[List.map_nil]at w
    cases w
    exact .nil
  | cons n ns ih=>
    intro vs w
    rw[List.map_cons]at w
    cases w with
    | cons a b=>
      cases a
      exact .cons _ _ (ih _ b)
theorem script_of{l:OpenLaw}{n:Nat}(hn:l.most=some n){P:Params}{h:Heap}{args:List WData}{vals:List Value}
    (hpre:l.row.toRowW.claim.pre args=true) (hwl:WellAll P h vals args) :
    ∃a vs ns,vals=[Value.ref a]∧args=[WData.list (ns.map WData.int)]∧h.get? a=some { cls:=.type "list",data:=.seq vs.toArray }∧IntsAre vs ns∧ns.length≤n:=by
  have hsh:WShape.hasAll [] args [.list .int]=true:=(pre_splitW hpre).1
  have hc:l.pre.holds [] { args:=args }=true:=(pre_splitW hpre).2
  obtain⟨d,r,rfl,h1,h2⟩:=hasAllW_cons hsh
  obtain rfl:=hasAllW_nil h2
  obtain⟨xs,rfl,h3⟩:=hasW_list h1
  obtain⟨ns,rfl⟩:=items_int h3
  have hlen:ns.length≤n:=by
    unfold OpenLaw.pre at hc
    have h4:(WTm.not (.lt (.lit (.int (n:Int))) (.len (.arg 0)))).holds [] { args:=[.list (ns.map .int)] }=true:=by
      have h4:=(holds_andW hc).1
      rw[hn]at h4
      exact h4
    have h5:=condW_of h4 (w_not (w_lt w_lit (w_len_list (w_arg rfl))))
    rw[List.length_map]at h5
    refine Nat.le_of_not_lt fun q=>?_
    have q':(n:Int) < ((ns.length:Nat):Int):=by omega
    first
      | (rw[decide_eq_true q']at h5;exact absurd h5 (by decide))
      | (simp at h5;omega)
  cases hwl with
  | cons w1 w2=>
    cases w2
    cases w1 with
    | list ho hall=>exact⟨_,_,ns,rfl,rfl,ho,ints_of_wellAll ns _ hall,hlen⟩
theorem post_true(l:OpenLaw)(args:List WData):l.row.toRowW.claim.post args (.bool true) args=true:=
  postW_of (r:=l.row.toRowW) (X:=(true == true))
    (show WShape.has [] (.bool true) .bool=true by first | rfl | decide | simp[WShape.has,WShape.arms,WShape.armsAll])
    (show(WTm.eq .res (.lit (.bool true))).value [] { args:=args,res:=some (.bool true),after:=args }=some (.bool (true == true))from w_eq_bool (w_res rfl) w_lit) rfl
theorem attach_call{l:OpenLaw}{n:Nat}{q:Program}{loose:List Str}{XP:(Str→Option Value)→Heap→Prop}{YP:World→Heap→Prop}{d:DefRec}
    (hn:l.most=some n) (hdf:d.params.defaults=[])
    (call:∀(w:World) (s₀ s₁:Shared) (mg mb:Str→Option Value) (fa:Addr) (o:Obj) (pm cd doc:Value) (a:Addr) (vs:List Value) (ns:List Int),
      Ground q loose [] XP w s₀ mg mb s₁.heap→YP w s₁.heap→
      s₁.heap.get? fa=some o→o.data=.func (docDef d.name d.params d.body d.scope pm cd doc)→s₁.heap.CodeRec cd d.name→mg d.name=some (.ref fa)→
      s₁.heap.get? a=some { cls:=.type "list",data:=.seq vs.toArray }→IntsAre vs ns→ns.length≤n→s₁.gens=#[]→
      codeAny (model l.prog w) callerA (.call (.ref fa) ⟨[.ref a],[]⟩) (fun r s'=>r=.ok (.ret (.bool true))∧OldK s₁.heap s'.heap∧s'.os=s₁.os∧AllBare s'.gens) s₁) :
    WalkO q loose XP YP l.row.toRowW d [] (fun f vs=>PySem.call f vs):=by
  intro w s₀ s₁ mg mb G Y fa o pm cd doc dV kV ho hd hcd hD hmg hg args vals as hpre hlay hrd hwl hlo
  obtain rfl:dV=.none:=Dflts.none hD hdf
  obtain rfl:kV=.none:=Dflts.noKw hD
  obtain⟨a,vs,ns,rfl,rfl,hobj,hints,hlen⟩:=script_of hn hpre hwl
  refine enter_call (codeAny_mono (call w s₀ s₁ mg mb fa o pm cd doc a vs ns G Y ho (fd_plain hd) hcd hmg hobj hints hlen hg) fun r s' hq=>?_)
  obtain⟨rfl,h2,h3,h4⟩:=hq
  exact⟨.inl ⟨.bool true,.bool true,[],rfl,fun _=>rfl,.bool true,post_true l _,fun _=>⟨List.Pairwise.nil,fun _ hm=>(nomatch hm)⟩⟩,h2,h3,h4⟩
section
variable{prog:Program}{w:World}{A:Around}{E:Value→Shared→Prop}{s:Shared}{K:Frag}
def ledger(h:Heap)(L d:Addr):List (Addr × Obj):=(List.range h.objs.size).filterMap fun a=>if a=L∨a=d then none else(h.get? a).map fun o=>(a,o)
end
end Att
namespace L2
open PySem PySem.Spec PyProof.Rows
theorem vals_ints:∀{vs:List Value} {ns:List Int},IntsAre vs ns→Vals (ns.map V.int) vs
  | _,_,.nil=>.nil
  | _,_,.cons n t h=>.cons ⟨t,rfl⟩ (vals_ints h)
def Only(H:Hp):Prop:=∀b,H b=none∨∃o xs,H b=some (.frz o (.lst xs))
theorem law_call{P:Program}{w:World}{K:PySem.W.Frag}{mg mb:Str→Option Value}{CX:CXT}{k:Nat}{fa a:Addr}{fd:FuncData}{x:Str}{sp:Sp}{s₁:Shared}{vs:List Value}{ns:List Int}
    (KX:K.In s₁.heap) (hns:s₁.heap.Ns mainGlobals mg) (hb:s₁.heap.Ns builtinsNs mb) (hbb:∀x:Str,x≠"__name__"→mb x=bootBuiltins x) (hlim:s₁.heap.NoLimit) (hsee:s₁.heap.NoSeer) (hg:s₁.gens=#[])
    (ha:s₁.heap.get? a=some { cls:=.type "list",data:=.seq vs.toArray }) (hi:IntsAre vs ns) (hl:ns.length≤sizeLine) (hr:Room k callerA)
    (F:∀base:Heap,K.In base→base.Ns mainGlobals mg→FnOk P w K mg base CX k fa fd [x] sp) (hbind:∀(s:Shared) (u:Value),BindsTo s fd ⟨[u],[]⟩ [(x,u)])
    (hsp:∀H:Hp,Only H→SqL K H a (ns.map V.int)→sp [.ref a] H (fun v _=>v=.bl true) fun _ _ _=>False)
    (hCX:∀H e s',CX [] H s₁ (fun _ _ _=>False) e s'→False) :
    codeAny (model P w) callerA (.call (.ref fa) ⟨[.ref a],[]⟩) (fun r s'=>r=.ok (.ret (.bool true))∧OldK s₁.heap s'.heap∧s'.os=s₁.os∧AllBare s'.gens) s₁:=by
  have rv:=vals_ints hi
  have lenV:=hi.length
  have core:∀H:Hp,Only H→SqL K H a (ns.map V.int)→HOk P w H s₁.heap→(∀b,H b≠none→b=a)→(H a≠none→K.lookup a=none)→
      codeAny (model P w) callerA (.call (.ref fa) ⟨[.ref a],[]⟩) (fun r s'=>r=.ok (.ret (.bool true))∧OldK s₁.heap s'.heap∧s'.os=s₁.os∧AllBare s'.gens) s₁:=by
    intro H hO hS hok hA hK
    have base_of:∀{b:Addr} {o:Obj},s₁.heap.get? b=some o→H b=none→(hidT s₁.heap H).get? b=some o:=fun e n=>hidT_get e n
    have noA:∀{b:Addr} {o:Obj} {es:Array DictEntry} {ep:Nat},s₁.heap.get? b=some o→o.data=.dict es ep→H b=none:=fun{b o es ep} e d=>by
      cases q:H b with
      | none=>rfl
      | some u=>
        have e':b=a:=hA b (by rw[q];simp)
        subst e'
        rw[ha]at e;cases e
        have d':Data.seq vs.toArray _=Data.dict es ep:=d
        cases d'
    have nsK:∀{b:Addr} {m:Str→Option Value},s₁.heap.Ns b m→(hidT s₁.heap H).Ns b m:=fun{b m} ⟨o,es,ep,e,d,r⟩=>⟨o,es,ep,base_of e (noA e d),d,r⟩
    have hKb:K.In (hidT s₁.heap H):=fun b o e=>base_of (KX b o e) (by
      cases q:H b with
      | none=>rfl
      | some u=>
        have e':b=a:=hA b (by rw[q];simp)
        subst e'
        rw[hK (by rw[q];simp)]at e;cases e)
    have hM:Mod K mg (hidT s₁.heap H):=⟨hKb,nsK hns,⟨mb,nsK hb,hbb⟩,let⟨mc,h1,h2⟩:=hlim;⟨mc,nsK h1,h2⟩,
      ⟨let⟨mc,h1,h2⟩:=hsee.statics;⟨mc,nsK h1,h2⟩,let⟨mc,h1,h2⟩:=hsee.mods;⟨mc,nsK h1,h2⟩,let⟨mc,h1,h2⟩:=hsee.imp;⟨mc,nsK h1,h2⟩,by
        obtain⟨mg',bm,ob,n1,n2,n3,n4,n5⟩:=hsee.main
        refine⟨mg',bm,ob,nsK n1,n2,base_of n3 ?_,n4,n5⟩
        cases q:H bm with
        | none=>rfl
        | some u=>
          have e':bm=a:=hA bm (by rw[q];simp)
          subst e'
          rw[ha]at n3;cases n3
          exact absurd (show Value.type "list"=Value.type "module" from n4) (fun z=>by injection z with z;exact absurd z (by decide))⟩⟩
    have e0:Env0 P w K mg (hidT s₁.heap H) callerA [] s₁ H:=⟨rfl,hM,fun b o e=>of_hidT e,Nat.le_of_eq (hidT_size _ _),trivial,fun b hb=>absurd (show b∈([]:List Addr)from hb) (by simp),hok,.of_eq hg⟩
    refine codeAny_mono ((F _ hKb (nsK hns)).run callerA [] s₁ H ⟨[.ref a],[]⟩ [.ref a] [.ref a] _ _ hr e0 (hbind s₁ (.ref a)) (.cons rfl .nil) (hsp H hO hS)) fun r s' h=>?_
    cases r with
    | error e=>exact(hCX H e s' h).elim
    | ok fl=>
      cases fl with
      | next=>exact False.elim h
      | brk=>exact False.elim h
      | cont=>exact False.elim h
      | ret u=>
        obtain⟨v,H',os,bare,un,hok',r',q⟩:=h
        have q':v=.bl true:=q
        subst q'
        obtain rfl:u=Value.bool true:=r'
        refine⟨rfl,OldK.of_keep fun b o e=>?_,os,bare⟩
        cases q:H b with
        | none=>exact un.keep b o e q (by intro z;exact absurd (show b∈([]:List Addr)from z) (by simp)) (by simp)
        | some u=>
          rcases hO b with z | ⟨ob,xs,z⟩
          · rw[q]at z;cases z
          · have z2:=un.frzs b ob _ z
            obtain⟨e1,_⟩:=hok b _ z
            obtain⟨e2,_⟩:=hok' b _ z2
            rw[e]at e1;cases e1
            exact e2
  cases hk:K.lookup a with
  | some o=>
    have e:=KX a o hk
    rw[ha]at e
    cases e
    refine core (fun _=>none) (fun _=>.inl rfl) (.inr ⟨_,vs.toArray,_,hk,rfl,rfl,rfl,by rw[List.size_toArray,lenV];exact hl,by simpa using rv⟩) (fun b u z=>by have z':(none:Option HO)=some u:=z;cases z') (fun b z=>absurd rfl z) fun z=>absurd rfl z
  | none=>
    refine core (fun b=>if b=a then some (.frz { cls:=.type "list",data:=.seq vs.toArray } (.lst (ns.map V.int)))else none) (fun b=>?_) (.inl (.inr ⟨{ cls:=.type "list",data:=.seq vs.toArray },if_pos rfl⟩)) (fun b u z=>?_) (fun b z=>?_) fun _=>hk
    · by_cases hb:b=a
      · exact .inr ⟨_,_,if_pos hb⟩
      · exact .inl (if_neg hb)
    · by_cases hb:b=a
      · have z':=(if_pos hb).symm.trans z
        cases z'
        subst hb
        exact⟨ha,by rw[List.length_map];exact hl,vs,_,rv,ha⟩
      · have z':=(if_neg hb).symm.trans z
        cases z'
    · by_cases hb:b=a
      · exact hb
      · exact absurd (if_neg hb) z
end L2
namespace L2
open PySem PySem.Spec PyProof.Rows
abbrev KOf{K:PySem.W.Frag}{h:Heap}(_:K.In h):PySem.W.Frag:=K
theorem walk_of{l:PySem.W.OpenLaw}{n k:Nat}{q:Program}{loose:List Str}{XP:(Str→Option Value)→Heap→Prop}{YP:World→Heap→Prop}{d:DefRec}{K:Params→PySem.W.Frag}{CX:World→CXT}{sp:World→Sp}{x:Str}
    (hn:l.most=some n) (hn2:n≤sizeLine) (hdf:d.params.defaults=[]) (hr:Room k callerA) (hq:importsNone q=true)
    (hY:∀(w:World) (h:Heap),YP w h→(K w.params).In h)
    (F:∀(w:World) (mg:Str→Option Value) (fa:Addr) (h:Heap),(K w.params).In h→h.Ns mainGlobals mg→mg d.name=some (.ref fa)→
      ∃fd:FuncData,(∀(s:Shared) (u:Value),BindsTo s fd ⟨[u],[]⟩ [(x,u)])∧
        ∀base:Heap,(K w.params).In base→base.Ns mainGlobals mg→FnOk l.prog w (K w.params) mg base (CX w) k fa fd [x] (sp w))
    (hsp:∀(w:World) (H:Hp) (a:Addr) (ns:List Int),ns.length≤n→Only H→SqL (K w.params) H a (ns.map V.int)→sp w [.ref a] H (fun v _=>v=.bl true) fun _ _ _=>False)
    (hCX:∀(w:World) (H:Hp) (s:Shared) (e:Value) (s':Shared),CX w [] H s (fun _ _ _=>False) e s'→False) :
    PySem.W.WalkO q loose XP YP l.row.toRowW d [] (fun f vs=>PySem.call f vs):=by
  refine Att.attach_call hn hdf fun w s₀ s₁ mg mb fa o pm cd doc a vs ns G Y ho hd hcd hmg hobj hints hlen hg=>?_
  have KX:=hY w _ Y
  obtain⟨fd,hb,hF⟩:=F w mg fa _ KX G.T.g hmg
  exact law_call KX G.T.g G.T.b G.T.builtins G.T.nolimit (G.T.seer hq) hg hobj hints (Nat.le_trans hlen hn2) hr hF hb (fun H hO hS=>hsp w H a ns hlen hO hS) fun H e s'=>hCX w H s₁ e s'
theorem walk_ofK{l:PySem.W.OpenLaw}{n k:Nat}{q:Program}{loose:List Str}{XP:(Str→Option Value)→Heap→Prop}{YP:World→Heap→Prop}{d:DefRec}{K:Params→PySem.W.Frag}{CX:CXT}{sp:PySem.W.Frag→Sp}{x:Str}
    (hn:l.most=some n) (hn2:n≤sizeLine) (hdf:d.params.defaults=[]) (hr:Room k callerA) (hq:importsNone q=true)
    (hY:∀(w:World) (h:Heap),YP w h→(K w.params).In h)
    (F:∀(w:World) (mg:Str→Option Value) (fa:Addr) (h:Heap),(K w.params).In h→h.Ns mainGlobals mg→mg d.name=some (.ref fa)→
      ∃fd:FuncData,(∀(s:Shared) (u:Value),BindsTo s fd ⟨[u],[]⟩ [(x,u)])∧
        ∀base:Heap,(K w.params).In base→base.Ns mainGlobals mg→FnOk l.prog w (K w.params) mg base CX k fa fd [x] (sp (K w.params)))
    (hsp:∀(K:PySem.W.Frag) (H:Hp) (a:Addr) (ns:List Int),ns.length≤n→Only H→SqL K H a (ns.map V.int)→sp K [.ref a] H (fun v _=>v=.bl true) fun _ _ _=>False)
    (hCX:∀(H:Hp) (s:Shared) (e:Value) (s':Shared),CX [] H s (fun _ _ _=>False) e s'→False) :
    PySem.W.WalkO q loose XP YP l.row.toRowW d [] (fun f vs=>PySem.call f vs):=
  walk_of (K:=K) (CX:=fun _=>CX) (sp:=fun w=>sp (K w.params)) hn hn2 hdf hr hq hY F (fun w H a ns h1 h2 h3=>hsp (K w.params) H a ns h1 h2 h3) fun _ H s e s'=>hCX H s e s'
end L2
namespace L2
open PySem PySem.Spec PyProof.Rows
def inClass(s:Stmt)(j:Nat):Stmt:=match s with
  | .ClassDef _ _ _ body _ _ _ _ _ _ _=>body.getD j (.Pass ⟨0,0,0,0⟩)
  | _=>.Pass ⟨0,0,0,0⟩
def defArgs(s:Stmt):Arguments:=match s with
  | .FunctionDef _ a _ _ _ _ _ _ _ _=>a
  | _=>{ posonlyargs:=[],args:=[],vararg:=none,kwonlyargs:=[],kw_defaults:=[],kwarg:=none,defaults:=[] }
def defBody(s:Stmt):List Stmt:=match s with
  | .FunctionDef _ _ b _ _ _ _ _ _ _=>b
  | _=>[]
def defScope(s:Stmt):Scope:=match s with
  | .FunctionDef _ _ _ _ _ _ sc _ _ _=>sc
  | _=>{ kind:=.function,names:=[],isGenerator:=false,isCoroutine:=false }
abbrev CX0:CXT:=fun _ _ _ _ _ _=>False
abbrev E0:XK:=fun _ _ _=>False
theorem pass0{X:Cx}:Passes CX0 X E0:=fun _ _ _ _ _ _ _ h=>h.elim
structure Fun(K:PySem.W.Frag)(x qual:Str)(st:Stmt)(f:Addr)(fd:FuncData):Prop where
  ex:∃(oc:Value) (od:Option Addr) (kV doc pm:Value) (an:Option Addr) (cdv ct:Value) (osl:Array (Option Value)),
    fd=PySem.W.fnOf x qual (defArgs st) (defBody st) (defScope st) .none kV doc pm an cdv ct∧K.lookup f=some ⟨oc,od,.func fd,osl⟩∧PySem.W.codeIn K cdv qual=true
  kp:PySem.W.keepIn K (.ref f)=true
section
variable{P:Program}{w:World}{K:PySem.W.Frag}{mg:Str→Option Value}{base:Heap}
theorem Fun.ok{x qual:Str}{st:Stmt}{f:Addr}{fd:FuncData}{N ps:List Str}{k:Nat}{sp:Sp}(F:Fun K x qual st f fd)(S:FnScope N ps (defScope st))(len:∀vs H Q E,sp vs H Q E→vs.length=ps.length)
    (hbody:∀(cdv:Value) (A:Around) (outer:List Env) (s:Shared) (H:Hp) (vs:List V) (Q:VK) (E:XK),Room k (A.deeper (envOfC qual (defScope st) s.heap.objs.size f cdv))→sp vs H Q E→
      ∃t,PSs (cxOf CX0 P w K mg base N qual (defScope st) f cdv A outer s H E).nox (defBody st) t∧t { nx:=fun _ H'=>Q .non H',rt:=Q } (start N vs) H):FnOk P w K mg base CX0 (k+1) f fd ps sp:=by
  obtain⟨oc,od,kV,doc,pm,an,cdv,ct,osl,rfl,lk,hcd⟩:=F.ex
  refine fn_of lk hcd S len fun A outer s H vs Q E hr hsp=>?_
  obtain⟨t,h,q⟩:=hbody cdv A outer s H vs Q E hr hsp
  exact⟨t,h.nox,q⟩
theorem Fun.binds{x qual:Str}{st:Stmt}{f:Addr}{fd:FuncData}{ps:List Str}(F:Fun K x qual st f fd)
    (h:∀(kV doc pm:Value) (an:Option Addr) (cdv ct:Value) (us:List Value),us.length=ps.length→bindArgs (PySem.W.fnOf x qual (defArgs st) (defBody st) (defScope st) .none kV doc pm an cdv ct) ⟨us,[]⟩=pure (ps.zip us)):Binds K fd ps []:=by
  obtain⟨oc,od,kV,doc,pm,an,cdv,ct,osl,rfl,lk,hcd⟩:=F.ex
  exact .all (h kV doc pm an cdv ct)
theorem fun_mk{x qual:Str}{st:Stmt}{f:Addr}{oc:Value}{od an:Option Addr}{osl:Array (Option Value)}{kV doc pm cdv ct:Value}(l:K.lookup f=some ⟨oc,od,.func (PySem.W.fnOf x qual (defArgs st) (defBody st) (defScope st) .none kV doc pm an cdv ct),osl⟩)
    (c:PySem.W.codeIn K cdv qual=true) (k:PySem.W.keepIn K (.ref f)=true):Fun K x qual st f (PySem.W.fnOf x qual (defArgs st) (defBody st) (defScope st) .none kV doc pm an cdv ct):=⟨⟨oc,od,kV,doc,pm,an,cdv,ct,osl,rfl,l,c⟩,k⟩
end
section
variable{X:Cx}
theorem pv(i:Nat){x:Str}{pos:Pos}(hN:X.N[i]? = some x:=by rfl)(hv:Vis X.env.scope x:=by first | exact Or.inl rfl | exact Or.inr (Or.inl rfl) | exact Or.inr (Or.inr rfl))(hd:(x == ("__debug__":Str))=false:=by decide)
    (hcd:(x == ("__classdict__":Str))=false:=by decide):PE X (.Name x pos) (tVar i):=pe_var hN hv hd hcd
end
theorem iteF{A B:Prop}(h:B):if false=true then A else B:=by
  rw[if_neg Bool.false_ne_true]
  exact h
theorem iteT{A B:Prop}(h:A):if true=true then A else B:=by
  rw[if_pos rfl]
  exact h
def Same(H H':Hp):Prop:=∀b o,H b=some o→H' b=some o
theorem Same.refl(H:Hp):Same H H:=fun _ _ h=>h
theorem Same.trans{H H1 H2:Hp}(a:Same H H1)(b:Same H1 H2):Same H H2:=fun c o h=>b c o (a c o h)
theorem Same.free{H H':Hp}(e:Same H H'){l:Addr}(h:H' l=Option.none):H l=Option.none:=by
  cases q:H l with
  | none=>rfl
  | some o=>
    rw[e l o q]at h
    cases h
theorem Same.seq{K:PySem.W.Frag}{H H':Hp}{a:Addr}{xs:List V}(e:Same H H')(h:SqL K H a xs):SqL K H' a xs:=by
  rcases h with (h | ⟨o,h⟩) | h
  · exact .inl (.inl (e _ _ h))
  · exact .inl (.inr ⟨o,e _ _ h⟩)
  · exact .inr h
end L2
set_option maxHeartbeats 4000000
namespace L2
open PySem PySem.Spec PyProof.Rows PySem.SeqAt
section
variable{X:Cx}
def CDivB(_ j:Int):Prop:=j≠0∧j.natAbs.log2 < 9000
theorem op_fdivB:OpR X (binaryOp .FloorDiv) (rI CDivB fun i j=>.int (i.fdiv j)):=opI fun _ _ _ _ _ _ _ hc q=>floordiv_int hc.1 q (Or.inl (PyProof.noPylong_of_log2 hc.2))
def rIsi(K:PySem.W.Frag):List V→Hp→VK→Prop:=fun xs H Q=>∃x n t b,xs=[x,.ty n]∧TyOf K H x t∧PySem.W.kitOne K t (.type n)=some b∧Q (.bl b) H
theorem call_isi:CallR X (.builtin "isinstance") (rIsi X.K):=by
  intro pins s σ H xs us Q I r h
  obtain⟨x,n,t,b,rfl,ty,e,q⟩:=h
  cases r with
  | cons rx r1=>
    cases r1 with
    | cons ry r2=>
      cases r2
      cases ry
      exact isinst_ok I rx ty e fun tk=>⟨.bl b,H,I.tok _,rfl,q⟩
structure MkO(K:PySem.W.Frag)(C:Addr):Prop where
  makes:PySem.W.makesIn K C=true
  init:PySem.W.findIn K (.ref C) "__init__"=some (some (.builtin "object.__init__"))
  kp:PySem.W.keepIn K (.ref C)=true
def tMakeO(C:Addr):TE:=fun _ H Q=>∀x dx,H x=none→H dx=none→dx≠x→Q (.ref x) (upd (upd H dx (.own x)) x (.ins C dx []))
theorem pe_makeO{C:Addr}{x:Str}{p pos:Pos}(M:MkO X.K C)(hg:Gl X x)(hm:X.mg x=some (.ref C))(hdb:(x == ("__debug__":Str))=false:=by decide):PE X (.Call (.Name x p) [] [] pos) (tMakeO C):=by
  intro pins s σ H Q I h
  refine wpAny_Call_Name_kw (ld_glob I hg hm ?_ hdb)
  refine PySem.W.callWith_K0 I.kIn M.kp ?_
  have hq:=h (s.heap.objs.size+1) s.heap.objs.size (I.hok.fresh (Nat.le_succ _)) (I.hok.fresh (Nat.le_refl _)) (Nat.ne_of_lt (Nat.lt_succ_self _))
  have I2:=Inv.made (C:=C) I
  have Y:=PySem.W.makes_of (M:=model X.prog X.w) I.kIn M.makes
  refine wpAny_call (make_map0 I.kIn M.makes M.init (fun self=>PySem.W.Looks.of_pure (PySem.W.oi_bind self)) ?_)
  have t1:PySem.W.Looks (model X.prog X.w) ((s.heap.push PySem.W.emptyDict).push (PySem.W.instObj C s.heap.objs.size)) (typeOf (.ref (s.heap.objs.size+1))) (.ref C):=
    (PySem.W.Looks.ld (o:=PySem.W.instObj C s.heap.objs.size) (by have e:((s.heap.push PySem.W.emptyDict).push (PySem.W.instObj C s.heap.objs.size)).get? (s.heap.push PySem.W.emptyDict).objs.size=some (PySem.W.instObj C s.heap.objs.size):=Heap.get?_push_size _ rfl;rw[Heap.size_push]at e;exact e)).andThen .now
  have t2:PySem.W.Looks (model X.prog X.w) ((s.heap.push PySem.W.emptyDict).push (PySem.W.instObj C s.heap.objs.size)) (isInstance (.ref (s.heap.objs.size+1)) (.type "object")) true:=
    t1.andThen (Y.top.keeps fun b o e=>Heap.get?_push_of_some _ (Heap.get?_push_of_some _ e))
  refine PySem.codeAny_call_builtin PySem.W.oi_plain PySem.W.entry_oi (@PySem.W.check_slot (model X.prog X.w) _ _ _ "object.__init__" "object" "__init__" (.ref (s.heap.objs.size+1)) [] [] _ PySem.W.oi_kind PySem.W.oi_split t2 (PySem.W.oi_args (.ref (s.heap.objs.size+1))) ?_)
  rw[PySem.W.oi_run]
  exact wpAny_pure (And.intro rfl ⟨V.ref (s.heap.objs.size+1),_,I2,rfl,hq⟩)
end
mutual
inductive Is(K:PySem.W.Frag)(H:Hp):V→PyData→Prop
  | non:Is K H .non .none
  | bl (b:Bool):Is K H (.bl b) (.bool b)
  | int (i:Int):Is K H (.int i) (.int i)
  | str (x:Str):Is K H (.str x) (.str x)
  | tup {a:Addr} {xs:List V} {ds:List PyData}:SqT K H a xs→IsAll K H xs ds→Is K H (.ref a) (.tuple ds)
  | lst {a:Addr} {xs:List V} {ds:List PyData}:SqL K H a xs→IsAll K H xs ds→Is K H (.ref a) (.list ds)
inductive IsAll(K:PySem.W.Frag)(H:Hp):List V→List PyData→Prop
  | nil:IsAll K H [] []
  | cons {v:V} {vs:List V} {d:PyData} {ds:List PyData}:Is K H v d→IsAll K H vs ds→IsAll K H (v::vs) (d::ds)
end
theorem Same.tup{K:PySem.W.Frag}{H H':Hp}{a:Addr}{xs:List V}(e:Same H H')(h:SqT K H a xs):SqT K H' a xs:=by
  rcases h with (h | ⟨o,h⟩) | h
  · exact .inl (.inl (e _ _ h))
  · exact .inl (.inr ⟨o,e _ _ h⟩)
  · exact .inr h
mutual
theorem Is.same{K:PySem.W.Frag}{H H':Hp}(e:Same H H'):∀{v:V} {d:PyData},Is K H v d→Is K H' v d
  | _,_,.non=>.non
  | _,_,.bl b=>.bl b
  | _,_,.int i=>.int i
  | _,_,.str x=>.str x
  | _,_,.tup h r=>.tup (e.tup h) (IsAll.same e r)
  | _,_,.lst h r=>.lst (e.seq h) (IsAll.same e r)
theorem IsAll.same{K:PySem.W.Frag}{H H':Hp}(e:Same H H'):∀{v:List V} {d:List PyData},IsAll K H v d→IsAll K H' v d
  | _,_,.nil=>.nil
  | _,_,.cons a r=>.cons (Is.same e a) (IsAll.same e r)
end
section
variable{X:Cx}{pins:List (Addr × Obj)}{σ:St}{H:Hp}{s:Shared}
mutual
theorem Is.reads(I:Inv X pins σ H s):∀{v:V} {d:PyData} {u:Value},Is X.K H v d→RelV v u→∃as,Reads s.heap u d as
  | _,_,_,.non,r=>by cases r;exact⟨_,.none⟩
  | _,_,_,.bl b,r=>by cases r;exact⟨_,.bool b⟩
  | _,_,_,.int i,r=>by obtain⟨t,rfl⟩:=r;exact⟨_,.int i t⟩
  | _,_,_,.str x,r=>by obtain⟨t,rfl⟩:=r;exact⟨_,.str x t⟩
  | _,_,_,.tup h a,r=>by
    cases r
    obtain⟨its,rv,⟨o,ho,hc,n,hd⟩,_⟩:=I.tuple h
    obtain⟨as,hr⟩:=IsAll.reads I a rv
    exact⟨as,.tuple ho hc hd (by simpa using hr)⟩
  | _,_,_,.lst h a,r=>by
    cases r
    obtain⟨its,rv,⟨o,n,ho,hc,_,hd⟩,_⟩:=I.list h
    obtain⟨as,hr⟩:=IsAll.reads I a rv
    exact⟨_,.list ho hc hd (by simpa using hr)⟩
theorem IsAll.reads(I:Inv X pins σ H s):∀{vs:List V} {ds:List PyData} {us:List Value},IsAll X.K H vs ds→Vals vs us→∃as,ReadsAll s.heap us ds as
  | _,_,_,.nil,.nil=>⟨_,.nil⟩
  | _,_,_,.cons a r,.cons q t=>by
    obtain⟨as,h1⟩:=Is.reads I a q
    obtain⟨bs,h2⟩:=IsAll.reads I r t
    exact⟨_,.cons h1 h2⟩
end
def rEqD(K:PySem.W.Frag):R2:=fun x y H Q=>∃d d',Is K H x d∧Is K H y d'∧shaped d=true∧shaped d'=true∧noMix d d'=true∧Q (.bl (PySem.Spec.same d d')) H
def rNeD(K:PySem.W.Frag):R2:=fun x y H Q=>∃d d',Is K H x d∧Is K H y d'∧shaped d=true∧shaped d'=true∧noMix d d'=true∧Q (.bl (!PySem.Spec.same d d')) H
theorem op_eqD(hu:X.A.units+64 < cLine):OpR X (compareOp .Eq) (rEqD X.K):=by
  intro pins s σ H x y v u Q I rx ry h
  obtain⟨d,d',hx,hy,sx,sy,nm,q⟩:=h
  obtain⟨as,ra⟩:=hx.reads I rx
  obtain⟨bs,rb⟩:=hy.reads I ry
  exact eq_dataH_same ra rb sx sy hu nm ⟨.bl _,H,I,rfl,q⟩
theorem op_neD(hu:X.A.units+64 < cLine):OpR X (compareOp .NotEq) (rNeD X.K):=by
  intro pins s σ H x y v u Q I rx ry h
  obtain⟨d,d',hx,hy,sx,sy,nm,q⟩:=h
  obtain⟨as,ra⟩:=hx.reads I rx
  obtain⟨bs,rb⟩:=hy.reads I ry
  exact ne_dataH_same ra rb sx sy hu nm ⟨.bl _,H,I,rfl,q⟩
end
theorem iteI{i j:Int}{A B:Prop}(h1:i=j→A)(h2:¬i=j→B):if decide (V.int i=V.int j)=true then A else B:=by
  by_cases h:i=j
  · rw[if_pos (decide_eq_true (congrArg V.int h))];exact h1 h
  · rw[if_neg (by simpa using h)];exact h2 h
theorem iteNI{i j:Int}{A B:Prop}(h1:¬i=j→A)(h2:i=j→B):if(!decide (V.int i=V.int j))=true then A else B:=by
  by_cases h:i=j
  · rw[if_neg (by simpa using h)];exact h2 h
  · rw[if_pos (by simpa using h)];exact h1 h
theorem iteP{p A B:Prop} [Decidable p](h1:p→A)(h2:¬p→B):if decide p=true then A else B:=by
  by_cases h:p
  · rw[if_pos (decide_eq_true h)];exact h1 h
  · rw[if_neg (by simpa using h)];exact h2 h
theorem same_upd{H:Hp}{p:Addr}{o:HO}(h:H p=none):Same H (upd H p o):=fun b u e=>by
  rw[upd_ne (ne_of_none e h)];exact e
end L2
namespace L2
open PySem PySem.Spec PyProof.Rows
section
variable{P:Program}{w:World}{H H':Hp}{h h':Heap}
theorem HOk.there(x:HOk P w H h){a:Addr}{o:HO}(e:H a=some o):∃ob,h.get? a=some ob:=by
  have y:=x a o e
  clear e x
  induction o with
  | lst xs=>obtain⟨_,its,n,r,e⟩:=y;exact⟨_,e⟩
  | tup xs=>obtain⟨_,its,r,⟨ob,e,c⟩,_⟩:=y;exact⟨_,e⟩
  | dK kvs=>obtain⟨_,_,vs,r,ob,es,ep,e,c⟩:=y;exact⟨_,e⟩
  | dT kvs=>obtain⟨_,_,xs,r,ob,es,ep,e,c⟩:=y;exact⟨_,e⟩
  | set S n=>obtain⟨ob,es,ep,t,e,c⟩:=y;exact⟨_,e⟩
  | ins C dx fs=>obtain⟨d,z,ne,e,_⟩:=y;exact⟨_,e⟩
  | own y'=>exact y
  | xd fs=>obtain⟨mA,⟨od,es,ep,e,c⟩,r⟩:=y;exact⟨_,e⟩
  | rng lo hi=>obtain⟨t,u,v,e⟩:=y;exact⟨_,e⟩
  | frz ob u ih=>exact⟨_,y.1⟩
  | tbl ps=>exact⟨_,y⟩
  | met f y'=>exact⟨_,y⟩
  | ext φ=>exact y.2.1
theorem HOk.nothing(x:HOk P w H h){a:Addr}(n:h.get? a=none):H a=none:=by
  cases q:H a with
  | none=>rfl
  | some o=>obtain⟨ob,e⟩:=x.there q;rw[n]at e;cases e
theorem HOk.loose(x:HOk P w H h)(k:∀b u,H b≠none→h.get? b=some u→h'.get? b=some u):HOk P w H h':=fun a o e=>
  (x a o e).stay (fun b u hb q=>k b u (by
    rcases hb with z | z
    · rw[z,e];exact nofun
    · rw[z];exact nofun) q) (fun _ q=>q) fun _ _ q=>q
def XT(h:Heap)(a T C:Addr):Prop:=∃oe vs a0 oT ts,h.get? a=some oe∧(oe.cls=.ref C∧vs[0]? = some a0)∧oe.data=.fields vs∧vs[1]? = some (.ref T)∧T≠a∧h.get? T=some oT∧oT.data=.fields ts∧ts[3]? = some .none
structure Fly(P:Program)(w:World)(fs:List Addr)(H H':Hp)(s s':Shared)(a T C:Addr):Prop where
  os:s'.os=s.os
  bare:AllBare s'.gens
  un:Un fs [] H H' s.heap s'.heap
  hok:HOk P w H' s'.heap
  xt:XT s'.heap a T C
  na:s.heap.get? a=none
  nT:s.heap.get? T=none
  ha:H' a=none
  hT:H' T=none
def CX1(P:Program)(w:World):CXT:=fun outer H s E e s'=>∃a T C H',e=.ref a∧Fly P w (frs outer) H H' s s' a T C∧E (.ref C) none H'
theorem funs_rebase{h base base':Heap}:∀{l:List Env},h.FunFrames base l→(∀b∈frs l,base'.get? b=none)→h.FunFrames base' l
  | [],_,_=>trivial
  | env::r,⟨k,⟨L,o,hf,_,ho,hd⟩,t⟩,hb=>⟨k,⟨L,o,hf,hb L (by unfold frs;rw[List.filterMap_cons,hf];exact List.mem_cons_self),ho,hd⟩,
      funs_rebase t fun b hm=>hb b (by unfold frs;rw[List.filterMap_cons,hf];exact List.mem_cons_of_mem _ hm)⟩
abbrev hid(h:Heap)(a T:Addr)(fs:List Addr):Heap:=PySem.W.hideAll h (a::T::fs)
end
section
variable{P:Program}{w:World}{H H':Hp}{s s':Shared}{a T C:Addr}{l:List Env}{base0:Heap}
theorem Fly.base(F:Fly P w (frs l) H H' s s' a T C)(ff:s'.heap.FunFrames base0 l):∃a0,Heap.FlyingW (hid s'.heap a T (frs l)) l a (.ref C) a0 s'.heap:=by
  obtain⟨oe,vs,a0,oT,ts,e1,e2,e3,e4,e5,e6,e7,e8⟩:=F.xt
  exact⟨a0,fun b o e=>PySem.W.of_hideAll _ e,PySem.W.hideAll_none _ (by simp),funs_rebase ff fun b hb=>PySem.W.hideAll_none _ (by simp[hb]),
    oe,vs,T,oT,ts,e1,e2,e3,e4,PySem.W.hideAll_none _ (by simp),e5,e6,e7,e8⟩
theorem Fly.back{l':List Env}{h':Heap}{a0:Value}{tk:Nat}(F:Fly P w (frs l) H H' s s' a T C)(ff:s'.heap.FunFrames base0 l)(fH:∀b∈frs l,H' b=none)
    (fl:Heap.FlyingW (hid s'.heap a T (frs l)) l' a (.ref C) a0 h') (up:s'.heap.UpToSlots h'):∃T',Fly P w (frs l) H H' s { s' with heap:=h',toks:=tk } a T' C:=by
  obtain⟨k1,_,_,oe,vs,T',oT,ts,e1,e2,e3,e4,e0,e5,e6,e7,e8⟩:=fl
  have keep:∀b o,s'.heap.get? b=some o→b≠a→b≠T→b ∉ frs l→h'.get? b=some o:=fun b o e n1 n2 n3=>k1 b o (PySem.W.hideAll_get _ e (by simp[n1,n2,n3]))
  have slot:∀b o,s'.heap.get? b=some o→b∈frs l→(∃sl,h'.get? b=some { o with slots:=sl })∧∀vs,o.data≠.fields vs:=fun b o e hb=>by
    obtain⟨_,o1,q1,q2⟩:=ff.mem hb
    rw[e]at q1;cases q1
    exact⟨up b o e q2,q2⟩
  have nf:T' ∉ frs l:=fun hb=>by
    obtain⟨_,o1,q1,q2⟩:=ff.mem hb
    obtain⟨sl,q3⟩:=up _ o1 q1 q2
    rw[e6]at q3;cases q3
    exact q2 _ e7
  have tt:T'=T∨s'.heap.get? T'=none:=by
    by_cases z:T'=T
    · exact .inl z
    · right
      cases q:s'.heap.get? T' with
      | none=>rfl
      | some o=>
        have:=PySem.W.hideAll_get (a::T::frs l) q (by simp[e5,z,nf])
        rw[e0]at this;cases this
  have hT':H' T'=none:=by
    rcases tt with z | z
    · rw[z];exact F.hT
    · exact F.hok.nothing z
  have nT':s.heap.get? T'=none:=by
    rcases tt with z | z
    · rw[z];exact F.nT
    · cases q:s.heap.get? T' with
      | none=>rfl
      | some o=>
        obtain⟨o',q'⟩:=F.un.there _ o q (by simp)
        rw[z]at q';cases q'
  have ne:∀b o,s.heap.get? b=some o→b≠a∧b≠T:=fun b o e=>⟨(fun z=>by rw[z,F.na]at e;cases e),(fun z=>by rw[z,F.nT]at e;cases e)⟩
  refine⟨T',F.os,F.bare,⟨fun b o e n hb hx=>?_,fun b o e n hb hx=>?_,F.un.free,fun b o e hx=>?_,F.un.tups,F.un.frzs,F.un.tbls⟩,F.hok.loose fun b u hb e=>?_,⟨oe,vs,a0,oT,ts,e1,e2,e3,e4,e5,e6,e7,e8⟩,F.na,nT',F.ha,hT'⟩
  · exact keep b o (F.un.keep b o e n hb hx) (ne b o e).1 (ne b o e).2 hb
  · obtain⟨sl,q⟩:=F.un.slot b o e n hb hx
    obtain⟨⟨sl',q'⟩,_⟩:=slot b _ q hb
    exact⟨sl',q'⟩
  · obtain⟨o',q⟩:=F.un.there b o e hx
    by_cases hb:b∈frs l
    · obtain⟨⟨sl,q'⟩,_⟩:=slot b o' q hb
      exact⟨_,q'⟩
    · exact⟨o',keep b o' q (ne b o e).1 (ne b o e).2 hb⟩
  · exact keep b u e (fun z=>hb (z▸F.ha)) (fun z=>hb (z▸F.hT)) fun z=>hb (fH b z)
def ExcO(a C:Addr):HO:=.ext fun h=>∃o,h.get? a=some o∧o.cls=.ref C
theorem Fly.un'(F:Fly P w (frs l) H H' s s' a T C):Un (frs l) [] H (upd H' a (ExcO a C)) s.heap s'.heap where
  keep:=F.un.keep
  slot:=F.un.slot
  free:=fun b o e n hx=>by rw[upd_ne (fun z=>by rw[z,F.na]at e;cases e)];exact F.un.free b o e n hx
  there:=F.un.there
  tups:=fun b xs e=>by have:=F.un.tups b xs e;rw[upd_ne (ne_of_none this F.ha)];exact this
  frzs:=fun b o u e=>by have:=F.un.frzs b o u e;rw[upd_ne (ne_of_none this F.ha)];exact this
  tbls:=fun b ps e=>by obtain⟨m,q⟩:=F.un.tbls b ps e;exact⟨m,by rw[upd_ne (ne_of_none q F.ha)];exact q⟩
theorem Fly.hok'(F:Fly P w (frs l) H H' s s' a T C):HOk P w (upd H' a (ExcO a C)) s'.heap:=fun b o e=>by
  by_cases z:b=a
  · subst z
    rw[upd_same]at e;cases e
    obtain⟨oe,vs,a0,oT,ts,e1,e2,_⟩:=F.xt
    exact⟨⟨oe,e1,e2.1⟩,⟨oe,e1⟩,fun h1 h2 ⟨o,q1,q2⟩ k=>⟨o,k o q1,q2⟩⟩
  · rw[upd_ne z]at e
    exact(F.hok b o e).stay (fun _ _ _ q=>q) (fun c q=>by rw[upd_ne (ne_of_none q F.ha)];exact q) fun c xs q=>by rw[upd_ne (ne_of_none q F.ha)];exact q
end
def XP(X:Cx)(pins:List (Addr × Obj))(σ:St)(E:XK)(e:Value)(s':Shared):Prop:=∃s H,Inv X pins σ H s∧CX1 X.prog X.w X.stack H s E e s'
structure Thru(X:Cx)(E:XK):Prop where
  stk:X.stack=X.env::X.outer
  fr:X.env.frame=some X.env.locals
  ex:X.ex=[]
  xe:X.xe=fun e s'=>wpAny (model X.prog X.w) X.A (leaving X.env e) (fun _ s''=>CX1 X.prog X.w X.outer X.H₀ X.s₀ E e s'') (fun e' s''=>CX1 X.prog X.w X.outer X.H₀ X.s₀ E e' s'') s'
section
variable{X:Cx}{pins:List (Addr × Obj)}{σ:St}{H:Hp}{s s':Shared}{E:XK}{e:Value}
theorem Fly.inv{H':Hp}{a T C:Addr}(I:Inv X pins σ H s)(F:Fly X.prog X.w (frs X.stack) H H' s s' a T C):Inv X pins σ H' s':=I.call' F.os F.un F.hok F.bare (ch:=[]) (fun _ z=>absurd z (by simp))
theorem Fly.inv'{H':Hp}{a T C:Addr}(I:Inv X pins σ H s)(F:Fly X.prog X.w (frs X.stack) H H' s s' a T C):Inv X pins σ (upd H' a (ExcO a C)) s':=I.call' F.os F.un' F.hok' F.bare (ch:=[]) (fun _ z=>absurd z (by simp))
theorem Fly.out{H':Hp}{a T C:Addr}(R:Thru X E)(I:Inv X pins σ H s)(F:Fly X.prog X.w (frs X.stack) H H' s s' a T C)(q:E (.ref C) none H'):CX1 X.prog X.w X.outer X.H₀ X.s₀ E (.ref a) s':=by
  have fsub:∀b∈frs X.outer,b∈frs X.stack:=fun b hb=>by rw[R.stk];unfold frs;rw[List.filterMap_cons,R.fr];exact List.mem_cons_of_mem _ hb
  have u0:Un (frs X.stack) [] X.H₀ H X.s₀.heap s.heap:=I.base.mono fsub (by rw[R.ex];simp)
  have u1:=u0.trans F.un
  have neL:∀b o,X.s₀.heap.get? b=some o→b≠X.env.locals:=fun b o e=>Nat.ne_of_lt (Nat.lt_of_lt_of_le (Heap.lt_size e) I.ok.above)
  have nin:∀b o,X.s₀.heap.get? b=some o→b ∉ frs X.outer→b ∉ frs X.stack:=fun b o e hb hm=>by
    rw[R.stk]at hm
    unfold frs at hm
    rw[List.filterMap_cons,R.fr]at hm
    rcases List.mem_cons.mp hm with z | z
    · exact neL b o e z
    · exact hb z
  have none0:∀b,s.heap.get? b=none→X.s₀.heap.get? b=none:=fun b n=>by
    cases q:X.s₀.heap.get? b with
    | none=>rfl
    | some o=>
      obtain⟨o',q'⟩:=I.base.there b o q (by rw[R.ex];simp)
      rw[n]at q';cases q'
  exact⟨a,T,C,H',rfl,⟨F.os.trans I.os,F.bare,⟨fun b o e n hb hx=>u1.keep b o e n (nin b o e hb) hx,fun b o e n hb hx=>u1.slot b o e n (fsub b hb) hx,u1.free,u1.there,u1.tups,u1.frzs,u1.tbls⟩,F.hok,F.xt,none0 a F.na,none0 T F.nT,F.ha,F.hT⟩,q⟩
theorem XP.leave(R:Thru X E)(x:XP X pins σ E e s'):X.xe e s':=by
  obtain⟨s,H,I,a,T,C,H',rfl,F,q⟩:=x
  have J:=F.inv I
  obtain⟨a0,fl⟩:=F.base J.stack
  rw[R.xe]
  rw[R.stk]at fl
  refine wpAny_leaves_onW (J.ok.frames.trans (by rw[R.stk])) R.fr fl fun h' fl' up=>?_
  rw[← R.stk]at fl'
  obtain⟨T',F'⟩:=F.back (tk:=s'.toks) J.stack J.stkFree fl' up
  exact F'.out R I q
theorem made_leave{h':Heap}{a C:Addr}{vs:List Value}(R:Thru X E)(I:Inv X pins σ H s)(m:Heap.MadeExcOf s.heap h' a (.ref C) vs)(q:E (.ref C) none H):X.xe (.ref a) { s with heap:=h' }:=by
  have J:Inv X pins σ H { s with heap:=h' }:=I.kept (t':=s.toks) m.keeps
  obtain⟨t,he,htn,ht⟩:=m.there
  have ha:H a=none:=I.hok.nothing m.new
  rw[R.xe]
  have ff:h'.FunFrames (hid h' a a (frs X.stack)) X.stack:=funs_rebase J.stack fun b hb=>PySem.W.hideAll_none _ (by simp[hb])
  have ff':h'.FunFrames (hid h' a a (frs X.stack)) (X.env::X.outer):=by
    have z:=J.stack
    rw[R.stk]at z
    exact funs_rebase z fun b hb=>PySem.W.hideAll_none _ (by rw[R.stk];simp[hb])
  refine wpAny_leaving_firstW (a0:=.ref t) (base:=hid h' a a (frs X.stack)) (J.ok.frames.trans (by rw[R.stk])) ff' R.fr he (fun b o e=>PySem.W.of_hideAll _ e) (PySem.W.hideAll_none _ (by simp)) rfl rfl rfl fun h2 hL=>?_
  obtain⟨k1,_,⟨oe,ws,T',oT,ts,e1,e2,e3,e4,e0,e5,e6,e7,e8⟩,k4⟩:=hL
  have ffm:∀b∈frs X.stack,∃o,h'.get? b=some o∧∀vs,o.data≠.fields vs:=fun b hb=>(ff.mem hb).2
  have keep:∀b o,h'.get? b=some o→b≠a→b ∉ frs X.stack→h2.get? b=some o:=fun b o e n1 n3=>k1 b o (PySem.W.hideAll_get _ e (by simp[n1,n3]))
  have nf:T' ∉ frs X.stack:=fun hb=>by
    obtain⟨o1,q1,q2⟩:=ffm _ hb
    obtain⟨sl,q3⟩:=k4 _ o1 q1 q2
    rw[e6]at q3;cases q3
    exact q2 _ e7
  have nT:h'.get? T'=none:=by
    cases q:h'.get? T' with
    | none=>rfl
    | some o=>
      have:=PySem.W.hideAll_get (a::a::frs X.stack) q (by simp[e5,nf])
      rw[e0]at this;cases this
  have ne:∀b o,s.heap.get? b=some o→b≠a:=fun b o e z=>by rw[z,m.new]at e;cases e
  have F':Fly X.prog X.w (frs X.stack) H H s { s with heap:=h2 } a T' C:=by
    refine⟨rfl,I.bare,⟨fun b o e n hb hx=>keep b o (m.keeps b o e) (ne b o e) hb,fun b o e n hb hx=>?_,fun _ _ _ n _=>n,fun b o e hx=>?_,fun _ _ e=>e,fun _ _ _ e=>e,fun b ps e=>⟨#[],by rw[e];simp⟩⟩,J.hok.loose fun b u hb e=>keep b u e (fun z=>hb (z▸ha)) fun z=>hb (J.stkFree b z),
      ⟨oe,ws,_,oT,ts,e1,e2,e3,e4,e5,e6,e7,e8⟩,m.new,?_,ha,J.hok.nothing nT⟩
    · obtain⟨o1,q1,q2⟩:=ffm b hb
      have q3:=m.keeps b o e
      rw[q1]at q3;cases q3
      exact k4 b _ q1 q2
    · by_cases hb:b∈frs X.stack
      · obtain⟨o1,q1,q2⟩:=ffm b hb
        obtain⟨sl,q3⟩:=k4 b o1 q1 q2
        exact⟨_,q3⟩
      · exact⟨o,keep b o (m.keeps b o e) (ne b o e) hb⟩
    · cases q:s.heap.get? T' with
      | none=>rfl
      | some o=>rw[m.keeps _ o q]at nT;cases nT
  exact F'.out R I q
end
end L2
namespace L2
open PySem PySem.Spec PyProof.Rows
abbrev bmV:List Value:=[.type "ValueError",.type "Exception",.type "BaseException",.type "object"]
theorem excIn_obj{K:PySem.W.Frag}{h:Heap}{C:Addr}{bmB:List Value}{newId:String}(X:K.In h)(q:PySem.W.excIn K C bmB newId=true) :
    ∃bm N nm q bs hdct sn sub ab col dd k0 k1 k2 k3 k5 mN,h.get? C=some (excClassObj nm q C N bs bm hdct sn sub ab col dd k0 k1 k2 k3 k5 newId)∧h.Ns N mN∧mN "__init__"=none∧OwnTail h bmB bm:=by
  unfold PySem.W.excIn at q
  split at q
  · rename_i dd cd sl ho
    split at q
    · rename_i C' bm k0 k1 k2 k3 n k5 hm hs
      simp only[Bool.and_eq_true,beq_iff_eq,Bool.not_eq_true']at q
      obtain⟨⟨⟨⟨⟨rfl,rfl⟩,hdel⟩,ht⟩,hok⟩,hni⟩:=q
      obtain⟨nm,bs,mro,ns,qn,hd,sn,sub,ab,col,del⟩:=cd
      dsimp only at hm hdel hok hni
      subst hm hdel
      have hsl:sl=#[k0,k1,k2,k3,some (.builtin n),k5]:=by
        obtain⟨l⟩:=sl
        simp only at hs
        rw[hs]
      subst hsl
      exact⟨bm,ns,nm,qn,bs,hd,sn,sub,ab,col,dd,k0,k1,k2,k3,k5,_,X _ _ ho,.of_isNs (PySem.W.isNs_of_in X hok),PySem.W.nsMap_none_of_in X hok hni,PySem.W.tail_of_in X ht⟩
    · cases q
  · cases q
theorem FnOk.quiet{P:Program}{w:World}{K:PySem.W.Frag}{mg:Str→Option Value}{base:Heap}{k:Nat}{f:Addr}{fd:FuncData}{ps:List Str}{sp:Sp}(F:FnOk P w K mg base (CX1 P w) k f fd ps sp) :
    FnOk P w K mg base CX0 k f fd ps (fun vs H Q _=>sp vs H Q E0):=
  ⟨fun vs H Q _ h=>F.len vs H Q E0 h,fun A outer s H args us vs Q E hr e0 hb r h=>codeAny_mono (F.run A outer s H args us vs Q E0 hr e0 hb r h) fun r s' hq=>by
    cases r with
    | error e=>obtain⟨_,_,_,_,_,_,z⟩:=hq;exact z.elim
    | ok fl=>cases fl <;>exact hq⟩
section
variable{P:Program}{w:World}{K:PySem.W.Frag}{mg:Str→Option Value}{base:Heap}
theorem Fun.okx{x qual:Str}{st:Stmt}{f:Addr}{fd:FuncData}{N ps:List Str}{k:Nat}{sp:Sp}(F:Fun K x qual st f fd)(S:FnScope N ps (defScope st))(len:∀vs H Q E,sp vs H Q E→vs.length=ps.length)
    (hbody:∀(cdv:Value) (A:Around) (outer:List Env) (s:Shared) (H:Hp) (vs:List V) (Q:VK) (E:XK),Room k (A.deeper (envOfC qual (defScope st) s.heap.objs.size f cdv))→sp vs H Q E→
      ∃t,PSs (cxOf (CX1 P w) P w K mg base N qual (defScope st) f cdv A outer s H E) (defBody st) t∧t { nx:=fun _ H'=>Q .non H',rt:=Q } (start N vs) H):FnOk P w K mg base (CX1 P w) (k+1) f fd ps sp:=by
  obtain⟨oc,od,kV,doc,pm,an,cdv,ct,osl,rfl,lk,hcd⟩:=F.ex
  exact fn_of lk hcd S len fun A outer s H vs Q E hr hsp=>hbody cdv A outer s H vs Q E hr hsp
theorem Thru.own{X:Cx}{E:XK}(R:Thru X E):PassesOwn (model X.prog X.w) X.A X.env X.xe:=by rw[R.xe];exact PassesOwn.leaving
theorem thru_cx{N:List Str}{qual:Str}{scope:Scope}{f:Addr}{cd:Value}{A:Around}{outer:List Env}{s:Shared}{H:Hp}{E:XK}:Thru (cxOf (CX1 P w) P w K mg base N qual scope f cd A outer s H E) E:=⟨rfl,rfl,rfl,rfl⟩
end
abbrev TX:=St→Hp→VK→XK→Prop
abbrev TSX:=Ends→XK→St→Hp→Prop
def PEX(X:Cx)(e:Expr)(t:TX):Prop:=
  ∀(pins:List (Addr × Obj)) (s:Shared) (σ:St) (H:Hp) (Q:VK) (E:XK),Inv X pins σ H s→t σ H Q E→wpAny (model X.prog X.w) X.A (eval e X.env) (EP X pins σ Q) (XP X pins σ E) s
def PSX(X:Cx)(st:Stmt)(t:TSX):Prop:=
  ∀(pins:List (Addr × Obj)) (s:Shared) (σ:St) (H:Hp) (D:Ends) (E:XK),Inv X pins σ H s→t D E σ H→wpAny (model X.prog X.w) X.A (exec st X.env) (SP X pins D) (XP X pins σ E) s
def PSXs(X:Cx)(st:List Stmt)(t:TSX):Prop:=
  ∀(pins:List (Addr × Obj)) (s:Shared) (σ:St) (H:Hp) (D:Ends) (E:XK),Inv X pins σ H s→t D E σ H→wpAny (model X.prog X.w) X.A (execs st X.env) (SP X pins D) (XP X pins σ E) s
section
variable{X:Cx}{k:Nat}{f C:Addr}{fd:FuncData}{ps:List Str}{sp:Sp}{dvs:List V}{ds:List Value}{E:XK}{x m:Str}{p np cpos pos apos:Pos}{e o:Expr}{es:List Expr}{ta:TE}{t:TA}{tx:TX}
theorem PEX.thru(R:Thru X E)(h:PEX X e tx):PE X e (fun σ H Q=>tx σ H Q E):=fun pins s σ H Q I q=>wpAny_mono (h pins s σ H Q E I q) (fun _ _ z=>z) fun _ _ z=>z.leave R
theorem run_fnX{pins:List (Addr × Obj)}{σ:St}{H:Hp}{s:Shared}{Q:VK}{us:List Value}{vs:List V}(F:FnOk X.prog X.w X.K X.mg X.base (CX1 X.prog X.w) k f fd ps sp)(hr:Room k X.A)(hb:Binds X.K fd ps ds)(hd:Vals dvs ds)
    (I:Inv X pins σ H s) (r:Vals vs us) (h:sp (vs++dvs) H Q E):wpAny (model X.prog X.w) X.A (call (.ref f) us) (EP X pins σ Q) (XP X pins σ E) s:=by
  have r2:Vals (vs++dvs) (us++ds):=r.append hd
  have hl:(us++ds).length=ps.length:=by rw[← r2.length];exact F.len _ _ _ _ h
  refine wpAny_call (codeAny_mono (F.run X.A X.stack s H ⟨us,[]⟩ (us++ds) (vs++dvs) Q E hr I.env0 (hb s us I.kIn hl) r2 h) fun r s' hq=>?_)
  cases r with
  | error e=>exact⟨s,H,I,hq⟩
  | ok fl=>
    cases fl with
    | ret u=>exact I.after hq
    | next=>exact False.elim hq
    | brk=>exact False.elim hq
    | cont=>exact False.elim hq
theorem px_call(F:FnOk X.prog X.w X.K X.mg X.base (CX1 X.prog X.w) k f fd ps sp)(hr:Room k X.A)(hg:Gl X x)(hm:X.mg x=some (.ref f))(hk:PySem.W.keepIn X.K (.ref f)=true)(hb:Binds X.K fd ps ds)(hd:Vals dvs ds)
    (ha:PA X.nox (e::es) t) (hdb:(x == ("__debug__":Str))=false:=by decide) (he:starEach (e::es) X.env=(false,eval e X.env)::starEach es X.env:=by rfl) (hpl:(backTo pos (starEach es X.env)).any (·.1)=false:=by rfl) :
    PEX X (.Call (.Name x p) (e::es) [] pos) (fun σ H Q E=>tCall sp dvs E t σ H Q):=by
  intro pins s σ H Q E I h
  refine wpAny_Call_Name_kw (ld_glob I hg hm ?_ hdb)
  exact PySem.W.callWith_K (h₀:=X.base) I.ok.mod.kin hk (wpAny_mono (ha pos pins s σ H _ (I.wish _) h) (fun us s1 ⟨vs,H1,I1,r,q⟩=>⟨I1.unwish.kIn,run_fnX F hr hb hd I1.unwish r q⟩) fun _ _ z=>z.elim) he hpl
def tRaise(E:XK)(C:Addr)(t:TA):TS:=fun _ σ H=>t σ H fun vs H1=>vs.length≤sizeLine∧E (.ref C) none H1
theorem ps_raise(R:Thru X E)(hc:X.calm=true)(q:PySem.W.excIn X.K C bmV "ValueError.__new__"=true)(hg:Gl X x)(hm:X.mg x=some (.ref C))(ha:PA X.nox (e::es) t)
    (hdb:(x == ("__debug__":Str))=false:=by decide) (he:starEach (e::es) X.env=(false,eval e X.env)::starEach es X.env:=by rfl) (hpl:(backTo cpos (starEach es X.env)).any (·.1)=false:=by rfl) :
    PS X (.Raise (some (.Call (.Name x np) (e::es) [] cpos)) none pos) (tRaise E C t):=by
  intro pins s σ H D I h
  obtain⟨bm,N,nm,qn,bs,hdct,sn,sub,ab,col,dd,k0,k1,k2,k3,k5,mN,hC,hN,hni,T⟩:=excIn_obj I.mod.kin q
  have hh:X.A.handled=none:=I.ok.hd hc
  have ev:=ha cpos pins s σ H _ (I.wish _) h
  refine wpAny_Raise_call_subU (C:=C) (nm:=nm) (q:=qn) (N:=N) (bs:=bs) (bm:=bm) (hdct:=hdct) (sn:=sn) (sub:=sub) (ab:=ab) (col:=col) (dd:=dd) (k0:=k0) (k1:=k1) (k2:=k2) (k3:=k3) (k5:=k5)
    PySem.F.excBase_ValueError (by decide) PySem.F.excBase_ValueError (mN:=mN) (T.hasType PySem.F.excBase_ValueError.hasBase) hh (by rw[he];show(false || (backTo cpos (starEach es X.env)).any (·.1))=false;rw[hpl];rfl) hni (ld_glob I hg hm ⟨rfl,?_⟩ hdb)
  rw[he]
  change wpAny _ _ (spliced (backTo cpos (starEach (e::es) X.env))) _ _ _ at ev
  rw[he]at ev
  refine Calls.evalArgs_plain (wpAny_mono ev (fun us s2 ⟨vs,H1,I1,r,hl,q2⟩=>?_) fun _ _ z=>z.elim)
  have J:Inv X pins σ H1 s2:=I1.unwish
  exact⟨rfl,by rw[← r.length];exact hl,J.bk _ _ hC,hN.keeps J.bk,T.keeps J.bk,fun h' a m=>made_leave R J m q2⟩
end
end L2
namespace L2
open PySem PySem.Spec PyProof.Rows
abbrev Cx.caught(X:Cx)(a:Addr):Cx:={ X with A:=X.A.mark (some (.ref a)),calm:=false,xe:=fun _ _=>False }
section
variable{X:Cx}{pins:List (Addr × Obj)}{σ:St}{H:Hp}{s:Shared}{a:Addr}
theorem Inv.catch(I:Inv X pins σ H s)(a:Addr):Inv (X.caught a) pins σ H s:=
  ⟨⟨I.ok.mod,I.ok.kind,I.ok.glob,I.ok.blt,I.ok.above,I.ok.inj,I.ok.has,I.ok.cab,(fun z=>by cases z),I.ok.frames,I.ok.stk,I.ok.exf,I.ok.bs,I.ok.bsz,I.ok.noex,I.ok.exfs,I.ok.funs,I.ok.frf⟩,I.os,I.bare,I.base,I.loc,I.cell,I.free,I.freeC,I.pin,I.hok,I.len⟩
theorem Inv.uncatch(ok:X.Ok)(I:Inv (X.caught a) pins σ H s):Inv X pins σ H s:=⟨ok,I.os,I.bare,I.base,I.loc,I.cell,I.free,I.freeC,I.pin,I.hok,I.len⟩
theorem Inv.unset{i:Nat}{n:Str}{m:Str→Option Value}{v:Option Value}{h':Heap}{tk:Nat}(I:Inv X pins σ H s)(hN:X.N.Nodup)(hi:X.N[i]? = some n)(hk:X.env.kindOf n=some .local)
    (hl:∀(j:Nat) (x:Str) (v:V),X.N[j]? = some x→σ[j]? = some (some v)→Vis X.env.scope x→∃u,RelV v u∧Look X.env s.heap m x u)
    (hn':h'.Ns X.env.locals (fun x=>if x=n then v else m x)) (hs:Heap.SameBut X.env.locals s.heap h'):Inv X pins (σ.set i none) H { s with heap:=h',toks:=tk }:=by
  have cne:=I.cne
  have hiσ:i < σ.length:=by rw[I.len];exact(List.getElem?_eq_some_iff.mp hi).1
  have nb:∀b o,X.s₀.heap.get? b=some o→b≠X.env.locals:=fun b o e=>Nat.ne_of_lt (Nat.lt_of_lt_of_le (Heap.lt_size e) I.ok.above)
  refine⟨I.ok,I.os,I.bare,⟨fun b o e n hb hx=>?_,fun b o e n hb hx=>?_,I.base.free,fun b o e hx=>?_,I.base.tups,I.base.frzs,I.base.tbls⟩,⟨_,hn',fun j y v' e1 e2 e3=>?_⟩,fun y c e=>?_,I.free,I.freeC,fun p hp=>?_,I.hok.loose fun b u hb e=>?_,by simpa using I.len⟩
  · exact(hs.2 b (nb b o e)).trans (I.base.keep b o e n hb hx)
  · obtain⟨sl,e1⟩:=I.base.slot b o e n hb hx
    exact⟨sl,(hs.2 b (nb b o e)).trans e1⟩
  · obtain⟨o',e1⟩:=I.base.there b o e hx
    exact⟨o',(hs.2 b (nb b o e)).trans e1⟩
  · by_cases hj:j=i
    · subst hj
      rw[List.getElem?_set_self hiσ]at e2
      cases e2
    · rw[List.getElem?_set_ne (Ne.symm hj)]at e2
      obtain⟨u',r',q⟩:=hl j y v' e1 e2 e3
      refine⟨u',r',?_⟩
      rcases q with ⟨k,e⟩ | ⟨k,c,e,z⟩
      · refine .inl ⟨k,?_⟩
        have:y≠n:=fun e=>hj (nodup_ix hN e1 (e▸hi))
        simp[this,e]
      · exact .inr ⟨k,c,e,z.sameBut hs (cne y c e)⟩
  · obtain⟨w',z⟩:=I.cell y c e
    exact⟨w',z.sameBut hs (cne y c e)⟩
  · obtain⟨e,n,ne,nf,d⟩:=I.pin p hp
    exact⟨(hs.2 p.1 ne).trans e,n,ne,nf,d⟩
  · exact(hs.2 b fun z=>hb (z▸I.free)).trans e
end
abbrev Ends.gone(D:Ends)(i:Nat):Ends:={ nx:=fun σ H=>D.nx (σ.set i none) H,rt:=D.rt,bk:=fun σ H=>D.bk (σ.set i none) H,ct:=fun σ H=>D.ct (σ.set i none) H }
def tTry(K:PySem.W.Frag)(Cc:Addr)(i:Nat)(tb:TSX)(ts:TS):TS:=fun D σ H=>tb D (fun cls _ H'=>∃C,cls=.ref C∧PySem.W.exmOne K (.ref C) (.ref Cc)=some true∧
  ∀a,H' a=none→ts (D.gone i) (σ.set i (some (.ref a))) (upd H' a (ExcO a C))) σ H
section
variable{X:Cx}{e:Expr}{te:TE}{tx:TX}{pos:Pos}{st:Stmt}{t u:TSX}
theorem psx_one(h:PSX X st t):PSXs X [st] t:=by
  intro pins s σ H D E I q
  refine wpAny_execs_cons (thn (h pins s σ H D E I q) fun f s1 q=>?_)
  cases f with
  | next=>exact wpAny_execs_nil q
  | ret v=>exact q
  | brk=>exact q
  | cont=>exact q
theorem psx_set{i:Nat}{x:Str}{pos':Pos}(hN:X.N.Nodup)(hi:X.N[i]? = some x)(hx:Loc X.env.scope x)(he:PEX X e tx)(hs:swapsWith e (some (.Name x pos')) pos.line X.env=pure false:=by rfl)
    (hf:X.fn x=true∨X.env.scope.names.lookup x=some .local:=by first | exact .inl rfl | exact .inr rfl | assumption):PSX X (.Assign [.Name x pos'] e pos) (fun D E σ H=>tx σ H (fun v H1=>D.nx (σ.set i (some v)) H1) E):=by
  intro pins s σ H D E I h
  refine wpAny_Assign_Name (thn (he pins s σ H _ E I h) fun v s1 ⟨y,H1,I1,r1,q1⟩=>?_) hs
  exact store_ok I1 hN hi hx r1 (fun s2 I2=>⟨_,H1,I2,q1⟩) hf
theorem ps_try{body:List Stmt}{c n:Str}{np hpos:Pos}{b₀:Stmt}{suite:List Stmt}{Cc:Addr}{i:Nat}{ts:TS}(hb:PSXs X body t)(stk:X.stack=X.env::X.outer)(fr:X.env.frame=some X.env.locals)
    (hN:X.N.Nodup) (hi:X.N[i]? = some n) (hk:X.env.kindOf n=some .local) (hg:Gl X c) (hm:X.mg c=some (.ref Cc)) (hs:∀a,PSs (X.caught a) (b₀::suite) ts)
    (hdb:(c == ("__debug__":Str))=false:=by decide):PS X (.Try body [.ExceptHandler (some (.Name c np)) (some n) (b₀::suite) hpos] [] [] pos) (tTry X.K Cc i t ts):=by
  intro pins s σ H D I h
  refine wpAny_Try_except (wpAny_mono (hb pins s σ H D _ I h) (fun f s1 q=>?_) fun e s1 q=>?_)
  · cases f with
    | next=>exact wpAny_execs_nil q
    | ret v=>exact q
    | brk=>exact q
    | cont=>exact q
  · obtain⟨s0,H0,I0,a,T,C,H',rfl,F,C',eC,hx,hq⟩:=q
    cases eC
    have J:=F.inv I0
    obtain⟨a0,fl⟩:=F.base J.stack
    have hfr:X.A.frames=some (X.env::X.outer):=J.ok.frames.trans (by rw[stk])
    have fl1:=fl
    rw[stk]at fl1
    refine wpAny_looks_onW hfr fr fl1 fun h1 held up1=>?_
    refine wpAny_landsW held fun h2 fl2 up2=>?_
    have fl2':=fl2
    rw[← stk]at fl2'
    obtain⟨T2,F2⟩:=F.back (tk:=s1.toks) J.stack J.stkFree fl2' (up1.trans up2)
    have J2:Inv X pins σ H' { s1 with heap:=h2,toks:=s1.toks }:=F2.inv I0
    obtain⟨oe,vs,b0,oT,tsx,e1,e2,_⟩:=F2.xt
    have LT:PySem.W.Looks (model X.prog X.w) h2 (typeOf (.ref a)) (.ref C):=e2.1▸(PySem.W.Looks.ld e1).andThen .now
    refine wpAny_handleBy_cons (codeAny_handlers_test (ld_glob (X:=X.caught a) (s:={ s1 with heap:=h2,toks:=s1.toks }) (J2.catch a) hg hm ?_ hdb)) (by intro q;cases q)
    refine(PySem.W.exm_one (M:=model X.prog X.w) J2.kIn LT hx).here ?_
    refine codeAny_handlers_suite_as ?_
    refine lands_againW fl2 fun h3 fl3 up3=>?_
    have fl3':=fl3
    rw[← stk]at fl3'
    obtain⟨T3,F3⟩:=F.back (tk:=s1.toks) J.stack J.stkFree fl3' ((up1.trans up2).trans up3)
    have J3:Inv X pins σ (upd H' a (ExcO a C)) { s1 with heap:=h3,toks:=s1.toks }:=F3.inv' I0
    refine store_ok (X:=X) (v:=.ref a) J3 hN hi (.inl hk) rfl (fun s4 J4=>?_) (.inr hk)
    refine wpAny_mono (hs a pins s4 _ _ (D.gone i) (J4.catch a) (hq a F.ha)) (fun fl s5 q=>?_) fun _ _ z=>z.elim
    have cl:(X.env.scope.kind == .class || (X.env.scope.kind == .module && X.env.locals != X.env.globals))=false:=by rw[I.ok.kind];rfl
    cases fl with
    | next=>
      obtain⟨σ',H5,I5,q5⟩:=q
      have K5:=I5.uncatch I.ok
      obtain⟨m,hn,hl⟩:=id K5.loc
      exact wpAny_nameGoes_keeps hk hn cl fun h' v hn' hs'=>⟨_,H5,K5.unset hN hi hk hl hn' hs',q5⟩
    | brk=>
      obtain⟨σ',H5,I5,q5⟩:=q
      have K5:=I5.uncatch I.ok
      obtain⟨m,hn,hl⟩:=id K5.loc
      exact wpAny_nameGoes_keeps hk hn cl fun h' v hn' hs'=>⟨_,H5,K5.unset hN hi hk hl hn' hs',q5⟩
    | cont=>
      obtain⟨σ',H5,I5,q5⟩:=q
      have K5:=I5.uncatch I.ok
      obtain⟨m,hn,hl⟩:=id K5.loc
      exact wpAny_nameGoes_keeps hk hn cl fun h' v hn' hs'=>⟨_,H5,K5.unset hN hi hk hl hn' hs',q5⟩
    | ret u=>
      obtain⟨vr,σ',H5,I5,rv,q5⟩:=q
      have K5:=I5.uncatch I.ok
      obtain⟨m,hn,hl⟩:=id K5.loc
      exact wpAny_nameGoes_keeps hk hn cl fun h' v hn' hs'=>⟨vr,_,H5,K5.unset hN hi hk hl hn' hs',rv,q5⟩
end
end L2
namespace Mine
open PySem PySem.W PySem.Spec PySem.Calls PyProof.Rows
section
variable{prog:Program}{w:World}{A:Around}{E:Value→Shared→Prop}{s:Shared}{K:Frag}{x D:Addr}{o:Obj}{c:Value}
theorem check_ga{M:Model}{nameV:Value}{Q:Unit→Shared→Prop}(X:K.In s.heap)(L0:Looks M s.heap (typeOf (.ref x)) (.ref D))(hb:mroIn K D (.type "BaseException")=some true)(hq:Q () s) :
    wpAny M A (checkBuiltinCall "BaseException.__getattribute__" ⟨[.ref x,nameV],[]⟩) Q E s:=by
  obtain⟨hh,g,d,t,os⟩:=s
  have hk:builtinKind "BaseException.__getattribute__"=some .slot:=by decide +kernel
  have hsplit:splitId "BaseException.__getattribute__"=some ("BaseException","__getattribute__"):=by decide +kernel
  have LB:=looks_mroIn (M:=M) X hb
  have ha:=PySem.F.args_bexc_ga (.ref x) nameV
  have LI:Looks M hh (isInstance (.ref x) (.type "BaseException")) true:=L0.andThen LB
  simp only[checkBuiltinCall,hk,hsplit]
  refine wpAny_bind (LI.at ?_)
  repeat (any_goals (first | assumption | wp_step))
open Builtin Builtin.Getset_descriptor in
theorem class_get1{R:Result→Shared→Prop}{tp:Value}(X:K.In s.heap)(L0:∀M:Model,Looks M s.heap (typeOf (.ref x)) (.ref D))(hm:mroIn K D (.type "object")=some true)
    (hR:R (.ok (.ret (.ref D))) s):codeAny (model prog w) A (.call (.builtin "getset_descriptor.__get__") ⟨[.builtin "object.__class__",.ref x,tp],[]⟩) R s:=by
  rcases s with ⟨hp,gn,dn,tk,os⟩
  have look:=L0 (model prog w)
  have above:=looks_mroIn (M:=model prog w) X hm
  have known:=KF.slot_gs.check (model prog w) A.in1
  have kind:(⟨hp,gn,dn,tk,os⟩:Shared).TypeIs (.builtin "object.__class__") "getset_descriptor":=KF.type_class
  apply codeAny_call_builtin KF.slot_gs.plain KF.entry_gs
  apply known _ _ _ _ _ _ kind (KF.args_gs _ _ _)
  delta Builtin.«getset_descriptor.__get__» descrGet
  rw[dga_obj]
  apply wpAny_bind
  apply wpAny_pure
  delta descrGetter descrCheckInstance descrNameAndClass isInstance
  simp only[KF.owner_class]
  repeat lk
  constructor
  · exact Code.quiet_builtin _ (by decide +kernel)
  · apply codeAny_builtin KF.entry_class
    delta Builtin.«object.__class__» shownTypeOf
    repeat lk
    exact hR
theorem class_entry{nm:Tok}{Q:Fin→Shared→Prop}(X:K.In s.heap)(L0:∀M:Model,Looks M s.heap (typeOf (.ref x)) (.ref D))(ha:findIn K (.ref D) "__class__"=some (some (.builtin "object.__class__")))
    (hm:mroIn K D (.type "object")=some true) (hq:Q (.done (.ret (.ref D))) s) :
    wpAny (model prog w) A (Builtin.«object.__getattribute__» ⟨[.ref x,.str "__class__" nm],[]⟩) Q E s:=by
  obtain⟨hh,g,d,t,os⟩:=s
  have L1:=L0 (model prog w)
  have L3:=looks_findIn (M:=model prog w) X ha
  have f5:=KF.type_class
  have f6:=PySem.F.slot_gs_get.lookup
  have f7:=PySem.F.slot_gs_set.lookup
  repeat (any_goals (first | assumption | with_reducible refine wpAny_bind (L1.at ?_) | with_reducible refine L1.at ?_ | with_reducible refine wpAny_bind (L3.at ?_) | with_reducible refine L3.at ?_ | wp_step))
  refine class_get1 (D:=D) X L0 hm ?_
  repeat (any_goals (first | assumption | wp_step))
theorem class_call{nm:Tok}{R:Result→Shared→Prop}(X:K.In s.heap)(L0:∀M:Model,Looks M s.heap (typeOf (.ref x)) (.ref D))(ha:findIn K (.ref D) "__class__"=some (some (.builtin "object.__class__")))
    (hm:mroIn K D (.type "object")=some true) (hb:mroIn K D (.type "BaseException")=some true) (hq:R (.ok (.ret (.ref D))) s) :
    codeAny (model prog w) A (.call (.builtin "BaseException.__getattribute__") ⟨[.ref x,.str "__class__" nm],[]⟩) R s:=
  codeAny_call_builtin PySem.F.attr_ValueError.ga.plain PySem.F.entry_bexc_ga (check_ga X (L0 _) hb (class_entry X L0 ha hm hq))
theorem exc_class{Q:Option Value→Shared→Prop}(X:K.In s.heap)(L0:∀M:Model,Looks M s.heap (typeOf (.ref x)) (.ref D))
    (hga:findIn K (.ref D) "__getattribute__"=some (some (.builtin "BaseException.__getattribute__"))) (hgt:findIn K (.ref D) "__getattr__"=some none) (ha:findIn K (.ref D) "__class__"=some (some (.builtin "object.__class__")))
    (hm:mroIn K D (.type "object")=some true) (hb:mroIn K D (.type "BaseException")=some true) (h:Q (some (.ref D)) { s with toks:=s.toks+1 }) :
    wpAny (model prog w) A (getAttr? (.ref x) "__class__") Q E s:=by
  obtain⟨hh,g,d,t,os⟩:=s
  have L1:=L0 (model prog w)
  have L2:=looks_findIn (M:=model prog w) X hga
  have L3:=looks_findIn (M:=model prog w) X hgt
  have f3:=PySem.F.attr_ValueError.ga.bind (.ref x)
  have hx2:(Value.builtin "BaseException.__getattribute__" == Value.builtin "object.__getattribute__")=false:=by decide +kernel
  have hx1:(onTheHeap (Value.ref D) && Value.builtin "BaseException.__getattribute__" == Value.builtin "object.__getattribute__")=false:=by rw[hx2];rfl
  have hx0:(false && onTheHeap (Value.builtin "BaseException.__getattribute__"))=false:=rfl
  unfold getAttr? getAttrBy? getAttrBy
  refine wpAny_bind (wpAny_mkText (wpAny_bind (wpAny_attempt (wpAny_holding (wpAny_bind (L1.at (wpAny_bind (L2.at ?_))))))))
  simp only[hx1]
  repeat (any_goals (first | assumption | with_reducible refine wpAny_bind (L1.at ?_) | with_reducible refine L1.at ?_ | with_reducible refine wpAny_bind (L3.at ?_) | with_reducible refine L3.at ?_ | wp_step))
  refine class_call (D:=D) (s:=⟨hh,g,d,t+1,os⟩) X (fun M=>L0 M) ha hm hb ?_
  show wpAny (model prog w) A (handedOut (Value.ref D)) _ _ _
  exact handed_on rfl (wpAny_pure h)
def ExcAt(x D:Addr)(h:Heap):Prop:=∃o,h.get? x=some o∧o.cls=.ref D
theorem excAt_ty{M:Model}{h:Heap}(p:ExcAt x D h):Looks M h (typeOf (.ref x)) (.ref D):=by
  obtain⟨o,h1,h2⟩:=p
  exact h2▸(Looks.ld h1).andThen .now
theorem kitx_exc
    (hga:findIn K (.ref D) "__getattribute__"=some (some (.builtin "BaseException.__getattribute__"))) (hgt:findIn K (.ref D) "__getattr__"=some none) (ha:findIn K (.ref D) "__class__"=some (some (.builtin "object.__class__")))
    (hm:mroIn K D (.type "object")=some true) (hb:mroIn K D (.type "BaseException")=some true):KitX K (.ref x) (.ref D) (ExcAt x D)where
  ty:=fun _ _ _ p=>excAt_ty p
  it:=fun _ _ X _=>by
    obtain⟨cdD,hcD,_⟩:=Option.bind_eq_some_iff.mp (show(clsIn K D).bind _=some true from hm)
    unfold clsIn at hcD
    split at hcD
    · rename_i c' d' cd' sl' ho
      intro A' Q' E' s' k q
      unfold isType loadHead
      exact wpAny_bind (wpAny_loadPart (k _ _ (X _ _ ho)) (wpAny_pure q))
    · cases hcD
  ne:=fun h tp dd its n sl X htp=>by
    refine Bool.eq_false_iff.mpr fun q=>?_
    have e:D=tp:=Value.ref.inj (beq_iff_eq.mp q)
    subst e
    obtain⟨cdD,hcD,_⟩:=Option.bind_eq_some_iff.mp (show(clsIn K D).bind _=some true from hm)
    unfold clsIn at hcD
    split at hcD
    · rename_i c' d' cd' sl' ho
      have z:=(X _ _ ho).symm.trans htp
      cases z
    · cases hcD
  ca:=fun X p k=>exc_class X (fun _=>excAt_ty p) hga hgt ha hm hb k
end
end Mine
namespace L2
open PySem PySem.Spec PyProof.Rows
structure ExcK(K:PySem.W.Frag)(C:Addr):Prop where
  ga:PySem.W.findIn K (.ref C) "__getattribute__"=some (some (.builtin "BaseException.__getattribute__"))
  gt:PySem.W.findIn K (.ref C) "__getattr__"=some none
  cl:PySem.W.findIn K (.ref C) "__class__"=some (some (.builtin "object.__class__"))
  ob:PySem.W.mroIn K C (.type "object")=some true
  be:PySem.W.mroIn K C (.type "BaseException")=some true
  ex:PySem.W.excIn K C bmV "ValueError.__new__"=true
def clsV:V→Option Value
  | .ty n=>some (.type n)
  | .ref D=>some (.ref D)
  | _=>none
section
variable{X:Cx}
def rIsx(K:PySem.W.Frag):List V→Hp→VK→Prop:=fun xs H Q=>∃a C c cv b,xs=[.ref a,c]∧H a=some (ExcO a C)∧ExcK K C∧clsV c=some cv∧PySem.W.kitOne K (.ref C) cv=some b∧Q (.bl b) H
theorem call_isx:CallR X (.builtin "isinstance") (rIsx X.K):=by
  intro pins s σ H xs us Q I r h
  obtain⟨a,C,c,cv,b,rfl,ea,ek,ec,e,q⟩:=h
  cases r with
  | cons rx r1=>
    cases r1 with
    | cons ry r2=>
      cases r2
      cases (show _=Value.ref a from rx)
      have hv:∀u,RelV c u→u=cv:=fun u ru=>by
        cases c with
        | ty n=>cases ec;exact ru
        | ref D=>cases ec;exact ru
        | _=>cases ec
      cases hv _ ry
      obtain⟨p,_,_⟩:=(show ObjOk X.prog X.w H s.heap a (ExcO a C)from I.hok a _ ea)
      exact PySem.W.kia_one (Mine.kitx_exc ek.ga ek.gt ek.cl ek.ob ek.be) I.kIn p e (fun z=>nomatch z) fun tk=>⟨.bl b,H,I.tok _,rfl,q⟩
theorem call_isxK(K:PySem.W.Frag)(h:X.K=K):CallR X (.builtin "isinstance") (rIsx K):=h▸call_isx
theorem PS.nox{st:Stmt}{t:TS}(h:PS X.nox st t):PS X st t:=fun pins s σ H D I hw=>
  wpAny_mono (h pins s σ H D (I.wish _) hw) (fun _ _ q=>q.unwish) fun _ _ z=>False.elim z
end
end L2
namespace L2
open PySem PySem.Spec PyProof.Rows
theorem boot_VE:bootBuiltins "ValueError"=some (.type "ValueError"):=by decide +kernel
section
variable{X:Cx}
end
end L2
namespace L2
open PySem PySem.Spec PyProof.Rows
class Plain (P:Program):Prop where
  tree:P.given.tree=none
section
variable{X:Cx}
theorem Inv.seer{pins:List (Addr × Obj)}{σ:St}{H:Hp}{s:Shared}(I:Inv X pins σ H s):s.heap.NoSeer:=I.ok.mod.seer.keeps I.bk
end
end L2
namespace L2
open PySem PySem.Spec PyProof.Rows
def cloOf(cells:List (Str × Addr)):List (Str × NameKind)→List (Str × Addr)→List (Str × Addr)
  | [],cs=>cs
  | (n,k)::r,cs=>cloOf cells r (if(k == .free)=true then(n,(cells.lookup n).getD 0)::cs else cs)
theorem clo_for{env:Env}:∀(names:List (Str × NameKind)) (cs:List (Str × Addr)),(∀n,(n,NameKind.free)∈names→∃c,env.cells.lookup n=some c)→
    (forIn names cs fun(x:Str × NameKind) (r:List (Str × Addr))=>(match x with | (name,kind)=>if(kind == NameKind.free)=true then(do let c ← cellOf env name;pure (ForInStep.yield ((name,c)::r)))else pure (ForInStep.yield r):Sem (ForInStep (List (Str × Addr)))))=pure (cloOf env.cells names cs)
  | [],cs,_=>rfl
  | (n,k)::r,cs,h=>by
    rw[List.forIn_cons]
    by_cases hk:k=.free
    · subst hk
      obtain⟨c,hc⟩:=h n List.mem_cons_self
      have ih:=clo_for (env:=env) r ((n,c)::cs) fun m hm=>h m (List.mem_cons_of_mem _ hm)
      have e1:cellOf env n=pure c:=by unfold cellOf;rw[hc]
      simp only[beq_self_eq_true,if_true,e1,pure_bind]
      rw[ih]
      conv=>rhs;unfold cloOf
      simp only[beq_self_eq_true,if_true,hc,Option.getD_some]
    · have hb:(k == NameKind.free)=false:=by simpa using hk
      have ih:=clo_for (env:=env) r cs fun m hm=>h m (List.mem_cons_of_mem _ hm)
      simp only[hb,Bool.false_eq_true,if_false,pure_bind]
      rw[ih]
      conv=>rhs;unfold cloOf
      simp only[hb,Bool.false_eq_true,if_false]
theorem clo_closure{env:Env}{scope:Scope}(h:∀n,(n,NameKind.free)∈scope.names→∃c,env.cells.lookup n=some c):closureFor scope env=pure (cloOf env.cells scope.names []):=by
  have e:=clo_for (env:=env) scope.names [] h
  unfold closureFor
  simp only[bind_pure]
  exact e
theorem clo_in{cells:List (Str × Addr)}:∀{names:List (Str × NameKind)} {cs:List (Str × Addr)},(∀n,(n,NameKind.free)∈names→∃c,cells.lookup n=some c)→∀{y c},(cloOf cells names cs).lookup y=some c→cs.lookup y=some c∨cells.lookup y=some c
  | [],cs,_,y,c,e=>.inl e
  | (n,k)::r,cs,h,y,c,e=>by
    unfold cloOf at e
    have h':∀m,(m,NameKind.free)∈r→∃c,cells.lookup m=some c:=fun m hm=>h m (List.mem_cons_of_mem _ hm)
    rcases clo_in h' e with z | z
    · by_cases hk:k=.free
      · subst hk
        obtain⟨d,hd⟩:=h n List.mem_cons_self
        simp only[beq_self_eq_true,if_true,hd,Option.getD_some]at z
        rw[List.lookup_cons]at z
        cases hy:(y == n)with
        | true=>
          rw[hy]at z
          have:y=n:=beq_iff_eq.mp hy
          subst this
          exact .inr (hd.trans z)
        | false=>rw[hy]at z;exact .inl z
      · have hb:(k == NameKind.free)=false:=by simpa using hk
        simp only[hb,Bool.false_eq_true,if_false]at z
        exact .inl z
    · exact .inr z
theorem clo_has{cells:List (Str × Addr)}:∀{names:List (Str × NameKind)} {cs:List (Str × Addr)} {y:Str},((∃c,cs.lookup y=some c)∨(y,NameKind.free)∈names)→∃c,(cloOf cells names cs).lookup y=some c
  | [],cs,y,h=>by
    rcases h with h | h
    · exact h
    · cases h
  | (n,k)::r,cs,y,h=>by
    unfold cloOf
    refine clo_has ?_
    rcases h with ⟨c,h⟩ | h
    · left
      split
      · rw[List.lookup_cons]
        cases hy:(y == n)with
        | true=>exact⟨_,rfl⟩
        | false=>exact⟨c,h⟩
      · exact⟨c,h⟩
    · rcases List.mem_cons.mp h with e | h
      · cases e
        left
        simp only[beq_self_eq_true,if_true]
        rw[List.lookup_cons,beq_self_eq_true]
        exact⟨_,rfl⟩
      · exact .inr h
theorem compLoop_any{prog:Program}{w:World}{A:Around}{R:Result→Shared→Prop}{s:Shared}{elt target iter:Expr}{scope:Scope}{pos:Pos}{it acc:Value}{env:Env}(I:Nat→Shared→Prop)
    (turn:∀n s,I n s→wpAny (model prog w) A (pyNext it) (fun r s₁=>match r with
      | none=>R (.ok .next) s₁
      | some v=>wpAny (model prog w) A (letOwnedTupleGo target it v) (fun _ s₁'=>wpAny (model prog w) A (assign target env v) (fun _ s₂=>wpAny (model prog w) A (eval elt env) (fun x s₃=>
          wpAny (model prog w) A (call (.builtin "list.append") [acc,x]) (fun _ s₄=>∃m,m < n∧I m s₄) (fun _ _=>False) s₃) (fun _ _=>False) s₂) (fun _ _=>False) s₁') (fun _ _=>False) s₁) (fun _ _=>False) s)
    (n:Nat) (h:I n s) :
    codeAny (model prog w) A (.compLoop (.ListComp elt [⟨target,iter,[],0⟩] scope pos) 0 it acc env) R s:=by
  refine codeAny_loop rfl I (fun n s hI=>?_) n h
  show wpAny _ _ ((compTurn (.ListComp elt [⟨target,iter,[],0⟩] scope pos) 0 it acc env).onRaise (fun x=>do noteFrame x env;theTreesLotGoes x)) _ _ s
  refine wpAny_noted ?_
  rw[compTurn_list1]
  refine wpAny_bind (wpAny_standAt (wpAny_bind (wpAny_mono (turn n s hI) (fun r s₁ h₁=>?_) fun _ _ h'=>h'.elim)))
  cases r with
  | none=>exact wpAny_pure h₁
  | some v=>
    exact wpAny_bind (wpAny_mono h₁ (fun _ s1' h1'=>wpAny_bind (wpAny_mono h1' (fun _ s₂ h₂=>wpAny_bind (wpAny_bind (wpAny_mono h₂ (fun x s₃ h₃=>wpAny_bind (wpAny_mono h₃
      (fun _ s₄ h₄=>wpAny_pure (wpAny_pure ⟨rfl,h₄⟩)) fun _ _ h'=>h'.elim)) fun _ _ h'=>h'.elim))) fun _ _ h'=>h'.elim)) fun _ _ h'=>h'.elim)
theorem HOk.track{P:Program}{w:World}{H:Hp}{h:Heap}{a:Addr}{o:HO}(x:HOk P w H h)(n:H a=none)(new:ObjOk P w (upd H a o) h a o):HOk P w (upd H a o) h:=fun b u e=>by
  by_cases hb:b=a
  · subst hb;rw[upd_same]at e;cases e;exact new
  · rw[upd_ne hb]at e
    exact(x b u e).stay (fun _ _ _ q=>q) (fun c q=>by rw[upd_ne (ne_of_none q n)];exact q) fun c xs q=>by rw[upd_ne (ne_of_none q n)];exact q
theorem Un.track{fs ex:List Addr}{H H':Hp}{h h':Heap}{a:Addr}{o:HO}(u:Un fs ex H H' h h')(hp:h.objs.size≤a)(n:H' a=none):Un fs ex H (upd H' a o) h h' where
  keep:=u.keep
  slot:=u.slot
  free:=fun b ob q m hx=>by rw[upd_ne (Nat.ne_of_lt (Nat.lt_of_lt_of_le (Heap.lt_size q) hp))];exact u.free b ob q m hx
  there:=u.there
  tups:=fun b xs q=>by have z:=u.tups b xs q;rw[upd_ne (ne_of_none z n)];exact z
  frzs:=fun b ob xs q=>by have z:=u.frzs b ob xs q;rw[upd_ne (ne_of_none z n)];exact z
  tbls:=fun b ps q=>by obtain⟨m,z⟩:=u.tbls b ps q;exact⟨m,by rw[upd_ne (ne_of_none z n)];exact z⟩
theorem cells_app:∀(names:List (Str × NameKind)) (n:Nat) (acc:List (Str × Addr)),cellsFrom n names acc=cellsFrom n names []++acc
  | [],_,_=>rfl
  | (x,k)::r,n,acc=>by
    unfold cellsFrom
    split
    · rw[cells_app r (n+1) ((x,n)::acc),cells_app r (n+1) [(x,n)],List.append_assoc];rfl
    · exact cells_app r n acc
theorem cells_in:∀(names:List (Str × NameKind)) (n:Nat) (y:Str) (c:Addr),(y,c)∈cellsFrom n names []→(y,NameKind.cell)∈names
  | [],_,_,_,h=>by cases h
  | (x,k)::r,n,y,c,h=>by
    unfold cellsFrom at h
    split at h
    · rename_i hk
      rw[cells_app]at h
      rcases List.mem_append.mp h with h | h
      · exact List.mem_cons_of_mem _ (cells_in r (n+1) y c h)
      · have e:=List.mem_singleton.mp h
        cases e
        rw[show k=NameKind.cell by simpa using hk]
        exact List.mem_cons_self
    · exact List.mem_cons_of_mem _ (cells_in r n y c h)
theorem cells_has:∀(names:List (Str × NameKind)) (n:Nat) (y:Str),(y,NameKind.cell)∈names→∃c,(y,c)∈cellsFrom n names []
  | [],_,_,h=>by cases h
  | (x,k)::r,n,y,h=>by
    unfold cellsFrom
    rcases List.mem_cons.mp h with e | h
    · cases e
      rw[if_pos (show(NameKind.cell == NameKind.cell)=true by decide),cells_app]
      exact⟨n,List.mem_append_right _ List.mem_cons_self⟩
    · split
      · rw[cells_app]
        obtain⟨c,hc⟩:=cells_has r (n+1) y h
        exact⟨c,List.mem_append_left _ hc⟩
      · exact cells_has r n y h
theorem lookup_app{α:Type}:∀(l r:List (Str × α)) (y:Str),(l++r).lookup y=match l.lookup y with | some c=>some c | none=>r.lookup y
  | [],_,_=>rfl
  | (x,c)::l,r,y=>by
    rw[List.cons_append,List.lookup_cons,List.lookup_cons]
    cases (y == x)with
    | true=>rfl
    | false=>exact lookup_app l r y
theorem lookup_mem{α:Type}:∀{l:List (Str × α)} {y:Str} {c:α},(y,c)∈l→∃c',l.lookup y=some c'
  | (x,d)::l,y,c,h=>by
    rw[List.lookup_cons]
    cases hb:(y == x)with
    | true=>exact⟨d,rfl⟩
    | false=>
      rcases List.mem_cons.mp h with e | h
      · cases e;rw[beq_self_eq_true]at hb;cases hb
      · exact lookup_mem h
abbrev cbOf(env:Env)(scope:Scope)(C:Addr):List (Str × Addr):=cellsFrom (C+1) scope.names (cloOf env.cells scope.names [])
theorem cb_lookup{env:Env}{scope:Scope}{C:Addr}{y:Str}{c:Addr}(h:(cbOf env scope C).lookup y=some c):(y,c)∈cellsFrom (C+1) scope.names []∨(cloOf env.cells scope.names []).lookup y=some c:=by
  rw[show cbOf env scope C=_ from cells_app _ _ _,lookup_app]at h
  split at h
  · rename_i e;cases h;exact .inl (PySem.mem_of_lookup e)
  · exact .inr h
theorem cb_own{env:Env}{scope:Scope}{C:Addr}{y:Str}{c:Addr}(k:scope.names.lookup y=some .cell)(h:(cbOf env scope C).lookup y=some c):(y,c)∈cellsFrom (C+1) scope.names []:=by
  rw[show cbOf env scope C=_ from cells_app _ _ _,lookup_app]at h
  obtain⟨d,hd⟩:=cells_has scope.names (C+1) y (PySem.mem_of_lookup k)
  obtain⟨d',hd'⟩:=lookup_mem hd
  rw[hd']at h
  cases h
  exact PySem.mem_of_lookup hd'
theorem cells_above:∀(names:List (Str × NameKind)) (n:Nat) (y:Str) (c:Addr),(y,c)∈cellsFrom n names []→n≤c
  | [],_,_,_,h=>by cases h
  | (x,k)::r,n,y,c,h=>by
    unfold cellsFrom at h
    split at h
    · rw[cells_app]at h
      rcases List.mem_append.mp h with h | h
      · have:=cells_above r (n+1) y c h;omega
      · cases List.mem_singleton.mp h;exact Nat.le_refl _
    · exact cells_above r n y c h
theorem cells_inj:∀(names:List (Str × NameKind)) (n:Nat) (x y:Str) (c:Addr),(x,c)∈cellsFrom n names []→(y,c)∈cellsFrom n names []→x=y
  | [],_,_,_,_,h,_=>by cases h
  | (z,k)::r,n,x,y,c,h,g=>by
    unfold cellsFrom at h g
    split at h
    · rename_i hk
      rw[if_pos hk]at g
      rw[cells_app]at h g
      rcases List.mem_append.mp h with h | h <;>rcases List.mem_append.mp g with g | g
      · exact cells_inj r (n+1) x y c h g
      · cases List.mem_singleton.mp g
        have:=cells_above r (n+1) x _ h;omega
      · cases List.mem_singleton.mp h
        have:=cells_above r (n+1) y _ g;omega
      · cases List.mem_singleton.mp h;cases List.mem_singleton.mp g;rfl
    · rename_i hk
      rw[if_neg hk]at g
      exact cells_inj r n x y c h g
theorem newEnv_comp{M:Model}{A:Around}{E:Value→Shared→Prop}{s:Shared}{scope:Scope}{globals:Addr}{closure:List (Str × Addr)}{qual:Str}{env:Env}{Q:Env→Shared→Prop}
    (hQ:∀h':Heap,h'.Ns s.heap.objs.size (fun _=>none)→(∀b o,s.heap.get? b=some o→h'.get? b=some o)→CellsOk h' (s.heap.objs.size+1) (cellsFrom (s.heap.objs.size+1) scope.names [])→
      Q (newEnv scope s.heap.objs.size globals (cellsFrom (s.heap.objs.size+1) scope.names closure) qual none .none (some env) builtinsNs) { s with heap:=h',toks:=s.toks+([]:List (Str × Value)).length }) :
    wpAny M A (newFunctionEnv scope globals closure [] qual none .none (some env)) Q E s:=by
  simp only[newFunctionEnv,Option.isSome_some,if_true]
  refine wpAny_bind (wpAny_alloc ?_)
  refine wpAny_bind (wpAny_layCells _ (fun name kind cells=>by cases hkc:kind == NameKind.cell <;>simp[hkc]) _ _ _ _ ?_)
  have ok:=cellsFrom_ok scope.names (s.heap.push { cls:=.type "dict",data:=.dict #[] }) (s.heap.objs.size+1) [] ⟨fun _ _ hm=>(nomatch hm),List.Pairwise.nil⟩ (by rw[Heap.size_push];exact Nat.le_refl _)
  rw[Heap.size_push]at ok
  rw[show({ s with heap:=s.heap.push { cls:=.type "dict",data:=.dict #[] } }:Shared).heap.objs.size=s.heap.objs.size+1 from Heap.size_push ..]
  rw[List.forIn_nil]
  refine wpAny_bind (wpAny_pure (wpAny_pure ?_))
  exact hQ _ ((Heap.Ns.new s.heap (.type "dict")).keeps (pushCells_keeps _ _)) (fun b o e=>pushCells_keeps _ _ b o (Heap.get?_push_of_some _ e)) ok
def compCx(X:Cx)(scope:Scope)(xs:List Str)(C:Addr)(s:Shared)(H:Hp)(fp:List Addr)(pn:List (Addr × Obj)):Cx:=
  { X with env:=compEnvC scope (cbOf X.env scope C) C X.env,N:=X.N++xs,s₀:=s,H₀:=H,outer:=X.stack,ex:=fp,fn:=fun y=>scope.names.lookup y == some .cell,pn:=pn,xe:=fun _ _=>False }
structure CompOk(N:List Str)(S T:Scope):Prop where
  kind:T.kind=.function
  cell:∀y∈N,T.names.lookup y≠some .cell
  names:∀y∈T.names,y.2=.local→T.names.lookup y.1=some .local
  uniq:∀y∈T.names,T.names.lookup y.1=some y.2
  free:∀y∈T.names,y.2=.free→S.names.lookup y.1=some .cell∨S.names.lookup y.1=some .free
  vis:∀y∈N,T.names.lookup y≠some .local
def rlS(S T:Scope):Scope:={ T with names:=T.names.map fun(n,k)=>if(k == .free && S.kind == .function && S.names.lookup n == some .cell)then(n,.cell)else(n,k) }
def rl(env:Env)(z:Str × NameKind):Str × NameKind:=match z with | (n,k)=>if(k == NameKind.free && env.scope.kind == .function && env.kindOf n == some .cell)then(n,NameKind.cell)else(n,k)
theorem rl_fst(env:Env)(n:Str)(k:NameKind):(rl env (n,k)).1=n:=by unfold rl;dsimp only;split <;>rfl
theorem rl_snd(env:Env)(n:Str)(k:NameKind):(rl env (n,k)).2=k∨(k=.free∧(rl env (n,k)).2=.cell):=by
  unfold rl
  dsimp only
  split
  · rename_i h
    simp only[Bool.and_eq_true]at h
    exact .inr ⟨by simpa using h.1.1,rfl⟩
  · exact .inl rfl
theorem rl_lookup{env:Env}:∀{names:List (Str × NameKind)} {y:Str} {k:NameKind},(names.map (rl env)).lookup y=some k→names.lookup y=some k∨(names.lookup y=some .free∧k=.cell)
  | [],_,_,h=>by cases h
  | (n,j)::r,y,k,h=>by
    have ih:=@rl_lookup env r y k
    rw[List.map_cons,show rl env (n,j)=((rl env (n,j)).1,(rl env (n,j)).2)from rfl,rl_fst,List.lookup_cons]at h
    rw[List.lookup_cons]
    cases hy:(y == n)with
    | true=>
      rw[hy]at h
      have h:(rl env (n,j)).2=k:=Option.some.inj h
      rcases rl_snd env n j with z | ⟨z1,z2⟩
      · exact .inl (by rw[← h,z])
      · exact .inr ⟨by rw[z1],by rw[← h,z2]⟩
    | false=>
      rw[hy]at h
      exact ih h
theorem relabel_free{env:Env}{scope:Scope}{y:Str}(h:(relabel scope env).names.lookup y=some .cell∨(relabel scope env).names.lookup y=some .free):scope.names.lookup y=some .free∨scope.names.lookup y=some .cell:=by
  have e:(relabel scope env).names=scope.names.map (rl env):=rfl
  rw[e]at h
  rcases h with h | h
  · rcases rl_lookup h with z | ⟨z,_⟩
    · exact .inr z
    · exact .inl z
  · rcases rl_lookup h with z | ⟨z,_⟩
    · exact .inl z
    · exact .inl z
theorem relabel_local{env:Env}{scope:Scope}{y:Str}(h:(relabel scope env).names.lookup y=some .local):scope.names.lookup y=some .local:=by
  have e:(relabel scope env).names=scope.names.map (rl env):=rfl
  rw[e]at h
  rcases rl_lookup h with z | ⟨_,z⟩
  · exact z
  · cases z
theorem Un.but{fs ex:List Addr}{H H':Hp}{h h1 h2:Heap}{C:Addr}(u:Un fs ex H H' h h1)(hb:∀b o,b≠C→h1.get? b=some o→h2.get? b=some o)(hC:h.objs.size≤C):Un fs ex H H' h h2:=by
  have ne:∀b o,h.get? b=some o→b≠C:=fun b o e=>Nat.ne_of_lt (Nat.lt_of_lt_of_le (Heap.lt_size e) hC)
  refine⟨fun b o e n hf hx=>hb b o (ne b o e) (u.keep b o e n hf hx),fun b o e n hf hx=>?_,u.free,fun b o e hx=>?_,u.tups,u.frzs,u.tbls⟩
  · obtain⟨sl,q⟩:=u.slot b o e n hf hx
    exact⟨sl,hb b _ (ne b o e) q⟩
  · obtain⟨o',q⟩:=u.there b o e hx
    exact⟨o',hb b _ (ne b o e) q⟩
theorem HOk.but{P:Program}{w:World}{H:Hp}{h1 h2:Heap}{C:Addr}(x:HOk P w H h1)(hb:∀b o,b≠C→h1.get? b=some o→h2.get? b=some o)(n:H C=none):HOk P w H h2:=fun b u e=>
  (x b u e).stay (fun c v hc q=>hb c v (by
    rcases hc with rfl | hc
    · exact ne_of_none e n
    · exact ne_of_none hc n) q) (fun _ q=>q) fun _ _ q=>q
section
variable{X:Cx}{pins:List (Addr × Obj)}{σ:St}{H:Hp}{s:Shared}{scope:Scope}{xs:List Str}{fp:List Addr}{C:Addr}
theorem comp_free(I:Inv X pins σ H s)(ok:CompOk X.N X.env.scope scope):∀n,(n,NameKind.free)∈scope.names→∃c,X.env.cells.lookup n=some c:=fun n hn=>I.ok.has n (ok.free _ hn rfl)
theorem comp_cell(I:Inv X pins σ H s)(ok:CompOk X.N X.env.scope scope){y:Str}{c:Addr}(e:(cbOf X.env scope C).lookup y=some c):(y,c)∈cellsFrom (C+1) scope.names []∨X.env.cells.lookup y=some c:=by
  rcases cb_lookup e with z | z
  · exact .inl z
  · rcases clo_in (comp_free I ok) z with z | z
    · cases z
    · exact .inr z
theorem comp_old(I:Inv X pins σ H s){y:Str}{c:Addr}(e:X.env.cells.lookup y=some c):c < s.heap.objs.size:=let⟨_,h⟩:=I.cell y c e;h.lt
theorem comp_ok(I:Inv X pins σ H s)(ok:CompOk X.N X.env.scope scope)(hf:∀b∈fp,FpOk X pins H b)(hx:∀b∈fp,b < s.heap.objs.size)(hC:s.heap.objs.size≤C) :
    (compCx X scope xs C s H fp (X.pn++pins)).Ok where
  mod:=I.mod
  kind:=ok.kind
  glob:=I.ok.glob
  blt:=I.ok.blt
  above:=hC
  inj:=fun x y c h1 h2=>by
    rcases comp_cell I ok h1 with z1 | z1 <;>rcases comp_cell I ok h2 with z2 | z2
    · exact cells_inj _ _ x y c z1 z2
    · exact absurd (Nat.lt_of_lt_of_le (comp_old I z2) (Nat.le_trans hC (Nat.le_of_lt (cells_above _ _ _ _ z1)))) (Nat.lt_irrefl _)
    · exact absurd (Nat.lt_of_lt_of_le (comp_old I z1) (Nat.le_trans hC (Nat.le_of_lt (cells_above _ _ _ _ z2)))) (Nat.lt_irrefl _)
    · exact I.ok.inj x y c z1 z2
  has:=fun y hy=>by
    show ∃c,(cbOf X.env scope C).lookup y=some c
    rw[show cbOf X.env scope C=_ from cells_app _ _ _,lookup_app]
    rcases relabel_free hy with z | z
    · obtain⟨c,hc⟩:=clo_has (cells:=X.env.cells) (cs:=[]) (.inr (PySem.mem_of_lookup z))
      split
      · rename_i c' _;exact⟨c',rfl⟩
      · exact⟨c,hc⟩
    · obtain⟨c,hc⟩:=cells_has scope.names (C+1) y (PySem.mem_of_lookup z)
      obtain⟨c',hc'⟩:=lookup_mem hc
      rw[hc']
      exact⟨c',rfl⟩
  cab:=fun x c h e=>Nat.le_trans hC (Nat.le_of_lt (cells_above _ _ _ _ (cb_own (by have h:(scope.names.lookup x == some NameKind.cell)=true:=h;simpa using h) e)))
  hd:=I.ok.hd
  frames:=I.ok.frames
  stk:=.inl rfl
  exf:=fun b hb=>⟨Nat.ne_of_lt (Nat.lt_of_lt_of_le (hx b hb) hC),fun x c e=>by
    rcases comp_cell I ok e with z | z
    · exact Nat.ne_of_gt (Nat.lt_of_lt_of_le (hx b hb) (Nat.le_trans hC (Nat.le_of_lt (cells_above _ _ _ _ z))))
    · exact(hf b hb).2.2.2.2.1 x c z⟩
  bs:=I.bs
  bsz:=Nat.le_trans I.ok.bsz I.sz
  noex:=fun b o e hb=>by
    rcases(hf b hb).2.2.2.1 with z | z
    · exact I.ok.noex b o e z
    · exact absurd (Nat.lt_of_lt_of_le (Heap.lt_size e) (Nat.le_trans I.ok.bsz z)) (Nat.lt_irrefl _)
  exfs:=fun b hb z=>by
    rcases List.mem_cons.mp (I.stkSub b z)with q | q
    · exact(hf b hb).2.1 q
    · exact(hf b hb).2.2.1 q
  funs:=I.stack
  frf:=I.stkFree
theorem comp_start(I:Inv X pins σ H s)(ok:CompOk X.N X.env.scope scope)(hf:∀b∈fp,FpOk X pins H b)(hx:∀b∈fp,b < s.heap.objs.size)(hC:s.heap.objs.size≤C){h':Heap}{t':Nat}{m:Str→Option Value}
    (hn:h'.Ns C m) (hk:∀b o,s.heap.get? b=some o→h'.get? b=some o) (hcs:CellsOk h' (C+1) (cellsFrom (C+1) scope.names [])) :
    Inv (compCx X scope xs C s H fp (X.pn++pins)) [] (σ++List.replicate xs.length none) H { s with heap:=h',toks:=t' }where
  ok:=comp_ok I ok hf hx hC
  os:=rfl
  bare:=I.bare
  base:=Un.kept hk
  loc:=by
    refine⟨m,hn,fun i x v e1 e2 e3=>?_⟩
    have e1:(X.N++xs)[i]? = some x:=e1
    have hi:i < σ.length:=by
      by_cases hi:i < σ.length
      · exact hi
      · rw[List.getElem?_append_right (by omega),List.getElem?_replicate]at e2
        split at e2 <;>cases e2
    rw[List.getElem?_append_left hi]at e2
    rw[List.getElem?_append_left (by rw[← I.len];exact hi)]at e1
    have hxN:x∈X.N:=List.mem_of_getElem? e1
    have e4:(relabel scope X.env).names.lookup x=some .cell∨(relabel scope X.env).names.lookup x=some .free:=by
      rcases e3 with z | z
      · exact absurd (relabel_local z) (ok.vis x hxN)
      · exact z
    have e5:scope.names.lookup x=some .free:=by
      rcases relabel_free e4 with z | z
      · exact z
      · exact absurd z (ok.cell x hxN)
    have e6:=ok.free _ (PySem.mem_of_lookup e5) rfl
    obtain⟨m0,_,hl⟩:=I.loc
    obtain⟨u,ru,lu⟩:=hl i x v e1 e2 (.inr e6)
    refine⟨u,ru,.inr ⟨e4,?_⟩⟩
    rcases lu with ⟨q,_⟩ | ⟨_,c,hc,o,ho,hd⟩
    · have q:X.env.scope.names.lookup x=some .local:=q
      rcases e6 with z | z <;>(rw[q]at z;cases z)
    · obtain⟨c',hc'⟩:=clo_has (cells:=X.env.cells) (cs:=[]) (.inr (PySem.mem_of_lookup e5))
      have no:(cellsFrom (C+1) scope.names []).lookup x=none:=by
        cases e:(cellsFrom (C+1) scope.names []).lookup x with
        | none=>rfl
        | some d=>
          have:=ok.uniq _ (cells_in _ _ _ _ (PySem.mem_of_lookup e))
          rw[e5]at this
          cases this
      have hb:(cbOf X.env scope C).lookup x=some c':=by
        rw[show cbOf X.env scope C=_ from cells_app _ _ _,lookup_app,no]
        exact hc'
      rcases clo_in (comp_free I ok) hc' with z | z
      · cases z
      · rw[hc]at z
        cases z
        exact⟨c,hb,o,hk _ _ ho,hd⟩
  cell:=fun x c e=>by
    rcases comp_cell I ok e with z | z
    · exact⟨none,(hcs.empty x c z).1⟩
    · obtain⟨v,o,ho,hd⟩:=I.cell x c z
      exact⟨v,o,hk _ _ ho,hd⟩
  free:=I.hok.fresh hC
  freeC:=fun x c e=>by
    rcases comp_cell I ok e with z | z
    · exact I.hok.fresh (by have:=cells_above _ _ _ _ z;omega)
    · exact I.freeC x c z
  pin:=fun p hp=>by
    rw[List.append_nil]at hp
    obtain⟨e,n,ne,nf,d⟩:=I.pin p hp
    refine⟨hk _ _ e,n,Nat.ne_of_lt (Nat.lt_of_lt_of_le (Heap.lt_size e) hC),fun z=>?_,d⟩
    rcases List.mem_cons.mp (I.stkSub p.1 z)with q | q
    · exact ne q
    · exact nf q
  hok:=I.hok.kept hk
  len:=by
    show(σ++List.replicate xs.length none).length=(X.N++xs).length
    rw[List.length_append,List.length_append,List.length_replicate,I.len]
end
abbrev CTail(J:It)(k:Nat)(g:TG)(te:TE)(σ:St)(Q:VK)(H1:Hp):Prop:=∃W:Nat→Nat→List V→Hp→Prop,(∃m,W 0 m [] H1)∧∀i m ys H,W i m ys H→
  (J.stop i H∧ys.length≤sizeLine∧∀p,H p=none→Q (.ref p) (upd H p (.lst ys)))∨
  (J.go i H∧ys.length < sizeLine∧∀x H',J.yld i H x H'→g x (σ++List.replicate k none) H' fun σ2 H2=>(∃zs,σ2=σ++zs∧zs.length=k)∧te σ2 H2 fun v H3=>∃m',m' < m∧W (i+1) m' (ys++[v]) H3)
def tComp(k:Nat)(wi:TI)(g:TG)(te:TE):TE:=fun σ H Q=>wi σ H fun J H1=>CTail J k g te σ Q H1
theorem pe_comp{X:Cx}{elt target iter:Expr}{scope:Scope}{pos:Pos}{wi:TI}{g:TG}{te:TE}{xs:List Str}(hc:X.calm=true)(ok:CompOk X.N X.env.scope scope)(hi:PI X target iter wi)
    (hg:∀C s H fp pn,PG (compCx X scope xs C s H fp pn) target g) (he:∀C s H fp pn,PE (compCx X scope xs C s H fp pn) elt te)
    (hs:∀x,foldedSetIterable iter X.env x=pure x:=by intro _;rfl):PE X (.ListComp elt [⟨target,iter,[],0⟩] scope pos) (tComp xs.length wi g te):=by
  intro pins s σ H Q I h
  rw[eval_ListComp]
  refine wpAny_comprehension_free (use:=none) rfl hs (clo_closure (comp_free I ok)) ok.kind ok.names (thn (hi pins s σ H _ I h) fun v s1 h1=>thn h1 fun itv s2 h2=>?_)
  obtain⟨it,fp,tn,J,H2,rfl,I2,T,st2,f2,W,⟨m0,w0⟩,turn⟩:=h2
  refine wpAny_newObj_type (newEnv_comp fun h₁ hns₁ hsb₁ hcl₁=>?_)
  dsimp only at hns₁ hsb₁ hcl₁ ⊢
  generalize hD:s2.heap.objs.size=D
  generalize hH3:s2.heap.push { cls:=.type "list",dict:=none,data:=.seq ([]:List Value).toArray }=h3 at hns₁ hsb₁ hcl₁ ⊢
  have k23:∀b o,s2.heap.get? b=some o→h3.get? b=some o:=fun b o e=>hH3▸Heap.get?_push_of_some _ e
  have hC:h3.objs.size=D+1:=by rw[← hH3,Heap.size_push,hD]
  have eD3:h3.get? D=some { cls:=.type "list",dict:=none,data:=.seq ([]:List Value).toArray }:=by
    rw[← hH3,← hD];exact Heap.get?_push_size _ rfl
  have I3:Inv X pins σ H2 { s2 with heap:=h3 }:=I2.kept (t':=s2.toks) k23
  have fD:FpOk X pins H2 D:=I2.fpOk (by omega) (I2.hok.fresh (by omega))
  have lt2:∀b∈fp,b < D:=fun b hb=>by
    obtain⟨o,e,_⟩:=T.obj 0 _ st2 b hb
    rw[← hD]
    exact Heap.lt_size e
  have f3:∀b∈D::fp,FpOk X pins H2 b:=fun b hb=>by
    rcases List.mem_cons.mp hb with rfl | hb
    · exact fD
    · exact f2 b hb
  have hx3:∀b∈D::fp,b < ({ s2 with heap:=h3 }:Shared).heap.objs.size:=fun b hb=>by
    show b < h3.objs.size
    rcases List.mem_cons.mp hb with rfl | hb
    · rw[hC];exact Nat.lt_succ_self _
    · rw[hC];exact Nat.lt_succ_of_lt (lt2 b hb)
  have k31:∀b o,h3.get? b=some o→h₁.get? b=some o:=hsb₁
  have okX:=comp_ok (C:=h3.objs.size) (xs:=xs) I3 ok f3 hx3 (Nat.le_refl _)
  have I4:=comp_start (C:=h3.objs.size) (xs:=xs) (t':=s2.toks+([]:List (Str × Value)).length) I3 ok f3 hx3 (Nat.le_refl _) hns₁ k31 hcl₁
  have mD:D∈D::fp:=List.mem_cons_self
  have neC:∀b∈D::fp,b≠h3.objs.size:=fun b hb=>(okX.exf b hb).1
  have stat:∀{H':Hp} {pl:List (Addr × Obj)},(∀b∈fp,H' b=none)→(∀p∈pl,p.1=D)→∀b∈fp,FpOk (compCx X scope xs h3.objs.size { s2 with heap:=h3 } H2 (D::fp) (X.pn++pins)) pl H' b:=fun hn hpl b hb=>by
    have hb':b∈D::fp:=List.mem_cons_of_mem _ hb
    refine⟨hn b hb,neC b hb',okX.exfs b hb',.inl hb',(okX.exf b hb').2,fun p hp=>?_⟩
    rcases List.mem_append.mp hp with hp | hp
    · exact(f2 b hb).2.2.2.2.2 p hp
    · rw[hpl p hp]
      exact Nat.ne_of_gt (lt2 b hb)
  have loop:codeAny (model X.prog X.w) X.A (.compLoop (.ListComp elt [⟨target,iter,[],0⟩] scope pos) 0 (.ref it) (.ref D) (compEnvC scope (cbOf X.env scope h3.objs.size) h3.objs.size X.env))
      (compPost (model X.prog X.w) X.A X.xe none (EP X pins σ Q) (.ref D) h3.objs.size) { s2 with heap:=h₁,toks:=s2.toks+([]:List (Str × Value)).length }:=by
    refine compLoop_any (fun n s'=>∃i ys its k H',Inv (compCx X scope xs h3.objs.size { s2 with heap:=h3 } H2 (D::fp) (X.pn++pins)) [] (σ++List.replicate xs.length none) H' s'∧
      s'.heap.get? D=some { cls:=.type "list",data:=.seq (its:List Value).toArray k }∧Vals ys its∧H' D=none∧tn i s'.heap∧(∀b∈fp,H' b=none)∧W i n ys H') ?_ m0
      ⟨0,[],[],_,H2,I4,k31 _ _ eD3,.nil,fD.1,T.keep _ _ _ st2 (fun b _ o e=>k31 b o (k23 b o e)),fun b hb=>(f2 b hb).1,w0⟩
    rintro n s' ⟨i,ys,its,k,H',I',eD,rv,nD,st,fr,w⟩
    have Ip:=I'.pins_of (pins':=[(D,{ cls:=.type "list",data:=.seq its.toArray k })]) fun p hp=>by
      rw[List.mem_singleton]at hp
      subst hp
      exact⟨eD,nD,neC D mD,okX.exfs D mD,fun v z=>by cases z⟩
    have one:∀p∈[(D,({ cls:=.type "list",data:=.seq its.toArray k }:Obj))],p.1=D:=fun p hp=>by rw[List.mem_singleton]at hp;rw[hp]
    rcases turn i n ys H' w with ⟨stop,hz,q⟩ | ⟨go,hz,step⟩
    · refine thn (T.done (compCx X scope xs h3.objs.size { s2 with heap:=h3 } H2 (D::fp) (X.pn++pins)) rfl rfl rfl hc i _ s' _ H' (fun _ _=>False) Ip (stat fr one) st stop) fun r s4 ⟨hr,J4⟩=>?_
      subst hr
      obtain⟨mm,hnm,_⟩:=J4.loc
      refine⟨mm,hnm,fun h' sb=>?_⟩
      obtain⟨eD4,nD4,_⟩:=J4.pin (D,{ cls:=.type "list",data:=.seq its.toArray k }) (List.mem_append_right _ List.mem_cons_self)
      have hb:∀b o,b≠h3.objs.size→s4.heap.get? b=some o→h'.get? b=some o:=fun b o hn e=>sb.extBut b o hn e
      have u0:Un (frs X.stack) (D::fp) H2 H' h3 s4.heap:=J4.base
      have u:Un (frs X.stack) (D::fp) H2 H' s2.heap h':=((Un.kept k23).trans u0).but hb (by omega)
      have os4:s4.os=s2.os:=J4.os
      refine⟨.ref D,upd H' D (.lst ys),I2.call' (s':={ s4 with heap:=h' }) (ch:=D::fp) os4 (u.track (by omega) nD4) ((J4.hok.but hb J4.free).track nD4 ⟨hz,its,k,rv,hb D _ (neC D mD) eD4⟩) J4.bare (fun b hb=>?_),rfl,q D nD4⟩
      have z:=f3 b hb
      exact⟨z.2.2.2.1,z.2.1,z.2.2.2.2.1,z.2.2.2.2.2⟩
    · refine thn (T.item (compCx X scope xs h3.objs.size { s2 with heap:=h3 } H2 (D::fp) (X.pn++pins)) rfl rfl rfl hc i _ s' _ H' (fun _ _=>False) Ip (stat fr one) st go) fun r s4 ⟨u,hr,h4⟩=>?_
      subst hr
      refine thn h4 fun _ s5 ⟨x,H5,I5,r5,y5,st5,fr5⟩=>?_
      have I5':=I5.pinned (stat fr5 one) (T.obj _ _ st5)
      refine thn (hg _ _ _ _ _ _ s5 _ H5 x u _ I5' r5 (step x H5 y5)) fun _ s6 ⟨σ6,H6,I6,⟨zs,hz6,hl6⟩,q6⟩=>?_
      refine thn (he _ _ _ _ _ _ s6 σ6 H6 _ I6 q6) fun xv s7 ⟨v,H7,I7,r7,m',hm',w7⟩=>?_
      obtain⟨eD7,nD7,_⟩:=I7.pin (D,{ cls:=.type "list",data:=.seq its.toArray k }) (List.mem_append_right _ (List.mem_append_left _ List.mem_cons_self))
      have len:=rv.length
      refine call_meets F.slot_list_append ⟨_,eD7,rfl⟩ F.entry_list_append (F.args_list_append_2 _ _) (PySem.list_append D its.toArray k xv (by rw[List.size_toArray];omega)) ⟨eD7,?_⟩
      have q:=PySem.IsL.update eD7 (fun a=>a.push xv)
      have other:∀b o,b≠D→s7.heap.get? b=some o→(s7.heap.update D (Obj.mapSeq fun a=>a.push xv)).get? b=some o:=fun b o hb e=>(Heap.get?_update_other s7.heap _ (Ne.symm hb)).trans e
      have pinF:∀b∈fp,∀o,s5.heap.get? b=some o→s7.heap.get? b=some o∧H7 b=none:=fun b hb o e=>
        ⟨(I7.pin (b,o) (List.mem_append_right _ (List.mem_append_right _ (mem_pinsAt hb e)))).1,(I7.pin (b,o) (List.mem_append_right _ (List.mem_append_right _ (mem_pinsAt hb e)))).2.1⟩
      have I7':=I7.pins_of (pins':=[]) fun p hp=>by cases hp
      have I8:=I7'.turned (t':=s7.toks) (it:=D) other nD7 (neC D mD) (.inl mD) (okX.exf D mD).2 (fun p hp=>by
        rw[List.append_nil]at hp
        exact fD.2.2.2.2.2 p hp)
      have I9:=I8.weak (σ':=σ++List.replicate xs.length none) (by rw[hz6,List.length_append,List.length_append,List.length_replicate,hl6]) (fun j v' e=>by
        have hj:j < σ.length:=by
          by_cases hj:j < σ.length
          · exact hj
          · rw[List.getElem?_append_right (by omega),List.getElem?_replicate]at e
            split at e <;>cases e
        rw[List.getElem?_append_left hj]at e
        rw[hz6,List.getElem?_append_left hj]
        exact e)
      have e9:its.toArray.push xv=(its++[xv]).toArray:=by simp
      rw[e9]at q
      refine⟨m',hm',i+1,ys++[v],its++[xv],_,H7,I9,q,rv.append (.cons r7 .nil),nD7,T.keep _ _ _ st5 (fun b hb o e=>other b o (Nat.ne_of_lt (lt2 b hb)) (pinF b hb o e).1),fun b hb=>?_,w7⟩
      obtain⟨o,e,_⟩:=T.obj _ _ st5 b hb
      exact(pinF b hb o e).2
  exact codeAny_compStart_list loop (T.self _ 0 _ _ _ (T.keep _ _ _ st2 fun b _ o e=>k31 b o (k23 b o e)) loop)
end L2
namespace L2
open PySem PySem.Spec PyProof.Rows
abbrev Cx.rn(X:Cx)(i:Nat)(y:Str):Cx:={ X with N:=X.N.set i y }
section
variable{X:Cx}{pins:List (Addr × Obj)}{σ:St}{H:Hp}{s:Shared}{i:Nat}{y:Str}
theorem Inv.rn(I:Inv X pins σ H s)(h:σ[i]? = some none):Inv (X.rn i y) pins σ H s:=
  ⟨⟨I.ok.mod,I.ok.kind,I.ok.glob,I.ok.blt,I.ok.above,I.ok.inj,I.ok.has,I.ok.cab,I.ok.hd,I.ok.frames,I.ok.stk,I.ok.exf,I.ok.bs,I.ok.bsz,I.ok.noex,I.ok.exfs,I.ok.funs,I.ok.frf⟩,I.os,I.bare,I.base,
    let⟨m,hn,hl⟩:=I.loc;⟨m,hn,fun j x v e1 e2 e3=>by
      by_cases z:i=j
      · subst z;rw[h]at e2;cases e2
      · exact hl j x v (by rw[← e1];exact(List.getElem?_set_ne z).symm) e2 e3⟩,I.cell,I.free,I.freeC,I.pin,I.hok,by rw[I.len];exact List.length_set.symm⟩
theorem Inv.unrn(ok:X.Ok)(I:Inv (X.rn i y) pins σ H s)(h:σ[i]? = some none):Inv X pins σ H s:=
  ⟨ok,I.os,I.bare,I.base,let⟨m,hn,hl⟩:=I.loc;⟨m,hn,fun j x v e1 e2 e3=>by
      by_cases z:i=j
      · subst z;rw[h]at e2;cases e2
      · exact hl j x v (by rw[← e1];exact List.getElem?_set_ne z) e2 e3⟩,I.cell,I.free,I.freeC,I.pin,I.hok,by rw[I.len];exact List.length_set⟩
theorem pe_hide{e:Expr}{t:TE}(i:Nat)(y:Str)(h:PE (X.rn i y) e t):PE X e (fun σ H Q=>σ[i]? = some none∧t σ H Q):=by
  intro pins s σ H Q I ⟨hi,q⟩
  exact thn (h pins s σ H Q (I.rn hi) q) fun v s1 ⟨x,H1,I1,r,q1⟩=>⟨x,H1,I1.unrn I.ok hi,r,q1⟩
end
end L2
namespace L2
open PySem PySem.Spec PyProof.Rows
theorem compLoop_if{prog:Program}{w:World}{A:Around}{R:Result→Shared→Prop}{s:Shared}{elt target iter c:Expr}{scope:Scope}{pos:Pos}{it acc:Value}{env:Env}(I:Nat→Shared→Prop)
    (turn:∀n s,I n s→wpAny (model prog w) A (pyNext it) (fun r s₁=>match r with
      | none=>R (.ok .next) s₁
      | some v=>wpAny (model prog w) A (letOwnedTupleGo target it v) (fun _ s₁'=>wpAny (model prog w) A (assign target env v) (fun _ s₂=>wpAny (model prog w) A (isTrue c env (eval c env)) (fun ok s₂'=>
          if ok=true then wpAny (model prog w) A (eval elt env) (fun x s₃=>wpAny (model prog w) A (call (.builtin "list.append") [acc,x]) (fun _ s₄=>∃m,m < n∧I m s₄) (fun _ _=>False) s₃) (fun _ _=>False) s₂'
          else ∃m,m < n∧I m s₂') (fun _ _=>False) s₂) (fun _ _=>False) s₁') (fun _ _=>False) s₁) (fun _ _=>False) s)
    (n:Nat) (h:I n s) :
    codeAny (model prog w) A (.compLoop (.ListComp elt [⟨target,iter,[c],0⟩] scope pos) 0 it acc env) R s:=by
  refine codeAny_loop rfl I (fun n s hI=>?_) n h
  show wpAny _ _ ((compTurn (.ListComp elt [⟨target,iter,[c],0⟩] scope pos) 0 it acc env).onRaise (fun x=>do noteFrame x env;theTreesLotGoes x)) _ _ s
  refine wpAny_noted ?_;rw[compTurn_list]
  refine wpAny_bind (wpAny_standAt (wpAny_bind (wpAny_mono (turn n s hI) (fun r s₁ h₁=>?_) fun _ _ h'=>h'.elim)))
  cases r with
  | none=>exact wpAny_pure h₁
  | some v=>
    refine wpAny_bind (wpAny_mono h₁ (fun _ s1' h1'=>wpAny_bind (wpAny_mono h1' (fun _ s₂ h₂=>wpAny_bind (wpAny_tests_one (wpAny_mono h₂ (fun ok s₃ h₃=>?_) fun _ _ h'=>h'.elim))) fun _ _ h'=>h'.elim)) fun _ _ h'=>h'.elim)
    cases ok with
    | false=>exact wpAny_pure ⟨rfl,h₃⟩
    | true=>
      exact wpAny_bind (wpAny_bind (wpAny_mono h₃ (fun x s₄ h₄=>wpAny_bind (wpAny_mono h₄ (fun _ s₅ h₅=>wpAny_pure (wpAny_pure ⟨rfl,h₅⟩)) fun _ _ h'=>h'.elim)) fun _ _ h'=>h'.elim))
abbrev CTailI(J:It)(k:Nat)(g:TG)(tc:TT)(te:TE)(σ:St)(Q:VK)(H1:Hp):Prop:=∃W:Nat→Nat→List V→Hp→Prop,(∃m,W 0 m [] H1)∧∀i m ys H,W i m ys H→
  (J.stop i H∧ys.length≤sizeLine∧∀p,H p=none→Q (.ref p) (upd H p (.lst ys)))∨
  (J.go i H∧ys.length < sizeLine∧∀x H',J.yld i H x H'→g x (σ++List.replicate k none) H' fun σ2 H2=>(∃zs,σ2=σ++zs∧zs.length=k)∧tc σ2 H2 fun b H3=>if b=true then te σ2 H3 fun v H4=>∃m',m' < m∧W (i+1) m' (ys++[v]) H4 else ∃m',m' < m∧W (i+1) m' ys H3)
def tCompIf(k:Nat)(wi:TI)(g:TG)(tc:TT)(te:TE):TE:=fun σ H Q=>wi σ H fun J H1=>CTailI J k g tc te σ Q H1
theorem pe_compif{X:Cx}{elt target iter c:Expr}{scope:Scope}{pos:Pos}{wi:TI}{g:TG}{tc:TT}{te:TE}{xs:List Str}(hc:X.calm=true)(ok:CompOk X.N X.env.scope scope)(hi:PI X target iter wi)
    (hg:∀C s H fp pn,PG (compCx X scope xs C s H fp pn) target g) (ht:∀C s H fp pn,PT (compCx X scope xs C s H fp pn) c tc) (he:∀C s H fp pn,PE (compCx X scope xs C s H fp pn) elt te)
    (hs:∀x,foldedSetIterable iter X.env x=pure x:=by intro _;rfl):PE X (.ListComp elt [⟨target,iter,[c],0⟩] scope pos) (tCompIf xs.length wi g tc te):=by
  intro pins s σ H Q I h
  rw[eval_ListComp]
  refine wpAny_comprehension_free (use:=none) rfl hs (clo_closure (comp_free I ok)) ok.kind ok.names (thn (hi pins s σ H _ I h) fun v s1 h1=>thn h1 fun itv s2 h2=>?_)
  obtain⟨it,fp,tn,J,H2,rfl,I2,T,st2,f2,W,⟨m0,w0⟩,turn⟩:=h2
  refine wpAny_newObj_type (newEnv_comp fun h₁ hns₁ hsb₁ hcl₁=>?_)
  dsimp only at hns₁ hsb₁ hcl₁ ⊢
  generalize hD:s2.heap.objs.size=D
  generalize hH3:s2.heap.push { cls:=.type "list",dict:=none,data:=.seq ([]:List Value).toArray }=h3 at hns₁ hsb₁ hcl₁ ⊢
  have k23:∀b o,s2.heap.get? b=some o→h3.get? b=some o:=fun b o e=>hH3▸Heap.get?_push_of_some _ e
  have hC:h3.objs.size=D+1:=by rw[← hH3,Heap.size_push,hD]
  have eD3:h3.get? D=some { cls:=.type "list",dict:=none,data:=.seq ([]:List Value).toArray }:=by
    rw[← hH3,← hD];exact Heap.get?_push_size _ rfl
  have I3:Inv X pins σ H2 { s2 with heap:=h3 }:=I2.kept (t':=s2.toks) k23
  have fD:FpOk X pins H2 D:=I2.fpOk (by omega) (I2.hok.fresh (by omega))
  have lt2:∀b∈fp,b < D:=fun b hb=>by
    obtain⟨o,e,_⟩:=T.obj 0 _ st2 b hb
    rw[← hD]
    exact Heap.lt_size e
  have f3:∀b∈D::fp,FpOk X pins H2 b:=fun b hb=>by
    rcases List.mem_cons.mp hb with rfl | hb
    · exact fD
    · exact f2 b hb
  have hx3:∀b∈D::fp,b < ({ s2 with heap:=h3 }:Shared).heap.objs.size:=fun b hb=>by
    show b < h3.objs.size
    rcases List.mem_cons.mp hb with rfl | hb
    · rw[hC];exact Nat.lt_succ_self _
    · rw[hC];exact Nat.lt_succ_of_lt (lt2 b hb)
  have k31:∀b o,h3.get? b=some o→h₁.get? b=some o:=hsb₁
  have okX:=comp_ok (C:=h3.objs.size) (xs:=xs) I3 ok f3 hx3 (Nat.le_refl _)
  have I4:=comp_start (C:=h3.objs.size) (xs:=xs) (t':=s2.toks+([]:List (Str × Value)).length) I3 ok f3 hx3 (Nat.le_refl _) hns₁ k31 hcl₁
  have mD:D∈D::fp:=List.mem_cons_self
  have neC:∀b∈D::fp,b≠h3.objs.size:=fun b hb=>(okX.exf b hb).1
  have stat:∀{H':Hp} {pl:List (Addr × Obj)},(∀b∈fp,H' b=none)→(∀p∈pl,p.1=D)→∀b∈fp,FpOk (compCx X scope xs h3.objs.size { s2 with heap:=h3 } H2 (D::fp) (X.pn++pins)) pl H' b:=fun hn hpl b hb=>by
    have hb':b∈D::fp:=List.mem_cons_of_mem _ hb
    refine⟨hn b hb,neC b hb',okX.exfs b hb',.inl hb',(okX.exf b hb').2,fun p hp=>?_⟩
    rcases List.mem_append.mp hp with hp | hp
    · exact(f2 b hb).2.2.2.2.2 p hp
    · rw[hpl p hp]
      exact Nat.ne_of_gt (lt2 b hb)
  have loop:codeAny (model X.prog X.w) X.A (.compLoop (.ListComp elt [⟨target,iter,[c],0⟩] scope pos) 0 (.ref it) (.ref D) (compEnvC scope (cbOf X.env scope h3.objs.size) h3.objs.size X.env))
      (compPost (model X.prog X.w) X.A X.xe none (EP X pins σ Q) (.ref D) h3.objs.size) { s2 with heap:=h₁,toks:=s2.toks+([]:List (Str × Value)).length }:=by
    refine compLoop_if (fun n s'=>∃i ys its k H',Inv (compCx X scope xs h3.objs.size { s2 with heap:=h3 } H2 (D::fp) (X.pn++pins)) [] (σ++List.replicate xs.length none) H' s'∧
      s'.heap.get? D=some { cls:=.type "list",data:=.seq (its:List Value).toArray k }∧Vals ys its∧H' D=none∧tn i s'.heap∧(∀b∈fp,H' b=none)∧W i n ys H') ?_ m0
      ⟨0,[],[],_,H2,I4,k31 _ _ eD3,.nil,fD.1,T.keep _ _ _ st2 (fun b _ o e=>k31 b o (k23 b o e)),fun b hb=>(f2 b hb).1,w0⟩
    rintro n s' ⟨i,ys,its,k,H',I',eD,rv,nD,st,fr,w⟩
    have Ip:=I'.pins_of (pins':=[(D,{ cls:=.type "list",data:=.seq its.toArray k })]) fun p hp=>by
      rw[List.mem_singleton]at hp
      subst hp
      exact⟨eD,nD,neC D mD,okX.exfs D mD,fun v z=>by cases z⟩
    have one:∀p∈[(D,({ cls:=.type "list",data:=.seq its.toArray k }:Obj))],p.1=D:=fun p hp=>by rw[List.mem_singleton]at hp;rw[hp]
    rcases turn i n ys H' w with ⟨stop,hz,q⟩ | ⟨go,hz,step⟩
    · refine thn (T.done (compCx X scope xs h3.objs.size { s2 with heap:=h3 } H2 (D::fp) (X.pn++pins)) rfl rfl rfl hc i _ s' _ H' (fun _ _=>False) Ip (stat fr one) st stop) fun r s4 ⟨hr,J4⟩=>?_
      subst hr
      obtain⟨mm,hnm,_⟩:=J4.loc
      refine⟨mm,hnm,fun h' sb=>?_⟩
      obtain⟨eD4,nD4,_⟩:=J4.pin (D,{ cls:=.type "list",data:=.seq its.toArray k }) (List.mem_append_right _ List.mem_cons_self)
      have hb:∀b o,b≠h3.objs.size→s4.heap.get? b=some o→h'.get? b=some o:=fun b o hn e=>sb.extBut b o hn e
      have u0:Un (frs X.stack) (D::fp) H2 H' h3 s4.heap:=J4.base
      have u:Un (frs X.stack) (D::fp) H2 H' s2.heap h':=((Un.kept k23).trans u0).but hb (by omega)
      have os4:s4.os=s2.os:=J4.os
      refine⟨.ref D,upd H' D (.lst ys),I2.call' (s':={ s4 with heap:=h' }) (ch:=D::fp) os4 (u.track (by omega) nD4) ((J4.hok.but hb J4.free).track nD4 ⟨hz,its,k,rv,hb D _ (neC D mD) eD4⟩) J4.bare (fun b hb=>?_),rfl,q D nD4⟩
      have z:=f3 b hb
      exact⟨z.2.2.2.1,z.2.1,z.2.2.2.2.1,z.2.2.2.2.2⟩
    · refine thn (T.item (compCx X scope xs h3.objs.size { s2 with heap:=h3 } H2 (D::fp) (X.pn++pins)) rfl rfl rfl hc i _ s' _ H' (fun _ _=>False) Ip (stat fr one) st go) fun r s4 ⟨u,hr,h4⟩=>?_
      subst hr
      refine thn h4 fun _ s5 ⟨x,H5,I5,r5,y5,st5,fr5⟩=>?_
      have I5':=I5.pinned (stat fr5 one) (T.obj _ _ st5)
      refine thn (hg _ _ _ _ _ _ s5 _ H5 x u _ I5' r5 (step x H5 y5)) fun _ s6 ⟨σ6,H6,I6,⟨zs,hz6,hl6⟩,q6⟩=>?_
      have pinF:∀{s7:Shared} {σ7:St} {H7:Hp},Inv (compCx X scope xs h3.objs.size { s2 with heap:=h3 } H2 (D::fp) (X.pn++pins)) ([(D,{ cls:=.type "list",data:=.seq its.toArray k })]++pinsAt fp s5.heap) σ7 H7 s7→∀b∈fp,∀o,s5.heap.get? b=some o→s7.heap.get? b=some o∧H7 b=none:=fun I7 b hb o e=>
        ⟨(I7.pin (b,o) (List.mem_append_right _ (List.mem_append_right _ (mem_pinsAt hb e)))).1,(I7.pin (b,o) (List.mem_append_right _ (List.mem_append_right _ (mem_pinsAt hb e)))).2.1⟩
      have back:∀{H7:Hp} {s7:Shared},Inv (compCx X scope xs h3.objs.size { s2 with heap:=h3 } H2 (D::fp) (X.pn++pins)) [] σ6 H7 s7→Inv (compCx X scope xs h3.objs.size { s2 with heap:=h3 } H2 (D::fp) (X.pn++pins)) [] (σ++List.replicate xs.length none) H7 s7:=fun I8=>
        I8.weak (by rw[hz6,List.length_append,List.length_append,List.length_replicate,hl6]) (fun j v' e=>by
          have hj:j < σ.length:=by
            by_cases hj:j < σ.length
            · exact hj
            · rw[List.getElem?_append_right (by omega),List.getElem?_replicate]at e
              split at e <;>cases e
          rw[List.getElem?_append_left hj]at e
          rw[hz6,List.getElem?_append_left hj]
          exact e)
      refine thn (ht _ _ _ _ _ _ s6 σ6 H6 _ I6 q6) fun ok s6' ⟨H6',I6',q6'⟩=>?_
      cases ok with
      | false=>
        obtain⟨m',hm',w7⟩:=(show ∃m',m' < n∧W (i+1) m' ys H6' from q6')
        obtain⟨eD7,nD7,_⟩:=I6'.pin (D,{ cls:=.type "list",data:=.seq its.toArray k }) (List.mem_append_right _ (List.mem_append_left _ List.mem_cons_self))
        refine⟨m',hm',i+1,ys,its,_,H6',back (I6'.pins_of (pins':=[]) fun p hp=>by cases hp),eD7,rv,nD7,T.keep _ _ _ st5 (fun b hb o e=>(pinF I6' b hb o e).1),fun b hb=>?_,w7⟩
        obtain⟨o,e,_⟩:=T.obj _ _ st5 b hb
        exact(pinF I6' b hb o e).2
      | true=>
        refine thn (he _ _ _ _ _ _ s6' σ6 H6' _ I6' q6') fun xv s7 ⟨v,H7,I7,r7,m',hm',w7⟩=>?_
        obtain⟨eD7,nD7,_⟩:=I7.pin (D,{ cls:=.type "list",data:=.seq its.toArray k }) (List.mem_append_right _ (List.mem_append_left _ List.mem_cons_self))
        have len:=rv.length
        refine call_meets F.slot_list_append ⟨_,eD7,rfl⟩ F.entry_list_append (F.args_list_append_2 _ _) (PySem.list_append D its.toArray k xv (by rw[List.size_toArray];omega)) ⟨eD7,?_⟩
        have q:=PySem.IsL.update eD7 (fun a=>a.push xv)
        have other:∀b o,b≠D→s7.heap.get? b=some o→(s7.heap.update D (Obj.mapSeq fun a=>a.push xv)).get? b=some o:=fun b o hb e=>(Heap.get?_update_other s7.heap _ (Ne.symm hb)).trans e
        have I7':=I7.pins_of (pins':=[]) fun p hp=>by cases hp
        have I8:=I7'.turned (t':=s7.toks) (it:=D) other nD7 (neC D mD) (.inl mD) (okX.exf D mD).2 (fun p hp=>by
          rw[List.append_nil]at hp
          exact fD.2.2.2.2.2 p hp)
        have e9:its.toArray.push xv=(its++[xv]).toArray:=by simp
        rw[e9]at q
        refine⟨m',hm',i+1,ys++[v],its++[xv],_,H7,back I8,q,rv.append (.cons r7 .nil),nD7,T.keep _ _ _ st5 (fun b hb o e=>other b o (Nat.ne_of_lt (lt2 b hb)) (pinF I7 b hb o e).1),fun b hb=>?_,w7⟩
        obtain⟨o,e,_⟩:=T.obj _ _ st5 b hb
        exact(pinF I7 b hb o e).2
  exact codeAny_compStart_list loop (T.self _ 0 _ _ _ (T.keep _ _ _ st2 fun b _ o e=>k31 b o (k23 b o e)) loop)
end L2
namespace L2
open PySem PySem.Spec PyProof.Rows
theorem ps_setC{X:Cx}{i₀:Nat}{x₀:Str}{pos₀ pos₁:Pos}{elt target iter:Expr}{scope:Scope}{pos:Pos}{wi:TI}{g:TG}{te:TE}{xs:List Str}(hN:X.N.Nodup)(hi₀:X.N[i₀]? = some x₀)(hx₀:Loc X.env.scope x₀)(hc:X.calm=true)(ok:CompOk X.N X.env.scope scope)(hi:PI X target iter wi)
    (hg:∀C s H fp pn,PG (compCx X scope xs C s H fp pn) target g) (he:∀C s H fp pn,PE (compCx X scope xs C s H fp pn) elt te)
    (hs:∀x,foldedSetIterable iter X.env x=pure x:=by intro _;rfl) (hw:swapsWith (.ListComp elt [⟨target,iter,[],0⟩] scope pos) (some (.Name x₀ pos₀)) pos₁.line X.env=pure true:=by rfl)
    (hf₀:X.fn x₀=true∨X.env.scope.names.lookup x₀=some .local:=by first | exact .inl rfl | exact .inr rfl | assumption) :
    PS X (.Assign [.Name x₀ pos₀] (.ListComp elt [⟨target,iter,[],0⟩] scope pos) pos₁) (tAsg (tComp xs.length wi g te) (gName i₀)):=by
  intro pins s σ H D₀ I h
  rw[exec_Assign_Name_used _ _ _ _ hw]
  refine wpAny_bind (wpAny_standAt (wpAny_bind ?_))
  show wpAny _ _ (comprehension _ _ _ _ _ _ _ _ >>= _) _ _ _
  refine wpAny_bind (wpAny_comprehension_free (Q:=fun _ s'=>wpAny (model X.prog X.w) X.A (pure ()) (fun _ s''=>wpAny (model X.prog X.w) X.A (pure Flow.next) (SP X pins D₀) X.xe s'') X.xe s') (use:=some (assign (.Name x₀ pos₀) X.env)) rfl hs (clo_closure (comp_free I ok)) ok.kind ok.names (thn (hi pins s σ H _ I h) fun v s1 h1=>thn h1 fun itv s2 h2=>?_))
  obtain⟨it,fp,tn,J,H2,rfl,I2,T,st2,f2,W,⟨m0,w0⟩,turn⟩:=h2
  refine wpAny_newObj_type (newEnv_comp fun h₁ hns₁ hsb₁ hcl₁=>?_)
  dsimp only at hns₁ hsb₁ hcl₁ ⊢
  generalize hD:s2.heap.objs.size=D
  generalize hH3:s2.heap.push { cls:=.type "list",dict:=none,data:=.seq ([]:List Value).toArray }=h3 at hns₁ hsb₁ hcl₁ ⊢
  have k23:∀b o,s2.heap.get? b=some o→h3.get? b=some o:=fun b o e=>hH3▸Heap.get?_push_of_some _ e
  have hC:h3.objs.size=D+1:=by rw[← hH3,Heap.size_push,hD]
  have eD3:h3.get? D=some { cls:=.type "list",dict:=none,data:=.seq ([]:List Value).toArray }:=by
    rw[← hH3,← hD];exact Heap.get?_push_size _ rfl
  have I3:Inv X pins σ H2 { s2 with heap:=h3 }:=I2.kept (t':=s2.toks) k23
  have fD:FpOk X pins H2 D:=I2.fpOk (by omega) (I2.hok.fresh (by omega))
  have lt2:∀b∈fp,b < D:=fun b hb=>by
    obtain⟨o,e,_⟩:=T.obj 0 _ st2 b hb
    rw[← hD]
    exact Heap.lt_size e
  have f3:∀b∈D::fp,FpOk X pins H2 b:=fun b hb=>by
    rcases List.mem_cons.mp hb with rfl | hb
    · exact fD
    · exact f2 b hb
  have hx3:∀b∈D::fp,b < ({ s2 with heap:=h3 }:Shared).heap.objs.size:=fun b hb=>by
    show b < h3.objs.size
    rcases List.mem_cons.mp hb with rfl | hb
    · rw[hC];exact Nat.lt_succ_self _
    · rw[hC];exact Nat.lt_succ_of_lt (lt2 b hb)
  have k31:∀b o,h3.get? b=some o→h₁.get? b=some o:=hsb₁
  have okX:=comp_ok (C:=h3.objs.size) (xs:=xs) I3 ok f3 hx3 (Nat.le_refl _)
  have I4:=comp_start (C:=h3.objs.size) (xs:=xs) (t':=s2.toks+([]:List (Str × Value)).length) I3 ok f3 hx3 (Nat.le_refl _) hns₁ k31 hcl₁
  have mD:D∈D::fp:=List.mem_cons_self
  have neC:∀b∈D::fp,b≠h3.objs.size:=fun b hb=>(okX.exf b hb).1
  have stat:∀{H':Hp} {pl:List (Addr × Obj)},(∀b∈fp,H' b=none)→(∀p∈pl,p.1=D)→∀b∈fp,FpOk (compCx X scope xs h3.objs.size { s2 with heap:=h3 } H2 (D::fp) (X.pn++pins)) pl H' b:=fun hn hpl b hb=>by
    have hb':b∈D::fp:=List.mem_cons_of_mem _ hb
    refine⟨hn b hb,neC b hb',okX.exfs b hb',.inl hb',(okX.exf b hb').2,fun p hp=>?_⟩
    rcases List.mem_append.mp hp with hp | hp
    · exact(f2 b hb).2.2.2.2.2 p hp
    · rw[hpl p hp]
      exact Nat.ne_of_gt (lt2 b hb)
  have loop:codeAny (model X.prog X.w) X.A (.compLoop (.ListComp elt [⟨target,iter,[],0⟩] scope pos) 0 (.ref it) (.ref D) (compEnvC scope (cbOf X.env scope h3.objs.size) h3.objs.size X.env))
      (compPost (model X.prog X.w) X.A X.xe (some (assign (.Name x₀ pos₀) X.env)) (fun _ s'=>wpAny (model X.prog X.w) X.A (pure ()) (fun _ s''=>wpAny (model X.prog X.w) X.A (pure Flow.next) (SP X pins D₀) X.xe s'') X.xe s') (.ref D) h3.objs.size) { s2 with heap:=h₁,toks:=s2.toks+([]:List (Str × Value)).length }:=by
    refine compLoop_any (fun n s'=>∃i ys its k H',Inv (compCx X scope xs h3.objs.size { s2 with heap:=h3 } H2 (D::fp) (X.pn++pins)) [] (σ++List.replicate xs.length none) H' s'∧
      s'.heap.get? D=some { cls:=.type "list",data:=.seq (its:List Value).toArray k }∧Vals ys its∧H' D=none∧tn i s'.heap∧(∀b∈fp,H' b=none)∧W i n ys H') ?_ m0
      ⟨0,[],[],_,H2,I4,k31 _ _ eD3,.nil,fD.1,T.keep _ _ _ st2 (fun b _ o e=>k31 b o (k23 b o e)),fun b hb=>(f2 b hb).1,w0⟩
    rintro n s' ⟨i,ys,its,k,H',I',eD,rv,nD,st,fr,w⟩
    have Ip:=I'.pins_of (pins':=[(D,{ cls:=.type "list",data:=.seq its.toArray k })]) fun p hp=>by
      rw[List.mem_singleton]at hp
      subst hp
      exact⟨eD,nD,neC D mD,okX.exfs D mD,fun v z=>by cases z⟩
    have one:∀p∈[(D,({ cls:=.type "list",data:=.seq its.toArray k }:Obj))],p.1=D:=fun p hp=>by rw[List.mem_singleton]at hp;rw[hp]
    rcases turn i n ys H' w with ⟨stop,hz,q⟩ | ⟨go,hz,step⟩
    · refine thn (T.done (compCx X scope xs h3.objs.size { s2 with heap:=h3 } H2 (D::fp) (X.pn++pins)) rfl rfl rfl hc i _ s' _ H' (fun _ _=>False) Ip (stat fr one) st stop) fun r s4 ⟨hr,J4⟩=>?_
      subst hr
      obtain⟨mm,hnm,_⟩:=J4.loc
      obtain⟨eD4,nD4,_⟩:=J4.pin (D,{ cls:=.type "list",data:=.seq its.toArray k }) (List.mem_append_right _ List.mem_cons_self)
      have u0:Un (frs X.stack) (D::fp) H2 H' h3 s4.heap:=J4.base
      have u:Un (frs X.stack) (D::fp) H2 H' s2.heap s4.heap:=(Un.kept k23).trans u0
      have os4:s4.os=s2.os:=J4.os
      have nC4:H' h3.objs.size=none:=J4.free
      have IX:Inv X pins σ (upd H' D (.lst ys)) s4:=I2.call' (s':=s4) (ch:=D::fp) os4 (u.track (by omega) nD4) (J4.hok.track nD4 ⟨hz,its,k,rv,eD4⟩) J4.bare (fun b hb=>by
        have z:=f3 b hb
        exact⟨z.2.2.2.1,z.2.1,z.2.2.2.2.1,z.2.2.2.2.2⟩)
      have fC:FpOk X pins H2 h3.objs.size:=I2.fpOk (by omega) (I2.hok.fresh (by omega))
      have nCX:upd H' D (.lst ys) h3.objs.size=none:=by rw[upd_ne (Ne.symm (neC D mD))];exact nC4
      refine wpAny_assign_Name (store_ok2 IX hN hi₀ hx₀ (v:=.ref D) rfl (fun s5 I5 ⟨a5,sb5,ha5⟩=>⟨mm,?_,fun h' sb=>?_⟩) hf₀)
      · have:h3.objs.size≠a5:=by
          rcases ha5 with e | e
          · rw[e];exact fC.2.1
          · exact Ne.symm (fC.2.2.2.2.1 x₀ a5 e)
        obtain⟨o,es,ep,e,r⟩:=hnm
        exact⟨o,es,ep,sb5.extBut _ _ this e,r⟩
      · have I6:Inv X pins (σ.set i₀ (some (.ref D))) (upd H' D (.lst ys)) { s5 with heap:=h' }:=I5.turned (t':=s5.toks) (it:=h3.objs.size) (fun b o hb e=>sb.extBut b o hb e) nCX fC.2.1 fC.2.2.2.1 fC.2.2.2.2.1 fC.2.2.2.2.2
        exact wpAny_pure (wpAny_pure ⟨_,_,I6,q D nD4⟩)
    · refine thn (T.item (compCx X scope xs h3.objs.size { s2 with heap:=h3 } H2 (D::fp) (X.pn++pins)) rfl rfl rfl hc i _ s' _ H' (fun _ _=>False) Ip (stat fr one) st go) fun r s4 ⟨u,hr,h4⟩=>?_
      subst hr
      refine thn h4 fun _ s5 ⟨x,H5,I5,r5,y5,st5,fr5⟩=>?_
      have I5':=I5.pinned (stat fr5 one) (T.obj _ _ st5)
      refine thn (hg _ _ _ _ _ _ s5 _ H5 x u _ I5' r5 (step x H5 y5)) fun _ s6 ⟨σ6,H6,I6,⟨zs,hz6,hl6⟩,q6⟩=>?_
      refine thn (he _ _ _ _ _ _ s6 σ6 H6 _ I6 q6) fun xv s7 ⟨v,H7,I7,r7,m',hm',w7⟩=>?_
      obtain⟨eD7,nD7,_⟩:=I7.pin (D,{ cls:=.type "list",data:=.seq its.toArray k }) (List.mem_append_right _ (List.mem_append_left _ List.mem_cons_self))
      have len:=rv.length
      refine call_meets F.slot_list_append ⟨_,eD7,rfl⟩ F.entry_list_append (F.args_list_append_2 _ _) (PySem.list_append D its.toArray k xv (by rw[List.size_toArray];omega)) ⟨eD7,?_⟩
      have q:=PySem.IsL.update eD7 (fun a=>a.push xv)
      have other:∀b o,b≠D→s7.heap.get? b=some o→(s7.heap.update D (Obj.mapSeq fun a=>a.push xv)).get? b=some o:=fun b o hb e=>(Heap.get?_update_other s7.heap _ (Ne.symm hb)).trans e
      have pinF:∀b∈fp,∀o,s5.heap.get? b=some o→s7.heap.get? b=some o∧H7 b=none:=fun b hb o e=>
        ⟨(I7.pin (b,o) (List.mem_append_right _ (List.mem_append_right _ (mem_pinsAt hb e)))).1,(I7.pin (b,o) (List.mem_append_right _ (List.mem_append_right _ (mem_pinsAt hb e)))).2.1⟩
      have I7':=I7.pins_of (pins':=[]) fun p hp=>by cases hp
      have I8:=I7'.turned (t':=s7.toks) (it:=D) other nD7 (neC D mD) (.inl mD) (okX.exf D mD).2 (fun p hp=>by
        rw[List.append_nil]at hp
        exact fD.2.2.2.2.2 p hp)
      have I9:=I8.weak (σ':=σ++List.replicate xs.length none) (by rw[hz6,List.length_append,List.length_append,List.length_replicate,hl6]) (fun j v' e=>by
        have hj:j < σ.length:=by
          by_cases hj:j < σ.length
          · exact hj
          · rw[List.getElem?_append_right (by omega),List.getElem?_replicate]at e
            split at e <;>cases e
        rw[List.getElem?_append_left hj]at e
        rw[hz6,List.getElem?_append_left hj]
        exact e)
      have e9:its.toArray.push xv=(its++[xv]).toArray:=by simp
      rw[e9]at q
      refine⟨m',hm',i+1,ys++[v],its++[xv],_,H7,I9,q,rv.append (.cons r7 .nil),nD7,T.keep _ _ _ st5 (fun b hb o e=>other b o (Nat.ne_of_lt (lt2 b hb)) (pinF b hb o e).1),fun b hb=>?_,w7⟩
      obtain⟨o,e,_⟩:=T.obj _ _ st5 b hb
      exact(pinF b hb o e).2
  exact codeAny_compStart_list loop (T.self _ 0 _ _ _ (T.keep _ _ _ st2 fun b _ o e=>k31 b o (k23 b o e)) loop)
theorem ps_setCI{X:Cx}{i₀:Nat}{x₀:Str}{pos₀ pos₁:Pos}{elt target iter c:Expr}{scope:Scope}{pos:Pos}{wi:TI}{g:TG}{tc:TT}{te:TE}{xs:List Str}(hN:X.N.Nodup)(hi₀:X.N[i₀]? = some x₀)(hx₀:Loc X.env.scope x₀)(hc:X.calm=true)(ok:CompOk X.N X.env.scope scope)(hi:PI X target iter wi)
    (hg:∀C s H fp pn,PG (compCx X scope xs C s H fp pn) target g) (ht:∀C s H fp pn,PT (compCx X scope xs C s H fp pn) c tc) (he:∀C s H fp pn,PE (compCx X scope xs C s H fp pn) elt te)
    (hs:∀x,foldedSetIterable iter X.env x=pure x:=by intro _;rfl) (hw:swapsWith (.ListComp elt [⟨target,iter,[c],0⟩] scope pos) (some (.Name x₀ pos₀)) pos₁.line X.env=pure true:=by rfl)
    (hf₀:X.fn x₀=true∨X.env.scope.names.lookup x₀=some .local:=by first | exact .inl rfl | exact .inr rfl | assumption) :
    PS X (.Assign [.Name x₀ pos₀] (.ListComp elt [⟨target,iter,[c],0⟩] scope pos) pos₁) (tAsg (tCompIf xs.length wi g tc te) (gName i₀)):=by
  intro pins s σ H D₀ I h
  rw[exec_Assign_Name_used _ _ _ _ hw]
  refine wpAny_bind (wpAny_standAt (wpAny_bind ?_))
  show wpAny _ _ (comprehension _ _ _ _ _ _ _ _ >>= _) _ _ _
  refine wpAny_bind (wpAny_comprehension_free (Q:=fun _ s'=>wpAny (model X.prog X.w) X.A (pure ()) (fun _ s''=>wpAny (model X.prog X.w) X.A (pure Flow.next) (SP X pins D₀) X.xe s'') X.xe s') (use:=some (assign (.Name x₀ pos₀) X.env)) rfl hs (clo_closure (comp_free I ok)) ok.kind ok.names (thn (hi pins s σ H _ I h) fun v s1 h1=>thn h1 fun itv s2 h2=>?_))
  obtain⟨it,fp,tn,J,H2,rfl,I2,T,st2,f2,W,⟨m0,w0⟩,turn⟩:=h2
  refine wpAny_newObj_type (newEnv_comp fun h₁ hns₁ hsb₁ hcl₁=>?_)
  dsimp only at hns₁ hsb₁ hcl₁ ⊢
  generalize hD:s2.heap.objs.size=D
  generalize hH3:s2.heap.push { cls:=.type "list",dict:=none,data:=.seq ([]:List Value).toArray }=h3 at hns₁ hsb₁ hcl₁ ⊢
  have k23:∀b o,s2.heap.get? b=some o→h3.get? b=some o:=fun b o e=>hH3▸Heap.get?_push_of_some _ e
  have hC:h3.objs.size=D+1:=by rw[← hH3,Heap.size_push,hD]
  have eD3:h3.get? D=some { cls:=.type "list",dict:=none,data:=.seq ([]:List Value).toArray }:=by
    rw[← hH3,← hD];exact Heap.get?_push_size _ rfl
  have I3:Inv X pins σ H2 { s2 with heap:=h3 }:=I2.kept (t':=s2.toks) k23
  have fD:FpOk X pins H2 D:=I2.fpOk (by omega) (I2.hok.fresh (by omega))
  have lt2:∀b∈fp,b < D:=fun b hb=>by
    obtain⟨o,e,_⟩:=T.obj 0 _ st2 b hb
    rw[← hD]
    exact Heap.lt_size e
  have f3:∀b∈D::fp,FpOk X pins H2 b:=fun b hb=>by
    rcases List.mem_cons.mp hb with rfl | hb
    · exact fD
    · exact f2 b hb
  have hx3:∀b∈D::fp,b < ({ s2 with heap:=h3 }:Shared).heap.objs.size:=fun b hb=>by
    show b < h3.objs.size
    rcases List.mem_cons.mp hb with rfl | hb
    · rw[hC];exact Nat.lt_succ_self _
    · rw[hC];exact Nat.lt_succ_of_lt (lt2 b hb)
  have k31:∀b o,h3.get? b=some o→h₁.get? b=some o:=hsb₁
  have okX:=comp_ok (C:=h3.objs.size) (xs:=xs) I3 ok f3 hx3 (Nat.le_refl _)
  have I4:=comp_start (C:=h3.objs.size) (xs:=xs) (t':=s2.toks+([]:List (Str × Value)).length) I3 ok f3 hx3 (Nat.le_refl _) hns₁ k31 hcl₁
  have mD:D∈D::fp:=List.mem_cons_self
  have neC:∀b∈D::fp,b≠h3.objs.size:=fun b hb=>(okX.exf b hb).1
  have stat:∀{H':Hp} {pl:List (Addr × Obj)},(∀b∈fp,H' b=none)→(∀p∈pl,p.1=D)→∀b∈fp,FpOk (compCx X scope xs h3.objs.size { s2 with heap:=h3 } H2 (D::fp) (X.pn++pins)) pl H' b:=fun hn hpl b hb=>by
    have hb':b∈D::fp:=List.mem_cons_of_mem _ hb
    refine⟨hn b hb,neC b hb',okX.exfs b hb',.inl hb',(okX.exf b hb').2,fun p hp=>?_⟩
    rcases List.mem_append.mp hp with hp | hp
    · exact(f2 b hb).2.2.2.2.2 p hp
    · rw[hpl p hp]
      exact Nat.ne_of_gt (lt2 b hb)
  have loop:codeAny (model X.prog X.w) X.A (.compLoop (.ListComp elt [⟨target,iter,[c],0⟩] scope pos) 0 (.ref it) (.ref D) (compEnvC scope (cbOf X.env scope h3.objs.size) h3.objs.size X.env))
      (compPost (model X.prog X.w) X.A X.xe (some (assign (.Name x₀ pos₀) X.env)) (fun _ s'=>wpAny (model X.prog X.w) X.A (pure ()) (fun _ s''=>wpAny (model X.prog X.w) X.A (pure Flow.next) (SP X pins D₀) X.xe s'') X.xe s') (.ref D) h3.objs.size) { s2 with heap:=h₁,toks:=s2.toks+([]:List (Str × Value)).length }:=by
    refine compLoop_if (fun n s'=>∃i ys its k H',Inv (compCx X scope xs h3.objs.size { s2 with heap:=h3 } H2 (D::fp) (X.pn++pins)) [] (σ++List.replicate xs.length none) H' s'∧
      s'.heap.get? D=some { cls:=.type "list",data:=.seq (its:List Value).toArray k }∧Vals ys its∧H' D=none∧tn i s'.heap∧(∀b∈fp,H' b=none)∧W i n ys H') ?_ m0
      ⟨0,[],[],_,H2,I4,k31 _ _ eD3,.nil,fD.1,T.keep _ _ _ st2 (fun b _ o e=>k31 b o (k23 b o e)),fun b hb=>(f2 b hb).1,w0⟩
    rintro n s' ⟨i,ys,its,k,H',I',eD,rv,nD,st,fr,w⟩
    have Ip:=I'.pins_of (pins':=[(D,{ cls:=.type "list",data:=.seq its.toArray k })]) fun p hp=>by
      rw[List.mem_singleton]at hp
      subst hp
      exact⟨eD,nD,neC D mD,okX.exfs D mD,fun v z=>by cases z⟩
    have one:∀p∈[(D,({ cls:=.type "list",data:=.seq its.toArray k }:Obj))],p.1=D:=fun p hp=>by rw[List.mem_singleton]at hp;rw[hp]
    rcases turn i n ys H' w with ⟨stop,hz,q⟩ | ⟨go,hz,step⟩
    · refine thn (T.done (compCx X scope xs h3.objs.size { s2 with heap:=h3 } H2 (D::fp) (X.pn++pins)) rfl rfl rfl hc i _ s' _ H' (fun _ _=>False) Ip (stat fr one) st stop) fun r s4 ⟨hr,J4⟩=>?_
      subst hr
      obtain⟨mm,hnm,_⟩:=J4.loc
      obtain⟨eD4,nD4,_⟩:=J4.pin (D,{ cls:=.type "list",data:=.seq its.toArray k }) (List.mem_append_right _ List.mem_cons_self)
      have u0:Un (frs X.stack) (D::fp) H2 H' h3 s4.heap:=J4.base
      have u:Un (frs X.stack) (D::fp) H2 H' s2.heap s4.heap:=(Un.kept k23).trans u0
      have os4:s4.os=s2.os:=J4.os
      have nC4:H' h3.objs.size=none:=J4.free
      have IX:Inv X pins σ (upd H' D (.lst ys)) s4:=I2.call' (s':=s4) (ch:=D::fp) os4 (u.track (by omega) nD4) (J4.hok.track nD4 ⟨hz,its,k,rv,eD4⟩) J4.bare (fun b hb=>by
        have z:=f3 b hb
        exact⟨z.2.2.2.1,z.2.1,z.2.2.2.2.1,z.2.2.2.2.2⟩)
      have fC:FpOk X pins H2 h3.objs.size:=I2.fpOk (by omega) (I2.hok.fresh (by omega))
      have nCX:upd H' D (.lst ys) h3.objs.size=none:=by rw[upd_ne (Ne.symm (neC D mD))];exact nC4
      refine wpAny_assign_Name (store_ok2 IX hN hi₀ hx₀ (v:=.ref D) rfl (fun s5 I5 ⟨a5,sb5,ha5⟩=>⟨mm,?_,fun h' sb=>?_⟩) hf₀)
      · have:h3.objs.size≠a5:=by
          rcases ha5 with e | e
          · rw[e];exact fC.2.1
          · exact Ne.symm (fC.2.2.2.2.1 x₀ a5 e)
        obtain⟨o,es,ep,e,r⟩:=hnm
        exact⟨o,es,ep,sb5.extBut _ _ this e,r⟩
      · have I6:Inv X pins (σ.set i₀ (some (.ref D))) (upd H' D (.lst ys)) { s5 with heap:=h' }:=I5.turned (t':=s5.toks) (it:=h3.objs.size) (fun b o hb e=>sb.extBut b o hb e) nCX fC.2.1 fC.2.2.2.1 fC.2.2.2.2.1 fC.2.2.2.2.2
        exact wpAny_pure (wpAny_pure ⟨_,_,I6,q D nD4⟩)
    · refine thn (T.item (compCx X scope xs h3.objs.size { s2 with heap:=h3 } H2 (D::fp) (X.pn++pins)) rfl rfl rfl hc i _ s' _ H' (fun _ _=>False) Ip (stat fr one) st go) fun r s4 ⟨u,hr,h4⟩=>?_
      subst hr
      refine thn h4 fun _ s5 ⟨x,H5,I5,r5,y5,st5,fr5⟩=>?_
      have I5':=I5.pinned (stat fr5 one) (T.obj _ _ st5)
      refine thn (hg _ _ _ _ _ _ s5 _ H5 x u _ I5' r5 (step x H5 y5)) fun _ s6 ⟨σ6,H6,I6,⟨zs,hz6,hl6⟩,q6⟩=>?_
      have pinF:∀{s7:Shared} {σ7:St} {H7:Hp},Inv (compCx X scope xs h3.objs.size { s2 with heap:=h3 } H2 (D::fp) (X.pn++pins)) ([(D,{ cls:=.type "list",data:=.seq its.toArray k })]++pinsAt fp s5.heap) σ7 H7 s7→∀b∈fp,∀o,s5.heap.get? b=some o→s7.heap.get? b=some o∧H7 b=none:=fun I7 b hb o e=>
        ⟨(I7.pin (b,o) (List.mem_append_right _ (List.mem_append_right _ (mem_pinsAt hb e)))).1,(I7.pin (b,o) (List.mem_append_right _ (List.mem_append_right _ (mem_pinsAt hb e)))).2.1⟩
      have back:∀{H7:Hp} {s7:Shared},Inv (compCx X scope xs h3.objs.size { s2 with heap:=h3 } H2 (D::fp) (X.pn++pins)) [] σ6 H7 s7→Inv (compCx X scope xs h3.objs.size { s2 with heap:=h3 } H2 (D::fp) (X.pn++pins)) [] (σ++List.replicate xs.length none) H7 s7:=fun I8=>
        I8.weak (by rw[hz6,List.length_append,List.length_append,List.length_replicate,hl6]) (fun j v' e=>by
          have hj:j < σ.length:=by
            by_cases hj:j < σ.length
            · exact hj
            · rw[List.getElem?_append_right (by omega),List.getElem?_replicate]at e
              split at e <;>cases e
          rw[List.getElem?_append_left hj]at e
          rw[hz6,List.getElem?_append_left hj]
          exact e)
      refine thn (ht _ _ _ _ _ _ s6 σ6 H6 _ I6 q6) fun ok s6' ⟨H6',I6',q6'⟩=>?_
      cases ok with
      | false=>
        obtain⟨m',hm',w7⟩:=(show ∃m',m' < n∧W (i+1) m' ys H6' from q6')
        obtain⟨eD7,nD7,_⟩:=I6'.pin (D,{ cls:=.type "list",data:=.seq its.toArray k }) (List.mem_append_right _ (List.mem_append_left _ List.mem_cons_self))
        refine⟨m',hm',i+1,ys,its,_,H6',back (I6'.pins_of (pins':=[]) fun p hp=>by cases hp),eD7,rv,nD7,T.keep _ _ _ st5 (fun b hb o e=>(pinF I6' b hb o e).1),fun b hb=>?_,w7⟩
        obtain⟨o,e,_⟩:=T.obj _ _ st5 b hb
        exact(pinF I6' b hb o e).2
      | true=>
        refine thn (he _ _ _ _ _ _ s6' σ6 H6' _ I6' q6') fun xv s7 ⟨v,H7,I7,r7,m',hm',w7⟩=>?_
        obtain⟨eD7,nD7,_⟩:=I7.pin (D,{ cls:=.type "list",data:=.seq its.toArray k }) (List.mem_append_right _ (List.mem_append_left _ List.mem_cons_self))
        have len:=rv.length
        refine call_meets F.slot_list_append ⟨_,eD7,rfl⟩ F.entry_list_append (F.args_list_append_2 _ _) (PySem.list_append D its.toArray k xv (by rw[List.size_toArray];omega)) ⟨eD7,?_⟩
        have q:=PySem.IsL.update eD7 (fun a=>a.push xv)
        have other:∀b o,b≠D→s7.heap.get? b=some o→(s7.heap.update D (Obj.mapSeq fun a=>a.push xv)).get? b=some o:=fun b o hb e=>(Heap.get?_update_other s7.heap _ (Ne.symm hb)).trans e
        have I7':=I7.pins_of (pins':=[]) fun p hp=>by cases hp
        have I8:=I7'.turned (t':=s7.toks) (it:=D) other nD7 (neC D mD) (.inl mD) (okX.exf D mD).2 (fun p hp=>by
          rw[List.append_nil]at hp
          exact fD.2.2.2.2.2 p hp)
        have e9:its.toArray.push xv=(its++[xv]).toArray:=by simp
        rw[e9]at q
        refine⟨m',hm',i+1,ys++[v],its++[xv],_,H7,back I8,q,rv.append (.cons r7 .nil),nD7,T.keep _ _ _ st5 (fun b hb o e=>other b o (Nat.ne_of_lt (lt2 b hb)) (pinF I7 b hb o e).1),fun b hb=>?_,w7⟩
        obtain⟨o,e,_⟩:=T.obj _ _ st5 b hb
        exact(pinF I7 b hb o e).2
  exact codeAny_compStart_list loop (T.self _ 0 _ _ _ (T.keep _ _ _ st2 fun b _ o e=>k31 b o (k23 b o e)) loop)
theorem ps_hideA{X:Cx}{st:Stmt}{te:TE}{i₀:Nat}(i:Nat)(y:Str)(hi:i₀≠i)(h:PS (X.rn i y) st (tAsg te (gName i₀))):PS X st (fun D σ H=>σ[i]? = some none∧tAsg te (gName i₀) D σ H):=by
  intro pins s σ H D I ⟨h0,q⟩
  have e:(fun v H1=>(σ.set i₀ (some v))[i]? = some none∧D.nx (σ.set i₀ (some v)) H1)=fun v H1=>D.nx (σ.set i₀ (some v)) H1:=by
    funext v H1
    exact propext ⟨fun z=>z.2,fun z=>⟨by rw[List.getElem?_set_ne hi];exact h0,z⟩⟩
  have q':tAsg te (gName i₀) { D with nx:=fun σ' H'=>σ'[i]? = some none∧D.nx σ' H',rt:=fun _ _=>False,bk:=fun _ _=>False,ct:=fun _ _=>False } σ H:=by
    show te σ H fun v H1=>(σ.set i₀ (some v))[i]? = some none∧D.nx (σ.set i₀ (some v)) H1
    rw[e]
    exact q
  refine thn (h pins s σ H _ (I.rn h0) q') fun f s1 sp=>?_
  cases f with
  | next=>
    obtain⟨σ',H',I',z,n⟩:=sp
    exact⟨σ',H',I'.unrn I.ok z,n⟩
  | ret v=>obtain⟨_,_,_,_,_,z⟩:=sp;exact z.elim
  | brk=>obtain⟨_,_,_,z⟩:=sp;exact z.elim
  | cont=>obtain⟨_,_,_,z⟩:=sp;exact z.elim
end L2
namespace L2
open PySem PySem.Spec PyProof.Rows
section
variable{prog:Program}{w:World}{A:Around}{E:Value→Shared→Prop}{s:Shared}
theorem nextT_item{I t:Addr}{i:Nat}{vs:Array Value}{x:Value}{Q:Value→Shared→Prop}(hI:s.heap.IsTupleIter I t i)(ht:s.heap.IsTuple t vs)(e:vs[i]? = some x)
    (q:∀h',h'.IsTupleIter I t (i+1)→Heap.SameBut I s.heap h'→Q x { s with heap:=h' }):wpAny (model prog w) A (Builtin.SmallTypes.nextOf (.ref I)) Q E s:=by
  obtain⟨o,eo,co,fo⟩:=id hI;obtain⟨u,eu,_,n,fu⟩:=ht;unfold Builtin.SmallTypes.nextOf
  refine wpAny_bind (wpAny_callSpecial?_slot (name:=Str.ofString "__next__") hI.typeIs F.slot_tuple_iterator_next (wpAny_call_entry F.slot_tuple_iterator_next hI.typeIs F.entry_tuple_iterator_next ?_ (F.args_tuple_iterator_next_1 _)))
  show wpAny _ _ (field (.ref I) 0 >>= _) _ _ s
  refine wpAny_bind (wpAny_field eo fo (x:=.ref t) rfl ?_);show wpAny _ _ (if(Value.ref t == Value.none)=true then _ else _) _ _ s
  rw[if_neg (show ¬((Value.ref t == Value.none)=true)from Bool.false_ne_true)];show wpAny _ _ (field (.ref I) 1 >>= _) _ _ s
  refine wpAny_bind (wpAny_field eo fo (x:=.int i 0) rfl ?_);show wpAny _ _ (seqItems? (.ref t) >>= _) _ _ s
  refine wpAny_bind (wpAny_seqItems eu fu ?_);simp only[Int.toNat_natCast,e]
  refine wpAny_bind (wpAny_setField eo fo (by simp) (wpAny_pure ⟨x,rfl,wpAny_pure (q _ ?_ (Heap.SameBut.update ..))⟩))
  exact⟨_,Heap.get?_update_self _ eo (Obj.isFreed_of_fields (Obj.data_mapFields fo _)),(Obj.cls_mapFields ..).trans co,by rw[Obj.data_mapFields fo];simp[rawInt]⟩
theorem nextT_end{I t:Addr}{i:Nat}{vs:Array Value}{Q:Value→Shared→Prop}(hh:A.handled=none)(hI:s.heap.IsTupleIter I t i)(ht:s.heap.IsTuple t vs)(e:vs[i]? = none)
    (q:∀h' x,Heap.ExtBut I s.heap h'→(∃o,h'.get? x=some o∧o.cls=.type "StopIteration")→E (.ref x) { s with heap:=h' }):wpAny (model prog w) A (Builtin.SmallTypes.nextOf (.ref I)) Q E s:=by
  obtain⟨o,eo,co,fo⟩:=id hI;obtain⟨u,eu,_,n,fu⟩:=ht;unfold Builtin.SmallTypes.nextOf
  refine wpAny_bind (wpAny_callSpecial?_slot (name:=Str.ofString "__next__") hI.typeIs F.slot_tuple_iterator_next (wpAny_call_entry F.slot_tuple_iterator_next hI.typeIs F.entry_tuple_iterator_next ?_ (F.args_tuple_iterator_next_1 _)))
  show wpAny _ _ (field (.ref I) 0 >>= _) _ _ s
  refine wpAny_bind (wpAny_field eo fo (x:=.ref t) rfl ?_);show wpAny _ _ (if(Value.ref t == Value.none)=true then _ else _) _ _ s
  rw[if_neg (show ¬((Value.ref t == Value.none)=true)from Bool.false_ne_true)];show wpAny _ _ (field (.ref I) 1 >>= _) _ _ s
  refine wpAny_bind (wpAny_field eo fo (x:=.int i 0) rfl ?_);show wpAny _ _ (seqItems? (.ref t) >>= _) _ _ s
  refine wpAny_bind (wpAny_seqItems eu fu ?_);simp only[Int.toNat_natCast,e]
  refine wpAny_bind (wpAny_rule (wpAny_bind (wpAny_setField eo fo (by simp) ?_)));show wpAny _ _ (newExc (.type "StopIteration") [] >>= _) _ _ _
  refine wpAny_bind ?_;simp only[newExc,newTuple]
  refine wpAny_bind (wpAny_newObj_type ?_ (by size_fits));refine wpAny_bind (m:=firstArgMember _ _) (wpAny_of_eq (a:=Value.none) (by first | rfl | (simp only[firstArgMember];rfl)) ?_)
  refine wpAny_newObj_type ?_ (by size_fits);simp only[raiseNew];refine wpAny_bind (wpAny_handled ?_)
  first | rw[show A.in1.handled=none from hh] | rw[hh]
  refine wpAny_bind (wpAny_pure (wpAny_throw ?_));exact q _ _ (((Heap.SameBut.update ..).extBut.push _).push _) ⟨_,Heap.get?_push_size _ rfl,rfl⟩
end
inductive Sr
  | lst (a:Addr)
  | tup (a:Addr)
  | str (x:Str)
def Sr.it:Sr→Heap→Addr→Nat→Prop
  | .lst a,h,I,i=>h.IsListIter I a i
  | .tup a,h,I,i=>h.IsTupleIter I a i
  | .str x,h,I,i=>∃t,h.IsStrIter I (strIterType x) x t i
def Sr.has:Sr→Heap→Array Value→Prop
  | .lst a,h,vs=>h.IsList a vs
  | .tup a,h,vs=>h.IsTuple a vs
  | .str x,_,vs=>vs.size=x.cps.size
def Sr.is:Sr→Array Value→Nat→Value→Prop
  | .lst _,vs,i,v=>vs[i]? = some v
  | .tup _,vs,i,v=>vs[i]? = some v
  | .str x,_,i,v=>∃c u,x.cps[i]? = some c∧v=.str ⟨#[c]⟩ u
def Sr.fp:Sr→Addr→List Addr
  | .lst a,I=>[I,a]
  | .tup a,I=>[I,a]
  | .str _,I=>[I]
def Sr.off:Sr→Addr→Prop
  | .lst a,I=>a≠I
  | .tup a,I=>a≠I
  | .str _,_=>True
theorem Sr.fp_off{S:Sr}{I b:Addr}(h:S.off b)(hb:b≠I):b ∉ S.fp I:=by
  cases S <;>simp[Sr.fp,Sr.off]at h ⊢ <;>first | exact⟨hb,Ne.symm h⟩ | exact hb
theorem Sr.it.mv{S:Sr}{h h':Heap}{I:Addr}{i:Nat}(x:S.it h I i)(k:∀o,h.get? I=some o→h'.get? I=some o):S.it h' I i:=by
  cases S with
  | lst a=>obtain⟨o,e,r⟩:=x;exact⟨o,k o e,r⟩
  | tup a=>obtain⟨o,e,r⟩:=x;exact⟨o,k o e,r⟩
  | str z=>obtain⟨t,o,e,r⟩:=x;exact⟨t,o,k o e,r⟩
theorem Sr.it.obj{S:Sr}{h:Heap}{I:Addr}{i:Nat}(x:S.it h I i):∃o,h.get? I=some o∧∀v,o.data≠.cell v:=by
  cases S with
  | lst a=>obtain⟨o,e,_,d⟩:=x;exact⟨o,e,fun v z=>by rw[d]at z;cases z⟩
  | tup a=>obtain⟨o,e,_,d⟩:=x;exact⟨o,e,fun v z=>by rw[d]at z;cases z⟩
  | str z=>obtain⟨t,o,e,_,d⟩:=x;exact⟨o,e,fun v z=>by rw[d]at z;cases z⟩
theorem Sr.has.mv{S:Sr}{h h':Heap}{vs:Array Value}{I:Addr}(x:S.has h vs)(k:∀b o,b≠I→h.get? b=some o→h'.get? b=some o)(off:S.off I):S.has h' vs:=by
  cases S with
  | lst a=>obtain⟨o,e,r⟩:=x;exact⟨o,k a o off e,r⟩
  | tup a=>obtain⟨o,e,r⟩:=x;exact⟨o,k a o off e,r⟩
  | str z=>exact x
theorem Sr.draws{prog:Program}{w:World}{A:Around}(S:Sr)(hh:A.handled=none)(I:Addr)(off:S.off I)(vs:Array Value) :
    Draws prog w A I (S.fp I) vs.size (S.is vs) (fun i h=>S.it h I i∧S.has h vs):=by
  cases S with
  | lst a=>exact Draws.list hh I a off vs
  | tup a=>exact{
      live:=fun _ _ st=>let⟨o,e,_⟩:=st.1;⟨o,e⟩
      frame:=fun _ _ _ st k=>⟨let⟨o,e,r⟩:=st.1;⟨o,k I (by simp[Sr.fp]) o e,r⟩,let⟨o,e,r⟩:=st.2;⟨o,k a (by simp[Sr.fp]) o e,r⟩⟩
      item:=fun i s Q E hi st q=>nextT_item st.1 st.2 (x:=vs[i]) (by simp[hi]) fun h' a' b'=>q _ h' s.toks (show vs[i]? = some vs[i] by simp[hi]) ⟨a',Heap.IsTuple.extBut st.2 b'.extBut off⟩ b'
      done:=fun s Q E st q=>nextT_end hh st.1 st.2 (by simp) q }
  | str x=>
    cases ha:x.cps.all (· < 128)with
    | true=>
      have e:strIterType x="str_ascii_iterator":=by simp[strIterType,ha]
      exact{
        live:=fun _ _ st=>let⟨_,o,e,_⟩:=st.1;⟨o,e⟩
        frame:=fun _ _ _ st k=>⟨let⟨t,o,e,r⟩:=st.1;⟨t,o,k I (by simp[Sr.fp]) o e,r⟩,st.2⟩
        item:=fun i s Q E hi st q=>by
          obtain⟨⟨t,g⟩,z⟩:=st
          have hz:vs.size=x.cps.size:=z
          rw[e]at g
          exact(Draws.strAscii (prog:=prog) (w:=w) hh I x t).item i s Q E (by omega) g fun v h' tk p st' sb=>q v h' tk p ⟨⟨t,by rw[e];exact st'⟩,z⟩ sb
        done:=fun s Q E st q=>by
          obtain⟨⟨t,g⟩,z⟩:=st
          have hz:vs.size=x.cps.size:=z
          rw[e,hz]at g
          exact(Draws.strAscii (prog:=prog) (w:=w) hh I x t).done s Q E g q }
    | false=>
      have e:strIterType x="str_iterator":=by simp[strIterType,ha]
      exact{
        live:=fun _ _ st=>let⟨_,o,e,_⟩:=st.1;⟨o,e⟩
        frame:=fun _ _ _ st k=>⟨let⟨t,o,e,r⟩:=st.1;⟨t,o,k I (by simp[Sr.fp]) o e,r⟩,st.2⟩
        item:=fun i s Q E hi st q=>by
          obtain⟨⟨t,g⟩,z⟩:=st
          have hz:vs.size=x.cps.size:=z
          rw[e]at g
          exact(Draws.strWide (prog:=prog) (w:=w) hh I x t).item i s Q E (by omega) g fun v h' tk p st' sb=>q v h' tk p ⟨⟨t,by rw[e];exact st'⟩,z⟩ sb
        done:=fun s Q E st q=>by
          obtain⟨⟨t,g⟩,z⟩:=st
          have hz:vs.size=x.cps.size:=z
          rw[e,hz]at g
          exact(Draws.strWide (prog:=prog) (w:=w) hh I x t).done s Q E g q }
end L2
namespace L2
open PySem PySem.Spec PyProof.Rows
structure ZA(S1 S2:Sr)(z TI TO i1 i2:Addr):Prop where
  a:TI≠z
  b:TO≠z
  c:i1≠z
  d:i2≠z
  e:TI≠TO
  f:TI≠i1
  g:TI≠i2
  h:TO≠i1
  i:TO≠i2
  j:i1≠i2
  k:∀x∈[z,TO,i1,i2],S1.off x∧S2.off x
structure ZS(S1 S2:Sr)(v1 v2:Array Value)(z TI TO i1 i2:Addr)(n:Nat)(u:Value)(h:Heap):Prop where
  z:IsZip h z TI TO u
  ti:IsPair h TI (.ref i1) (.ref i2)
  to:∃x y,IsPair h TO x y
  s1:S1.it h i1 n
  s2:S2.it h i2 n
  h1:S1.has h v1
  h2:S2.has h v2
section
variable{prog:Program}{w:World}{A:Around}{E:Value→Shared→Prop}{s:Shared}{S1 S2:Sr}{v1 v2:Array Value}{z TI TO i1 i2:Addr}{n:Nat}
end
def Sr.val:Sr→Value→Prop
  | .lst a,v=>v=.ref a
  | .tup a,v=>v=.ref a
  | .str x,v=>∃t,v=.str x t
end L2
namespace L2
open PySem PySem.Spec PyProof.Rows
abbrev tIt(l:Addr):Obj:={ cls:=.type "tuple_iterator",data:=.fields #[.ref l,.int 0 0] }
abbrev enO(i:Addr):Obj:={ cls:=.type "enumerate",data:=.fields #[.none,.bool false,.ref i,rawInt 0,.none,.none] }
theorem enum_newT(l:Addr)(vs:Array Value)(n:Nat)(dct:Option Addr)(sl:Array (Option Value)) :
    Meets (Builtin.«enumerate.__new__» ⟨[.type "enumerate",.ref l],[]⟩) (fun _ R s=>s.heap.get? l=some { cls:=.type "tuple",dict:=dct,data:=.seq vs n,slots:=sl }∧
      R (.ok (.ret (.ref (s.heap.push (tIt l)).objs.size))) { s with heap:=(s.heap.push (tIt l)).push (enO s.heap.objs.size) }):=
  .of_wp fun prog w A R s h=>by
    obtain⟨hp,g,d,tk,os⟩:=s;obtain⟨hl,h⟩:=h;have hsub:=sub_enumerate
    have hL:Heap.IsTuple (Shared.heap ⟨hp,g,d,tk,os⟩) l vs:=⟨_,hl,rfl,n,rfl⟩
    wp_walk using AutoSeq1.wpAny_loadPart' hl
    refine wpAny_stack_any fun st=>wpAny_pure ?_;split
    · rename_i c _ _ _ _ _;cases (c == Value.type "enumerate")
      · wp_walk using AutoSeq1.wpAny_loadPart' hl,wpAny_pyIter_tuple hL;exact⟨_,rfl,h⟩
      · wp_walk using AutoSeq1.wpAny_loadPart' hl,wpAny_pyIter_tuple hL;exact⟨_,rfl,h⟩
    · wp_walk using AutoSeq1.wpAny_loadPart' hl,wpAny_pyIter_tuple hL;exact⟨_,rfl,h⟩
theorem call_enumT{prog:Program}{w:World}{A:Around}{E:Value→Shared→Prop}{s:Shared}{l:Addr}{vs:Array Value}{Q:Value→Shared→Prop}(hL:s.heap.IsTuple l vs)
    (h:∀h',IsEnum h' (s.heap.objs.size+1) s.heap.objs.size 0 .none→h'.IsTupleIter s.heap.objs.size l 0→(∀b o,s.heap.get? b=some o→h'.get? b=some o)→Q (.ref (s.heap.objs.size+1)) { s with heap:=h' }) :
    wpAny (model prog w) A (call (.type "enumerate") [.ref l]) Q E s:=by
  obtain⟨⟨c,dct,dt,sl⟩,hl,hc,n,hd⟩:=hL
  replace hc:c=.type "tuple":=hc;replace hd:dt=.seq vs n:=hd;subst hc hd
  refine callType_new F.called_enumerate (by decide) (F.typeCall_enumerate_1 _) (F.newCall_enumerate_1 _) (fun obj=>F.args_object_init_2 obj _) F.entry_enumerate_new (enum_newT l vs n dct sl) ⟨hl,?_⟩
  have hz:(s.heap.push (tIt l)).objs.size=s.heap.objs.size+1:=Heap.size_push ..
  show _∧_
  rw[hz]
  have he:IsEnum ((s.heap.push (tIt l)).push (enO s.heap.objs.size)) (s.heap.objs.size+1) s.heap.objs.size 0 .none:=by
    have:=Heap.get?_push_size (s.heap.push (tIt l)) (o:=enO s.heap.objs.size) rfl
    rw[hz]at this;exact this
  exact⟨⟨_,he,rfl⟩,h _ he ⟨_,Heap.get?_push_of_some _ (Heap.get?_push_size _ rfl),rfl,rfl⟩ fun b o x=>Heap.get?_push_of_some _ (Heap.get?_push_of_some _ x)⟩
theorem call_enum{prog:Program}{w:World}{A:Around}{E:Value→Shared→Prop}{s:Shared}{S:Sr}{vs:Array Value}{v:Value}{Q:Value→Shared→Prop}(e:S.val v)(x:S.has s.heap vs)
    (h:∀h',IsEnum h' (s.heap.objs.size+1) s.heap.objs.size 0 .none→S.it h' s.heap.objs.size 0→(∀b o,s.heap.get? b=some o→h'.get? b=some o)→Q (.ref (s.heap.objs.size+1)) { s with heap:=h' }) :
    wpAny (model prog w) A (call (.type "enumerate") [v]) Q E s:=by
  cases S with
  | lst a=>cases (show v=.ref a from e);exact call_enumerate_list x fun h' a b _ c=>h h' a b c
  | tup a=>cases (show v=.ref a from e);exact call_enumT x h
  | str z=>obtain⟨t,rfl⟩:=(show ∃t,v=.str z t from e);exact call_enumerate_str fun h' a b _ c=>h h' a ⟨t,b⟩ c
end L2
namespace L2
open PySem PySem.Spec PyProof.Rows
section
variable{X:Cx}{pins:List (Addr × Obj)}{σ:St}{H:Hp}{s:Shared}{h':Heap}
theorem Inv.turneds{t':Nat}{ch:List Addr}(I:Inv X pins σ H s)(k:∀b o,b ∉ ch→s.heap.get? b=some o→h'.get? b=some o)(hf:∀b∈ch,FpOk X pins H b):Inv X pins σ H { s with heap:=h',toks:=t' }:=by
  have nit:∀b u,H b=some u→b ∉ ch:=fun b u e z=>by rw[(hf b z).1]at e;cases e
  refine I.step (g':=s.gens) (d':=s.drawn) (ch:=ch) (fun b hb=>?_) (fun b o _ _ hc e _=>k b o hc e) (fun b o _ _ hc e _=>⟨o.slots,k b o hc e⟩) (fun _ _ _ _ n=>n) (fun b o hc e=>⟨o,k b o hc e⟩) (fun _ _ e=>e) (fun _ _ _ e=>e)
    (fun b ps e=>⟨#[],by rw[e];simp⟩) (fun m hm=>?_) (fun b u e=>?_) I.bare
  · obtain⟨f0,f1,f2,f3,f4,f5⟩:=hf b hb
    exact⟨f3,f1,f4,f5⟩
  · obtain⟨o,es,ep,ho,r⟩:=hm
    exact⟨o,es,ep,k _ o (fun z=>(hf _ z).2.1 rfl) ho,r⟩
  · refine(I.hok b u e).stay (fun c v hc q=>k c v ?_ q) (fun _ q=>q) fun _ _ q=>q
    rcases hc with z | z
    · rw[z];exact nit b u e
    · exact nit c _ z
theorem Inv.track{a:Addr}{o:HO}(I:Inv X pins σ H s)(hs:X.s₀.heap.objs.size≤a)(f:FpOk X pins H a)(new:ObjOk X.prog X.w (upd H a o) s.heap a o):Inv X pins σ (upd H a o) s:=
  ⟨I.ok,I.os,I.bare,I.base.track hs f.1,I.loc,I.cell,by rw[upd_ne (Ne.symm f.2.1)];exact I.free,fun x c e=>by rw[upd_ne (f.2.2.2.2.1 x c e)];exact I.freeC x c e,fun p hp=>by
    obtain⟨e,n,r⟩:=I.pin p hp
    exact⟨e,by rw[upd_ne (f.2.2.2.2.2 p hp)];exact n,r⟩,I.hok.track f.1 new,I.len⟩
end
def signs(x:Str):List V:=x.cps.toList.map fun c=>V.str ⟨#[c]⟩
def Sr.vals(K:PySem.W.Frag)(H:Hp):Sr→List V→Prop
  | .lst a,xs=>SqL K H a xs
  | .tup a,xs=>SqT K H a xs
  | .str x,xs=>xs=signs x
def Sr.ofV:Sr→V→Prop
  | .lst a,v=>v=.ref a
  | .tup a,v=>v=.ref a
  | .str x,v=>v=.str x
section
variable{X:Cx}{pins:List (Addr × Obj)}{σ:St}{H:Hp}{s:Shared}{S:Sr}{xs ys:List V}
theorem Sr.vals.get(I:Inv X pins σ H s)(h:S.vals X.K H xs):∃vs,S.has s.heap vs∧vs.size=xs.length∧∀i x v,xs[i]? = some x→S.is vs i v→RelV x v:=by
  cases S with
  | lst a=>
    obtain⟨its,rv,p,hz⟩:=I.list h
    refine⟨its.toArray,p.isList,by have:=rv.length;simp;omega,fun i x v e1 e2=>?_⟩
    obtain⟨u,hu,ru⟩:=rv.get e1
    have e2:its.toArray[i]? = some v:=e2
    rw[List.getElem?_toArray,hu]at e2
    cases e2
    exact ru
  | tup a=>
    obtain⟨its,rv,p,hz⟩:=I.tuple h
    refine⟨its.toArray,(show s.heap.IsTuple a its.toArray from p),by have:=rv.length;simp;omega,fun i x v e1 e2=>?_⟩
    obtain⟨u,hu,ru⟩:=rv.get e1
    have e2:its.toArray[i]? = some v:=e2
    rw[List.getElem?_toArray,hu]at e2
    cases e2
    exact ru
  | str z=>
    cases (show xs=signs z from h)
    refine⟨Array.replicate z.cps.size .none,by show(Array.replicate _ _).size=_;simp,by simp[signs],fun i x v e1 e2=>?_⟩
    obtain⟨c,u,ec,rfl⟩:=(show ∃c u,z.cps[i]? = some c∧v=.str ⟨#[c]⟩ u from e2)
    have:(signs z)[i]? = some (V.str ⟨#[c]⟩):=by simp[signs,ec]
    rw[this]at e1
    cases e1
    exact⟨u,rfl⟩
theorem Sr.vals.inj(I:Inv X pins σ H s)(h:S.vals X.K H xs)(h':S.vals X.K H ys):xs=ys:=by
  cases S with
  | lst a=>exact I.list_inj h h'
  | tup a=>exact I.tuple_inj h h'
  | str z=>exact(show xs=signs z from h).trans (show ys=signs z from h').symm
theorem Sr.ofV.val{x:V}{u:Value}(e:S.ofV x)(r:RelV x u):S.val u:=by
  cases S with
  | lst a=>cases (show x=.ref a from e);exact r
  | tup a=>cases (show x=.ref a from e);exact r
  | str z=>cases (show x=.str z from e);exact r
end
theorem Sr.vals.same{K:PySem.W.Frag}{H H':Hp}{S:Sr}{xs:List V}(h:S.vals K H xs)(hl:∀a,SqL K H a xs→SqL K H' a xs)(ht:∀a,SqT K H a xs→SqT K H' a xs):S.vals K H' xs:=by
  cases S with
  | lst a=>exact hl a h
  | tup a=>exact ht a h
  | str z=>exact h
def Ite(K:PySem.W.Frag)(S:Sr):It:=
  ⟨fun i H=>∃xs x,S.vals K H xs∧xs[i]? = some x,fun i H v H'=>∃p x,v=.ref p∧H p=none∧H'=upd H p (.tup [.int i,x])∧∀xs,S.vals K H xs→xs[i]? = some x,fun i H=>∃xs,S.vals K H xs∧i=xs.length⟩
theorem Sr.fp_it(S:Sr)(I:Addr):I∈S.fp I:=by cases S <;>simp[Sr.fp]
theorem turn_enum{P:Program}{w:World}{K:PySem.W.Frag}{es:List Expr}{kk:Nat}{tp:Pos}{S:Sr}{e it:Addr}(D:e≠it)(o1:S.off e)(o2:S.off it) :
    Turn P w K (.Tuple es kk tp) (Ite K S) [e,it] e (fun i h=>(∃old,IsEnum h e it i old)∧S.it h it i)where
  mem:=by simp
  obj:=fun i h st b hb=>by
    obtain⟨⟨old,he⟩,h1⟩:=st
    simp only[List.mem_cons,List.not_mem_nil,or_false]at hb
    rcases hb with rfl | rfl
    · exact⟨_,he,fun v z=>by simp at z⟩
    · exact h1.obj
  keep:=fun i h h' st k=>by
    obtain⟨⟨old,he⟩,h1⟩:=st
    exact⟨⟨old,k e (by simp) _ he⟩,h1.mv fun o q=>k it (by simp) o q⟩
  item:=by
    intro X hP hw hK hc i pins s σ H E I hf st hg
    subst hP hw hK
    obtain⟨xs,x,hx,ex⟩:=hg
    obtain⟨vs,a1,z1,r1⟩:=Sr.vals.get I hx
    obtain⟨⟨old,he⟩,h1⟩:=st
    have l1:=(List.getElem?_eq_some_iff.mp ex).1
    have lt:∀b∈[e,it],b < s.heap.objs.size:=fun b hb=>by
      simp only[List.mem_cons,List.not_mem_nil,or_false]at hb
      rcases hb with rfl | rfl
      · exact Heap.lt_size he
      · obtain⟨_,q,_⟩:=h1.obj;exact Heap.lt_size q
    have hh:X.A.in1.handled=none:=I.ok.hd hc
    have W:=WalksT.enumerateD (prog:=X.prog) (w:=X.w) (A:=X.A) (S.draws hh it o2 vs) e D (Sr.fp_off o1 D) (S.fp_it it)
    refine W.item i s _ E (by omega) ⟨⟨old,he⟩,h1,a1⟩ fun T vals h' tk hP hT ht hM hk=>⟨_,rfl,W.go es kk tp i T _ _ E hM fun h'' st'' hk''=>?_⟩
    obtain⟨t,xv,px,rfl⟩:=hP
    have kk:∀b o,b ∉ [e,it]→s.heap.get? b=some o→h''.get? b=some o:=fun b o hb q=>hk'' b o hb (hk b o hb q)
    have I1:Inv X pins σ H { s with heap:=h'',toks:=tk }:=I.turneds (t':=tk) kk hf
    have fT:FpOk X pins H T:=I.fpOk hT (I.hok.fresh hT)
    have nT:T ∉ [e,it]:=W.apart i T _ hM
    have oT:h''.IsTuple T #[.int i t,xv]:=let⟨o,q,r⟩:=ht;⟨o,hk'' T o nT q,r⟩
    have I2:Inv X pins σ (upd H T (.tup [.int i,x])) { s with heap:=h'',toks:=tk }:=I1.track (Nat.le_trans I.sz hT) fT
      ⟨by show 2≤sizeLine;decide,[.int i t,xv],.cons ⟨t,rfl⟩ (.cons (r1 i x xv ex px) .nil),oT,fun z=>absurd rfl (z i x)⟩
    refine⟨.ref T,_,I2,rfl,⟨_,x,rfl,fT.1,rfl,fun xs' h=>by rw[Sr.vals.inj I h hx];exact ex⟩,⟨st''.1,st''.2.1⟩,fun b hb=>?_⟩
    rw[upd_ne (Nat.ne_of_lt (Nat.lt_of_lt_of_le (lt b hb) hT))]
    exact(hf b hb).1
  done:=by
    intro X hP hw hK hc i pins s σ H E I hf st hg
    subst hP hw hK
    obtain⟨xs,hx,l⟩:=hg
    obtain⟨vs,a1,z1,r1⟩:=Sr.vals.get I hx
    obtain⟨⟨old,he⟩,h1⟩:=st
    have hh:X.A.in1.handled=none:=I.ok.hd hc
    have W:=WalksT.enumerateD (prog:=X.prog) (w:=X.w) (A:=X.A) (S.draws hh it o2 vs) e D (Sr.fp_off o1 D) (S.fp_it it)
    have ei:i=vs.size:=by omega
    subst ei
    exact W.done s _ E ⟨⟨old,he⟩,h1,a1⟩ fun h' tk hk=>⟨rfl,I.turneds (t':=tk) hk hf⟩
  self:=fun _ _ _ _ _ st h=>by
    obtain⟨⟨old,he⟩,_⟩:=st
    exact wpAny_pyIter_enum he h
def iEnum(K:PySem.W.Frag)(ta:TA):TI:=fun σ H R=>ta σ H fun vs H1=>∃S x xs,vs=[x]∧Sr.ofV S x∧S.vals K H1 xs∧R (Ite K S) H1
theorem pi_enum{X:Cx}{a:Expr}{ta:TA}{p pos tp:Pos}{es:List Expr}{kk:Nat}(hg:Gl X "enumerate")(hm:X.mg "enumerate"=none)(ha:PA X [a] ta)(hs:starEach [a] X.env=[(false,eval a X.env)]:=by rfl) :
    PI X (.Tuple es kk tp) (.Call (.Name "enumerate" p) [a] [] pos) (iEnum X.K ta):=by
  intro pins s σ H R I h
  refine Call_ (ld_blt I hg hm boot_enumerate (PyProof.Rows.callWith_type1 (thn (ha pos pins s σ H _ I h) fun us s1 ⟨vs,H1,I1,r1,q1⟩=>?_) hs rfl))
  obtain⟨S,x,xs,e,e1,hx,q⟩:=q1
  subst e
  cases r1 with
  | cons r rr=>
    cases rr
    obtain⟨v1,a1,z1,_⟩:=Sr.vals.get I1 hx
    have off:∀k:Nat,S.off (s1.heap.objs.size+k):=fun k=>by
      cases S with
      | lst a=>obtain⟨o,q,_⟩:=a1;exact Nat.ne_of_lt (Nat.lt_of_lt_of_le (Heap.lt_size q) (Nat.le_add_right _ k))
      | tup a=>obtain⟨o,q,_⟩:=a1;exact Nat.ne_of_lt (Nat.lt_of_lt_of_le (Heap.lt_size q) (Nat.le_add_right _ k))
      | str z=>exact trivial
    refine call_enum (e1.val r) a1 fun h' he hi up=>wpAny_pyIter_enum he ⟨_,_,_,_,H1,rfl,I1.kept (t':=s1.toks) up,turn_enum (Nat.succ_ne_self _) (off 1) (off 0),⟨⟨_,he⟩,hi⟩,fun b hb=>?_,q⟩
    simp only[List.mem_cons,List.not_mem_nil,or_false]at hb
    have le:s1.heap.objs.size≤b:=by rcases hb with rfl | rfl <;>omega
    exact I1.fpOk le (I1.hok.fresh le)
end L2
namespace L2
open PySem PySem.Spec PyProof.Rows
section
variable{X:Cx}
def Its(z:Str):It:=⟨fun i _=>i < z.cps.size,fun i H x H'=>H'=H∧∃c,z.cps[i]? = some c∧x=.str ⟨#[c]⟩,fun i _=>z.cps.size≤i⟩
theorem turn_str{P:Program}{w:World}{K:PySem.W.Frag}{tg:Expr}(z:Str)(t:Tok)(it:Addr):Turn P w K tg (Its z) [it] it (fun i h=>h.IsStrIter it "str_ascii_iterator" z t i)where
  mem:=by simp
  obj:=fun i h st b hb=>by
    have e:b=it:=by simpa using hb
    subst e
    obtain⟨o,e,c,d⟩:=st
    exact⟨o,e,fun v q=>by rw[d]at q;cases q⟩
  keep:=fun i h h' st k=>by
    obtain⟨o,e,r⟩:=st
    exact⟨o,k it (by simp) o e,r⟩
  item:=by
    intro X hP hw hK hc i pins s σ H E I hf st hg
    subst hP hw hK
    have hg:i < z.cps.size:=hg
    obtain⟨f0,f1,f2,f3,f4,f5⟩:=hf it (by simp)
    refine wpAny_pyNext_ascii_item st (c:=z.cps[i]) (by simp[hg]) fun h' st' sb=>?_
    have I1:Inv X pins σ H { s with heap:=h',toks:=s.toks+1 }:=I.turned (t':=s.toks+1) (fun b o hb e=>(sb.2 b hb).trans e) f0 f1 f3 f4 f5
    obtain⟨o,e,c,d⟩:=id st'
    exact⟨_,rfl,go_of (s:={ s with heap:=h',toks:=s.toks+1 }) e c d (by decide) ⟨.str ⟨#[z.cps[i]]⟩,H,I1,⟨_,rfl⟩,⟨rfl,_,by simp[hg],rfl⟩,st',fun b hb=>(hf b hb).1⟩⟩
  done:=by
    intro X hP hw hK hc i pins s σ H E I hf st hg
    subst hP hw hK
    have hg:z.cps.size≤i:=hg
    obtain⟨f0,f1,f2,f3,f4,f5⟩:=hf it (by simp)
    exact wpAny_pyNext_ascii_end (I.ok.hd hc) st (by simp;omega) fun h' eb=>⟨rfl,I.turned (t':=s.toks) (fun b o hb e=>eb b o hb e) f0 f1 f3 f4 f5⟩
  self:=fun _ _ _ _ _ st h=>wpAny_pyIter_striter_ascii st h
def iStr(tl:TE):TI:=fun σ H R=>tl σ H fun x H1=>∃z,x=.str z∧z.cps.all (· < 128)=true∧R (Its z) H1
theorem pi_str{tg l:Expr}{tl:TE}(hl:PE X l tl):PI X tg l (iStr tl):=by
  intro pins s σ H R I h
  refine thn (hl pins s σ H _ I h) fun v s1 ⟨x,H1,I1,r1,z,e,ha,q⟩=>?_
  subst e
  obtain⟨t,rfl⟩:=r1
  refine wpAny_pyIter_ascii ha ?_
  have hf:H1 s1.heap.objs.size=none:=I1.hok.fresh (Nat.le_refl _)
  refine⟨s1.heap.objs.size,[s1.heap.objs.size],_,Its z,H1,rfl,I1.kept (t':=s1.toks) (fun b ob q=>Heap.get?_push_of_some _ q),turn_str z t _,⟨_,Heap.get?_push_size _ rfl,rfl,rfl⟩,fun b hb=>?_,q⟩
  have e:b=s1.heap.objs.size:=by simpa using hb
  subst e
  exact I1.fpOk (Nat.le_refl _) hf
end
end L2
namespace L2
open PySem PySem.Spec PyProof.Rows
section
variable{X:Cx}
theorem vals_bl{bs:List Bool}{its:List Value}(r:Vals (bs.map V.bl) its){i:Nat}{v:Value}(h:its[i]? = some v):∃b,bs[i]? = some b∧v=.bool b:=by
  have len:=r.length
  rw[List.length_map]at len
  have hi:i < its.length:=(List.getElem?_eq_some_iff.mp h).1
  have hb:bs[i]? = some (bs[i]'(by omega)):=List.getElem?_eq_getElem (by omega)
  obtain⟨u,hu,ru⟩:=r.get (i:=i) (x:=V.bl (bs[i]'(by omega))) (by rw[List.getElem?_map,hb];rfl)
  rw[h]at hu
  cases hu
  exact⟨_,hb,ru⟩
theorem all_range(bs:List Bool):(List.range bs.length).all (fun i=>bs[i]?.getD false)=bs.all id:=by
  rw[Bool.eq_iff_iff,List.all_eq_true,List.all_eq_true]
  constructor
  · intro h b hb
    obtain⟨i,hi,e⟩:=List.getElem_of_mem hb
    have:=h i (List.mem_range.mpr hi)
    rw[List.getElem?_eq_getElem hi,Option.getD_some,e]at this
    exact this
  · intro h i hi
    have hi:=List.mem_range.mp hi
    rw[List.getElem?_eq_getElem hi,Option.getD_some]
    exact h _ (List.getElem_mem hi)
theorem any_range(bs:List Bool):(List.range bs.length).any (fun i=>bs[i]?.getD false)=bs.any id:=by
  rw[Bool.eq_iff_iff,List.any_eq_true,List.any_eq_true]
  constructor
  · rintro⟨i,hi,e⟩
    have hi:=List.mem_range.mp hi
    rw[List.getElem?_eq_getElem hi,Option.getD_some]at e
    exact⟨_,List.getElem_mem hi,e⟩
  · rintro⟨b,hb,e⟩
    obtain⟨i,hi,e'⟩:=List.getElem_of_mem hb
    exact⟨i,List.mem_range.mpr hi,by rw[List.getElem?_eq_getElem hi,Option.getD_some,e'];exact e⟩
def rAll(K:PySem.W.Frag)(f:List Bool→Bool):List V→Hp→VK→Prop:=fun xs H Q=>∃a bs,xs=[.ref a]∧SqL K H a (bs.map V.bl)∧Q (.bl (f bs)) H
theorem call_all(hc:X.calm=true):CallR X (.builtin "all") (rAll X.K fun bs=>bs.all id):=by
  intro pins s σ H xs us Q I r h
  obtain⟨a,bs,rfl,hq,q⟩:=h
  obtain⟨u,rfl,ru⟩:=r.one
  cases (show u=Value.ref a from ru)
  obtain⟨its,rv,p,hz⟩:=I.list hq
  have lt:a≠s.heap.objs.size:=by obtain⟨o,n,e,_⟩:=p;exact Nat.ne_of_lt (Heap.lt_size e)
  have hh:X.A.in1.handled=none:=I.ok.hd hc
  have hl:=p.isList
  have len:=rv.length
  rw[List.length_map]at len
  refine call_all_walk (wpAny_pyIter_list hl ⟨_,_,_,_,_,_,fun i=>bs[i]?.getD false,rfl,Walks.list hh s.heap.objs.size a lt its.toArray,⟨⟨_,Heap.get?_push_size _ rfl,rfl,rfl⟩,Heap.IsList.push hl _⟩,fun i v s' Q' E' hv q'=>?_,fun h' tk k=>?_⟩)
  · have hv:its.toArray[i]? = some v:=hv
    rw[List.getElem?_toArray]at hv
    obtain⟨b,eb,rfl⟩:=vals_bl rv hv
    have q':Q' (bs[i]?.getD false) s':=q'
    rw[eb]at q'
    exact wpAny_truthy_bool q'
  · rw[List.size_toArray,← len,all_range]
    refine⟨.bl _,H,I.kept (t':=tk) fun b o e=>k b o (fun z=>?_) (Heap.get?_push_of_some _ e),rfl,q⟩
    rw[List.mem_singleton]at z
    exact absurd (Heap.lt_size e) (by rw[z];exact Nat.lt_irrefl _)
theorem call_any(hc:X.calm=true):CallR X (.builtin "any") (rAll X.K fun bs=>bs.any id):=by
  intro pins s σ H xs us Q I r h
  obtain⟨a,bs,rfl,hq,q⟩:=h
  obtain⟨u,rfl,ru⟩:=r.one
  cases (show u=Value.ref a from ru)
  obtain⟨its,rv,p,hz⟩:=I.list hq
  have lt:a≠s.heap.objs.size:=by obtain⟨o,n,e,_⟩:=p;exact Nat.ne_of_lt (Heap.lt_size e)
  have hh:X.A.in1.handled=none:=I.ok.hd hc
  have hl:=p.isList
  have len:=rv.length
  rw[List.length_map]at len
  refine call_any_walk (wpAny_pyIter_list hl ⟨_,_,_,_,_,_,fun i=>bs[i]?.getD false,rfl,Walks.list hh s.heap.objs.size a lt its.toArray,⟨⟨_,Heap.get?_push_size _ rfl,rfl,rfl⟩,Heap.IsList.push hl _⟩,fun i v s' Q' E' hv q'=>?_,fun h' tk k=>?_⟩)
  · have hv:its.toArray[i]? = some v:=hv
    rw[List.getElem?_toArray]at hv
    obtain⟨b,eb,rfl⟩:=vals_bl rv hv
    have q':Q' (bs[i]?.getD false) s':=q'
    rw[eb]at q'
    exact wpAny_truthy_bool q'
  · rw[List.size_toArray,← len,any_range]
    refine⟨.bl _,H,I.kept (t':=tk) fun b o e=>k b o (fun z=>?_) (Heap.get?_push_of_some _ e),rfl,q⟩
    rw[List.mem_singleton]at z
    exact absurd (Heap.lt_size e) (by rw[z];exact Nat.lt_irrefl _)
end
end L2
namespace L2
open PySem PySem.Spec PyProof.Rows
section
variable{prog:Program}{w:World}{A:Around}{E:Value→Shared→Prop}{s:Shared}
end
theorem for_it{J:It}{n:Nat}{g:TG}{tb:TS}{D:Ends}{σ:St}{H:Hp}(Pv:Nat→St→Hp→Prop)(h0:Pv 0 σ H)
    (hs:∀i σ H,i < n→Pv i σ H→J.go i H∧∀x H',J.yld i H x H'→g x σ H' fun σ2 H2=>tb { D with nx:=Pv (i+1),ct:=Pv (i+1),bk:=D.nx } σ2 H2) (hd:∀σ H,Pv n σ H→J.stop n H∧D.nx σ H) :
    ∃W:Nat→Nat→St→Hp→Prop,(∃m,W 0 m σ H)∧∀i m σ H,W i m σ H→
      (J.stop i H∧D.nx σ H)∨(J.go i H∧∃N:St→Hp→Prop,(∀σ' H',N σ' H'→∃m',m' < m∧W (i+1) m' σ' H')∧∀x H',J.yld i H x H'→g x σ H' fun σ2 H2=>tb { D with nx:=N,ct:=N,bk:=D.nx } σ2 H2):=by
  refine⟨fun i m σ H=>m=n - i∧i≤n∧Pv i σ H,⟨n,by simp,Nat.zero_le _,h0⟩,?_⟩
  rintro i m σ H ⟨rfl,hi,p⟩
  by_cases hlt:i < n
  · obtain⟨a,b⟩:=hs i σ H hlt p
    exact .inr ⟨a,Pv (i+1),fun σ' H' p'=>⟨n - (i+1),by omega,rfl,hlt,p'⟩,b⟩
  · have e:i=n:=by omega
    subst e
    exact .inl (hd σ H p)
end L2
namespace L2
open PySem PySem.Spec PyProof.Rows
def SameT(H H':Hp):Prop:=∀p vs,H p=some (.tup vs)→H' p=some (.tup vs)
theorem SameT.refl(H:Hp):SameT H H:=fun _ _ h=>h
theorem SameT.trans{H H1 H2:Hp}(x:SameT H H1)(y:SameT H1 H2):SameT H H2:=fun p vs h=>y p vs (x p vs h)
theorem Same.t{H H':Hp}(x:Same H H'):SameT H H':=fun p vs h=>x p _ h
def Ents(Pd:Nat→V→Hp→Prop)(ys:List V)(n:Nat)(H:Hp):Prop:=ys.length=n∧∀j,j < n→∃u,ys[j]? = some u∧Pd j u H
section
variable{Pd Pe:Nat→V→Hp→Prop}{ys:List V}{n:Nat}{H H':Hp}{v:V}
theorem Ents.nil:Ents Pd [] 0 H:=⟨rfl,fun j h=>absurd h (Nat.not_lt_zero j)⟩
theorem Ents.mono(h:Ents Pd ys n H)(s:∀j u,j < n→Pd j u H→Pe j u H'):Ents Pe ys n H':=⟨h.1,fun j hj=>by
  obtain⟨u,e,p⟩:=h.2 j hj
  exact⟨u,e,s j u hj p⟩⟩
theorem Ents.snoc(h:Ents Pd ys n H)(p:Pd n v H):Ents Pd (ys++[v]) (n+1) H:=⟨by rw[List.length_append,h.1];rfl,fun j hj=>by
  by_cases hn:j < n
  · obtain⟨u,e,q⟩:=h.2 j hn
    exact⟨u,by rw[List.getElem?_append_left (by rw[h.1];exact hn)];exact e,q⟩
  · have e:j=n:=by omega
    subst e
    exact⟨v,by rw[List.getElem?_append_right (by rw[h.1];exact Nat.le_refl _),h.1,Nat.sub_self];rfl,p⟩⟩
theorem Ents.at(h:Ents Pd ys n H){j:Nat}{u:V}(e:ys[j]? = some u):j < n∧Pd j u H:=by
  have hj:j < n:=by rw[← h.1];exact(List.getElem?_eq_some_iff.mp e).1
  obtain⟨u',e',p⟩:=h.2 j hj
  rw[e]at e'
  cases e'
  exact⟨hj,p⟩
end
def TupOf(Pd:Nat→V→Hp→Prop)(n:Nat)(v:V)(H:Hp):Prop:=∃p vs,v=.ref p∧H p=some (.tup vs)∧Ents Pd vs n H
def SeqOf(K:PySem.W.Frag)(Pd:Nat→V→Hp→Prop)(n:Nat)(v:V)(H:Hp):Prop:=∃S vs,Sr.ofV S v∧S.vals K H vs∧(∀H',Same H H'→S.vals K H' vs∧LenV K v H' vs.length)∧Ents Pd vs n H
theorem TupOf.seq{K:PySem.W.Frag}{Pd:Nat→V→Hp→Prop}{n:Nat}{v:V}{H:Hp}(h:TupOf Pd n v H):SeqOf K Pd n v H:=by
  obtain⟨p,vs,rfl,hp,e⟩:=h
  exact⟨.tup p,vs,rfl,SqT.of hp,fun H' q=>⟨SqT.of (q _ _ hp),.inr ⟨_,SqT.of (q _ _ hp),rfl⟩⟩,e⟩
theorem TupOf.mono{Pd Pe:Nat→V→Hp→Prop}{n:Nat}{v:V}{H H':Hp}(h:TupOf Pd n v H)(s:SameT H H')(m:∀j u,j < n→Pd j u H→Pe j u H'):TupOf Pe n v H':=by
  obtain⟨p,vs,rfl,hp,e⟩:=h
  exact⟨p,vs,rfl,s _ _ hp,e.mono m⟩
theorem SeqOf.mono{K:PySem.W.Frag}{Pd Pe:Nat→V→Hp→Prop}{n:Nat}{v:V}{H H':Hp}(h:SeqOf K Pd n v H)(s:Same H H')(m:∀j u,j < n→Pd j u H→Pe j u H'):SeqOf K Pe n v H':=by
  obtain⟨S,vs,e,hv,hs,he⟩:=h
  exact⟨S,vs,e,(hs _ s).1,fun H2 q=>hs _ (s.trans q),he.mono m⟩
theorem SeqOf.list{K:PySem.W.Frag}{Pd:Nat→V→Hp→Prop}{n:Nat}{p:Addr}{vs:List V}{H:Hp}(hp:H p=some (.lst vs))(e:Ents Pd vs n H):SeqOf K Pd n (.ref p) H:=
  ⟨.lst p,vs,rfl,SqL.of hp,fun H' q=>⟨SqL.of (q _ _ hp),.inl ⟨_,SqL.of (q _ _ hp),rfl⟩⟩,e⟩
theorem TupOf.len{K:PySem.W.Frag}{Pd:Nat→V→Hp→Prop}{n:Nat}{v:V}{H:Hp}(h:TupOf Pd n v H):LenV K v H n:=by
  obtain⟨p,vs,rfl,hp,e⟩:=h
  have e1:=e.1
  subst e1
  exact .inr ⟨_,SqT.of hp,rfl⟩
theorem SeqOf.len{K:PySem.W.Frag}{Pd:Nat→V→Hp→Prop}{n:Nat}{v:V}{H:Hp}(h:SeqOf K Pd n v H):LenV K v H n:=by
  obtain⟨S,vs,_,_,hs,e⟩:=h
  have q:=(hs _ (Same.refl _)).2
  rw[e.1]at q
  exact q
theorem comp_go{J:It}{n k:Nat}{g:TG}{te:TE}{σ:St}{Q:VK}{H1:Hp}(Pv:Nat→List V→Hp→Prop)(hn:n≤1000)(h0:Pv 0 [] H1)(hl:∀i ys H,Pv i ys H→ys.length=i)
    (hgo:∀i ys H,i < n→Pv i ys H→J.go i H∧∀x H',J.yld i H x H'→g x (σ++List.replicate k none) H' fun σ2 H2=>(∃zs,σ2=σ++zs∧zs.length=k)∧te σ2 H2 fun v H3=>Pv (i+1) (ys++[v]) H3)
    (hstop:∀ys H,Pv n ys H→J.stop n H) (hend:∀ys H p,Pv n ys H→H p=none→Q (.ref p) (upd H p (.lst ys))) :
    CTail J k g te σ Q H1:=by
  have z:1000 < sizeLine:=by decide
  refine⟨fun i m ys H=>m=n - i∧i≤n∧Pv i ys H,⟨n,rfl,Nat.zero_le _,h0⟩,?_⟩
  rintro i m ys H ⟨rfl,hi,p⟩
  have yl:=hl i ys H p
  by_cases hlt:i < n
  · obtain⟨a,b⟩:=hgo i ys H hlt p
    refine .inr ⟨a,by omega,fun x H' y=>?_⟩
    have c:=b x H' y
    have e:(fun σ2 H2=>(∃zs,σ2=σ++zs∧zs.length=k)∧te σ2 H2 fun v H3=>∃m',m' < n - i∧m'=n - (i+1)∧i+1≤n∧Pv (i+1) (ys++[v]) H3)=fun σ2 H2=>(∃zs,σ2=σ++zs∧zs.length=k)∧te σ2 H2 fun v H3=>Pv (i+1) (ys++[v]) H3:=by
      funext σ2 H2
      congr 2
      funext v H3
      exact propext ⟨fun⟨_,_,_,_,q⟩=>q,fun q=>⟨_,by omega,rfl,hlt,q⟩⟩
    rw[e]
    exact c
  · have e:i=n:=by omega
    subst e
    exact .inl ⟨hstop ys H p,by omega,fun q nq=>hend ys H q p nq⟩
end L2
namespace L2
open PySem PySem.Spec PyProof.Rows
def tLRng(ta:TA):TE:=fun σ H Q=>ta σ H fun vs H1=>∃n:Nat,vs=[.int n]∧n≤1000∧∀p,H1 p=none→Q (.ref p) (upd H1 p (.lst ((List.range n).map fun i=>V.int (i:Nat))))
theorem pe_lrange{X:Cx}{a:Expr}{ta:TA}{p p' pos pos':Pos}(hc:X.calm=true)(hg:Gl X "list")(hm:X.mg "list"=none)(hg':Gl X "range")(hm':X.mg "range"=none)(ha:PA X [a] ta)
    (hs:starEach [a] X.env=[(false,eval a X.env)]:=by rfl) (hs':starEach [.Call (.Name "range" p') [a] [] pos'] X.env=[(false,eval (.Call (.Name "range" p') [a] [] pos') X.env)]:=by rfl) :
    PE X (.Call (.Name "list" p) [.Call (.Name "range" p') [a] [] pos'] [] pos) (tLRng ta):=by
  intro pins s σ H Q I h
  refine wpAny_Call_Name_kw (ld_blt I hg hm boot_list ?_)
  refine PyProof.Rows.callWith_type1 ?_ hs' rfl
  rw[hs']
  refine Calls.spliced_cons ?_
  refine Call_ (ld_blt I hg' hm' boot_range (PyProof.Rows.callWith_type1 (thn (ha pos' pins s σ H _ I h) fun us s1 ⟨vs,H1,I1,r1,q1⟩=>?_) hs rfl))
  obtain⟨n,e,hn,q⟩:=q1
  subst e
  have line:1000 < sizeLine:=by decide
  cases r1 with
  | cons r rr=>
    cases rr
    obtain⟨t,rfl⟩:=r
    refine call_range_1 ?_
    refine Calls.spliced_nil ?_
    have sz:(s1.heap.push { cls:=.type "range",data:=.fields #[.int 0 s1.toks,.int n t,.int 1 (s1.toks+1)] }).objs.size=s1.heap.objs.size+1:=Heap.size_push ..
    refine call_list_range (n:=n) (I1.ok.hd hc) (IsRange.new ..) (small_one (by omega) (by omega) (by omega) (by omega)) (by rw[rangeSize_one];split <;>omega) (by omega) fun h' tk acc' c' hk hS hacc=>?_
    have up:∀b o,s1.heap.get? b=some o→h'.get? b=some o:=fun b o e=>hk b o (Heap.get?_push_of_some _ e)
    have sz2:s1.heap.objs.size≤(s1.heap.push { cls:=.type "range",data:=.fields #[.int 0 s1.toks,.int n t,.int 1 (s1.toks+1)] }).objs.size:=by rw[sz];omega
    obtain⟨hsz,hit⟩:=hacc
    have vals:Vals ((List.range n).map fun i=>V.int (i:Nat)) acc'.toList:=by
      have key:∀(m k:Nat) (ls:List Value),ls.length=m→(∀i v,ls[i]? = some v→∃t,v=Value.int ((k+i:Nat):Int) t)→Vals ((List.range' k m).map fun i=>V.int (i:Nat)) ls:=by
        intro m
        induction m with
        | zero=>intro k ls e _;cases List.length_eq_zero_iff.mp e;exact .nil
        | succ m ih=>
          intro k ls e g
          cases ls with
          | nil=>cases e
          | cons v ls=>
            rw[List.range'_succ,List.map_cons]
            obtain⟨t,rfl⟩:=g 0 v rfl
            exact .cons ⟨t,rfl⟩ (ih (k+1) ls (by simpa using e) fun i v hv=>by
              obtain⟨t,e2⟩:=g (i+1) v (by simpa using hv)
              exact⟨t,by rw[e2,show k+(i+1)=k+1+i by omega]⟩)
      have:=key n 0 acc'.toList (by simpa using hsz) fun i v hv=>by
        obtain⟨t,e2⟩:=hit i v (by rw[← Array.getElem?_toList];exact hv)
        exact⟨t,by rw[e2];congr 1;omega⟩
      rw[← List.range_eq_range']at this
      exact this
    exact⟨.ref _,_,I1.laid (t':=tk) up sz2 (show ObjOk X.prog X.w _ h' _ (.lst _)from⟨by rw[List.length_map,List.length_range];omega,acc'.toList,c',vals,by rw[Array.toArray_toList];exact hS⟩),rfl,q _ (I1.hok.fresh sz2)⟩
end L2
namespace L2
open PySem PySem.Spec PyProof.Rows
section
variable{X:Cx}{n:Nat}{st:Stmt}{rest:List Stmt}{t u:TS}
theorem keepT{α:Type}{t:Sem α}{Q:α→Shared→Prop}{M:Model}{A:Around}{E:Value→Shared→Prop}{s:Shared}(hn:n≤s.toks)(h:wpAny M A t Q E s) :
    wpAny M A t (fun a s'=>n≤s'.toks∧Q a s') E s:=wpAny_mono (wpAny_toks_of hn h) (fun _ _ x=>x) fun _ _ x=>x.2
def PSn(X:Cx)(n:Nat)(st:Stmt)(t:TS):Prop:=
  ∀pins s σ H D,n≤s.toks→Inv X pins σ H s→t D σ H→wpAny (model X.prog X.w) X.A (exec st X.env) (SP X pins D) X.xe s
def PSsn(X:Cx)(n:Nat)(ss:List Stmt)(t:TS):Prop:=
  ∀pins s σ H D,n≤s.toks→Inv X pins σ H s→t D σ H→wpAny (model X.prog X.w) X.A (execs ss X.env) (SP X pins D) X.xe s
theorem PS.fl(h:PS X st t):PSn X n st t:=fun pins s σ H D _=>h pins s σ H D
theorem PSs.fl(h:PSs X rest t):PSsn X n rest t:=fun pins s σ H D _=>h pins s σ H D
theorem pssn_cons(h1:PSn X n st t)(h2:PSsn X n rest u):PSsn X n (st::rest) (tSeq t u):=by
  intro pins s σ H D hn I h
  refine wpAny_execs_cons (thn (keepT hn (h1 pins s σ H { D with nx:=u D } hn I h)) fun f s1 q=>?_)
  obtain⟨hn1,q⟩:=q
  cases f with
  | next=>
    obtain⟨σ',H',I',q⟩:=q
    exact h2 pins s1 σ' H' D hn1 I' q
  | brk=>exact q
  | cont=>exact q
  | ret v=>exact q
theorem ps_forn{tg iter:Expr}{body:List Stmt}{wi:TI}{g:TG}{tb:TS}{pos:Pos}(hp:PassesOwn (model X.prog X.w) X.A X.env X.xe)(hc:X.calm=true)(hi:PI X tg iter wi)(hg:PG X tg g)(hb:PSsn X n body tb)
    (hs:∀x,foldedSetIterable iter X.env x=pure x:=by intro _;rfl):PSn X n (.For tg iter body [] pos) (tFor wi g tb):=by
  intro pins s σ H D hn I h
  refine wpAny_For (thn (keepT hn (hi pins s σ H _ I h)) fun v s1 hh1=>thn (keepT hh1.1 hh1.2) fun itv s2 hh2=>?_) hs
  obtain⟨n2,it,fp,tn,J,H2,e,I2,T,st2,f2,W,⟨m0,w0⟩,turn⟩:=hh2
  subst e
  have stat:∀{G:Hp},(∀b∈fp,G b=none)→∀b∈fp,FpOk X pins G b:=fun k b hb=>⟨k b hb,(f2 b hb).2⟩
  refine codeAny_forLoop_any (fun k s'=>n≤s'.toks∧∃i τ G,Inv X pins τ G s'∧tn i s'.heap∧(∀b∈fp,G b=none)∧W i k τ G) ?_ m0 ⟨n2,0,σ,H2,I2,st2,fun b hb=>(f2 b hb).1,w0⟩
  rintro k s3 ⟨n3,i,τ,G,I3,st3,fr3,w3⟩
  rcases turn i k τ G w3 with ⟨stop,qn⟩ | ⟨go,N,hN,step⟩
  · refine wpAny_passesOwn hp (thn (T.done X rfl rfl rfl hc i pins s3 τ G X.xe I3 (stat fr3) st3 stop) fun r s4 ⟨hr,I4⟩=>?_)
    subst hr
    exact wpAny_execs_nil ⟨τ,G,I4,qn⟩
  · refine wpAny_passesOwn hp (thn (keepT n3 (T.item X rfl rfl rfl hc i pins s3 τ G X.xe I3 (stat fr3) st3 go)) fun r s4 ⟨n4,u,hr,h4⟩=>?_)
    subst hr
    refine wpAny_passesOwn hp (thn (keepT n4 h4) fun _ s5 ⟨n5,x,H5,I5,r5,y5,st5,fr5⟩=>?_)
    have J5:=I5.pinned (stat fr5) (T.obj _ _ st5)
    refine wpAny_passesOwn hp (thn (keepT n5 (hg _ s5 τ H5 x u _ J5 r5 (step x H5 y5))) fun _ s6 ⟨n6,σ6,H6,I6,q6⟩=>?_)
    refine wpAny_passesOwn hp (thn (keepT n6 (hb _ s6 σ6 H6 _ n6 I6 q6)) fun f s7 hh7=>?_)
    obtain⟨n7,q7⟩:=hh7
    have more:∀{σ7:St} {H7:Hp},Inv X (pins++pinsAt fp s5.heap) σ7 H7 s7→N σ7 H7→∃m,m < k∧n≤s7.toks∧∃i τ G,Inv X pins τ G s7∧tn i s7.heap∧(∀b∈fp,G b=none)∧W i m τ G:=fun{σ7 H7} I7 c7=>by
      obtain⟨m',hm,w7⟩:=hN σ7 H7 c7
      have pn:∀b∈fp,∀o,s5.heap.get? b=some o→s7.heap.get? b=some o∧H7 b=none:=fun b hb o e=>by
        have:=I7.pin (b,o) (List.mem_append_right _ (List.mem_append_right _ (mem_pinsAt hb e)))
        exact⟨this.1,this.2.1⟩
      refine⟨m',hm,n7,i+1,σ7,H7,I7.unpinned,T.keep _ _ _ st5 fun b hb o e=>(pn b hb o e).1,fun b hb=>?_,w7⟩
      obtain⟨o,e,_⟩:=T.obj _ _ st5 b hb
      exact(pn b hb o e).2
    cases f with
    | next=>obtain⟨σ7,H7,I7,c7⟩:=q7;exact more I7 c7
    | cont=>obtain⟨σ7,H7,I7,c7⟩:=q7;exact more I7 c7
    | brk=>obtain⟨σ7,H7,I7,c7⟩:=q7;exact⟨σ7,H7,I7.unpinned,c7⟩
    | ret v=>obtain⟨x7,σ7,H7,I7,r7,c7⟩:=q7;exact⟨x7,σ7,H7,I7.unpinned,r7,c7⟩
theorem Inv.stored{pins:List (Addr × Obj)}{σ:St}{H:Hp}{s:Shared}{i:Nat}{x:Str}{v:V}{w:Value}{m:Str→Option Value}{h':Heap}(I:Inv X pins σ H s)(hN:X.N.Nodup)(hi:X.N[i]? = some x)
    (hk:X.env.kindOf x=some .local) (r:RelV v w) (hm:∀(j:Nat) (y:Str) (z:V),X.N[j]? = some y→σ[j]? = some (some z)→Vis X.env.scope y→∃w',RelV z w'∧Look X.env s.heap m y w')
    (hn:h'.Ns X.env.locals (fun y=>if y=x then some w else m y)) (hs:Heap.SameBut X.env.locals s.heap h') (k:Nat):Inv X pins (σ.set i (some v)) H { s with heap:=h',toks:=k }:=by
  have old:∀b o,X.s₀.heap.get? b=some o→h'.get? b=s.heap.get? b:=fun b o e=>hs.2 b (Nat.ne_of_lt (Nat.lt_of_lt_of_le (Heap.lt_size e) I.ok.above))
  have hσ:i < σ.length:=by rw[I.len];exact(List.getElem?_eq_some_iff.mp hi).1
  have B:=I.base
  refine{ ok:=I.ok,os:=I.os,bare:=I.bare,base:=⟨?_,?_,B.free,?_,B.tups,B.frzs,B.tbls⟩,loc:=⟨_,hn,?_⟩,cell:=?_,free:=I.free,freeC:=I.freeC,pin:=?_,hok:=?_,len:=by simpa using I.len }
  · intro b o e a1 a2 a3
    rw[← B.keep b o e a1 a2 a3];exact old b o e
  · intro b o e a1 a2 a3
    obtain⟨sl,q⟩:=B.slot b o e a1 a2 a3
    exact⟨sl,(old b o e).trans q⟩
  · intro b o e a1
    obtain⟨o',q⟩:=B.there b o e a1
    exact⟨o',(old b o e).trans q⟩
  · intro j y z e1 e2 e3
    by_cases hj:i=j
    · subst hj
      rw[hi]at e1
      cases e1
      rw[List.getElem?_set_self hσ]at e2
      cases e2
      exact⟨w,r,.inl ⟨hk,if_pos rfl⟩⟩
    · rw[List.getElem?_set_ne hj]at e2
      have ny:y≠x:=fun q=>hj (nodup_ix hN hi (q▸e1))
      obtain⟨w',r',q⟩:=hm j y z e1 e2 e3
      rcases q with ⟨a1,a2⟩ | ⟨a1,c,a2,a3⟩
      · exact⟨w',r',.inl ⟨a1,(if_neg ny).trans a2⟩⟩
      · exact⟨w',r',.inr ⟨a1,c,a2,a3.sameBut hs (I.cne y c a2)⟩⟩
  · intro y c e
    obtain⟨z,q⟩:=I.cell y c e
    exact⟨z,q.sameBut hs (I.cne y c e)⟩
  · intro p hp
    obtain⟨a1,a2,a3,a4⟩:=I.pin p hp
    exact⟨(hs.2 p.1 a3).trans a1,a2,a3,a4⟩
  · intro b ob e
    obtain⟨m0,⟨oL,_,_,hoL,_⟩,_⟩:=I.loc
    refine(I.hok b ob e).stay (fun c w' hc q=>(hs.2 c ?_).trans q) (fun _ q=>q) fun _ _ q=>q
    intro z
    subst z
    rcases hc with z | z
    · subst z;rw[I.free]at e;cases e
    · rw[I.free]at z;cases z
theorem Inv.nocls{pins:List (Addr × Obj)}{σ:St}{H:Hp}{s:Shared}(I:Inv X pins σ H s):(X.env.scope.kind == .class || (X.env.scope.kind == .module && X.env.locals != X.env.globals))=false:=by rw[I.ok.kind];rfl
theorem Inv.here{σ:St}{s:Shared}{i:Nat}{x:Str}{v:V}{m:Str→Option Value}(hm:∀(j:Nat) (y:Str) (z:V),X.N[j]? = some y→σ[j]? = some (some z)→Vis X.env.scope y→∃w',RelV z w'∧Look X.env s.heap m y w')
    (hi:X.N[i]? = some x) (e:σ[i]? = some (some v)) (hk:X.env.kindOf x=some .local):∃w,RelV v w∧m x=some w:=by
  obtain⟨w,r,q⟩:=hm i x v hi e (.inl hk)
  rcases q with ⟨_,q⟩ | ⟨q,_⟩
  · exact⟨w,r,q⟩
  · rw[hk]at q
    rcases q with q | q <;>cases q
theorem pss_fl{i:Nat}{x:Str}{e:Expr}{te:TE}{pos pos':Pos}(hN:X.N.Nodup)(hi:X.N[i]? = some x)(hk:X.env.kindOf x=some .local)(he:PE X e te)(h2:PSsn X 1 rest u)
    (hs:swapsWith e (some (.Name x pos')) pos.line X.env=pure false:=by rfl):PSs X (.Assign [.Name x pos'] e pos::rest) (tSeq (tAsg te (gName i)) u):=by
  intro pins s σ H D I h
  refine wpAny_execs_cons (wpAny_Assign_Name (thn (he pins s σ H _ I h) fun v s1 ⟨y,H1,I1,r1,q1⟩=>?_) hs)
  obtain⟨m,hn,hm⟩:=I1.loc
  exact wpAny_storeName_local hk hn (fun h' hn' hs'=>h2 pins _ _ H1 D (Nat.le_add_left 1 _) (I1.stored hN hi hk r1 hm hn' hs' _) q1) I1.nocls
def tLetter(il ia iw:Nat)(ti:TE):TS:=fun D σ H=>∃z y:Str,σ[ia]? = some (some (.str z))∧σ[iw]? = some (some (.str y))∧z.length≤1000∧y.length≤1000∧ti σ H fun x H1=>∃(i:Int) (c:Nat),x=.int i∧atI z.cps.toList i=some c∧
  D.nx (((σ.set il (some (.str ⟨#[c]⟩))).set iw (some (.str (y++⟨#[c]⟩)))).set ia (some (.str (Txt.replace z ⟨#[c]⟩ "")))) H1
theorem pssn_letter{il ia iw:Nat}{l a w:Str}{idx:Expr}{ti:TE}{j:Nat}{p1 p2 p3 p4 p5 p6 p7 p8 p9 p10 p11 p12 p13 p14 p15 p16:Pos}(hN:X.N.Nodup)(hl:X.N[il]? = some l)(ha:X.N[ia]? = some a)(hw:X.N[iw]? = some w)
    (kl:X.env.kindOf l=some .local) (ka:X.env.kindOf a=some .local) (kw:X.env.kindOf w=some .local) (nla:l≠a) (nlw:l≠w) (naw:a≠w) (hi:PE X idx ti) (hpl:PlainIx idx)
    (dl:(l == ("__debug__":Str))=false:=by decide) (da:(a == ("__debug__":Str))=false:=by decide) (dw:(w == ("__debug__":Str))=false:=by decide)
    (dca:(a == ("__classdict__":Str))=false:=by decide)
    (hs1:swapsWith (.Subscript (.Name a p2) idx p3) (some (.Name l p1)) p4.line X.env=pure false:=by rfl)
    (hs2:swapsWith (.BinOp (.Name w p6) .Add (.Name l p7) p8) (some (.Name w p5)) p9.line X.env=pure false:=by rfl)
    (hs3:swapsWith (.Call (.Attribute (.Name a p11) "replace" p12) [.Name l p13,.Constant (.str "") j p14] [] p15) (some (.Name a p10)) p16.line X.env=pure false:=by rfl)
    (hbase:attributeBase (.Name a p11) "replace" X.env (eval (.Name a p11) X.env)=eval (.Name a p11) X.env:=by rfl)
    (hfew:((backTo p15 (starEach [.Name l p13,.Constant (.str "") j p14] X.env)).all (fun x=>!x.1) && (backToKw p15 (keywordEach [] X.env)).all (fun x=>x.1.isSome)
      && decide (([.Name l p13,.Constant (.str "") j p14]:List Expr).length+([]:List Keyword).length+(if([]:List Keyword).isEmpty then 0 else 1) < 30))=true:=by rfl)
    (hline:(p12.endLine == p15.line)=true:=by rfl)
    (hst:backTo p15 (starEach [.Name l p13,.Constant (.str "") j p14] X.env)=[(false,eval (.Name l p13) X.env),(false,eval (.Constant (.str "") j p14) X.env)]:=by rfl) :
    PSsn X 1 [.Assign [.Name l p1] (.Subscript (.Name a p2) idx p3) p4,.Assign [.Name w p5] (.BinOp (.Name w p6) .Add (.Name l p7) p8) p9,
      .Assign [.Name a p10] (.Call (.Attribute (.Name a p11) "replace" p12) [.Name l p13,.Constant (.str "") j p14] [] p15) p16] (tLetter il ia iw ti):=by
  intro pins s σ H D hn I h
  obtain⟨z,y,ez,ey,lz,ly,h⟩:=h
  refine wpAny_execs_cons (wpAny_Assign_Name (Subscript_ ?_) hs1)
  refine thn (keepT hn ((pe_var ha (.inl ka) da dca) pins s σ H (fun x H1=>x=.str z∧ti σ H1 _) I ⟨.str z,ez,rfl,h⟩)) fun v s1 ⟨n1,x1,H1,I1,r1,e1,q1⟩=>?_
  subst e1
  obtain⟨t1,rfl⟩:=r1
  refine thn (keepT n1 (hi pins s1 σ H1 _ I1 q1)) fun v2 s2 ⟨n2,x2,H2,I2,r2,i,c,e2,hc,q2⟩=>?_
  subst e2
  obtain⟨t2,rfl⟩:=r2
  obtain⟨k0,k1,k2,k3,k4,k5⟩:=atI_get hc
  have hzl:z.cps.toList.length=z.length:=by simp[Str.length]
  rw[hzl]at k1 k4 k5
  have l63:=line63
  have h1s:(⟨#[c]⟩:Str).length=1:=rfl
  refine tail_any (typeIs_str s2 z t1) slot_str_getitem.lookup (getItem_str (c:=c) (by
    have e1:decide (i < -(2 ^ 63:Int))=false:=decide_eq_false (by omega)
    have e2:decide (i ≥ 2 ^ 63)=false:=decide_eq_false (by omega)
    rw[e1,e2,Bool.or_false]) (by rw[k1];simpa using k2) ?_) (hpl _ _)
  obtain⟨m,hm0,hm⟩:=I2.loc
  obtain⟨_,⟨ta,rfl⟩,mz⟩:=Inv.here hm ha ez ka
  obtain⟨_,⟨tw,rfl⟩,my⟩:=Inv.here hm hw ey kw
  refine wpAny_storeName_local kl (show Heap.Ns { s2 with toks:=s2.toks+1 }.heap _ m from hm0) (fun g1 ns1 sb1=>?_) I2.nocls
  have I3:=I2.stored hN hl kl (show RelV (.str ⟨#[c]⟩) (.str ⟨#[c]⟩ s2.toks)from⟨_,rfl⟩) hm ns1 sb1
  obtain⟨m3,hm3,hmm3⟩:=(I3 0).loc
  refine wpAny_execs_cons (wpAny_Assign_Name (wpAny_BinOp ?_) hs2)
  refine wpAny_Name (wpAny_loadName_local I.ok.kind kw ns1 ((if_neg (Ne.symm nlw)).trans my) ?_) dw
  refine wpAny_Name (wpAny_loadName_local I.ok.kind kl ns1 (if_pos rfl) ?_) dl
  refine thn (keepT (n:=s2.toks+1) (show s2.toks+1≤s2.toks+1+1 from Nat.le_succ _) (add_str (Q:=fun v s'=>∃t' tk,v=.str (y++⟨#[c]⟩) t'∧s'={ s2 with heap:=g1,toks:=tk }) (fun t' tk=>⟨t',tk,rfl,rfl⟩) (by rw[h1s,sizeLine_eq];omega))) ?_
  rintro _ _ ⟨n3,t3,tk,rfl,rfl⟩
  refine wpAny_storeName_local kw (show Heap.Ns { s2 with heap:=g1,toks:=tk }.heap _ _ from ns1) (fun g2 ns2 sb2=>?_) I2.nocls
  have I4:∀k,Inv X pins ((σ.set il (some (.str ⟨#[c]⟩))).set iw (some (.str (y++⟨#[c]⟩)))) H2 { s2 with heap:=g2,toks:=k }:=fun k=>by
    refine(I3 tk).stored hN hw kw (show RelV (.str (y++⟨#[c]⟩)) (.str (y++⟨#[c]⟩) t3)from⟨_,rfl⟩) (fun j y' z' e1 e2 e3=>?_) ns2 sb2 k
    by_cases hj:il=j
    · subst hj
      rw[hl]at e1
      cases e1
      rw[List.getElem?_set_self (by rw[I.len];exact(List.getElem?_eq_some_iff.mp hl).1)]at e2
      cases e2
      exact⟨_,⟨_,rfl⟩,.inl ⟨kl,if_pos rfl⟩⟩
    · rw[List.getElem?_set_ne hj]at e2
      have ny:y'≠l:=fun q=>hj (nodup_ix hN hl (q▸e1))
      obtain⟨w',r',q⟩:=hm j y' z' e1 e2 e3
      rcases q with ⟨a1,a2⟩ | ⟨a1,c',a2,a3⟩
      · exact⟨w',r',.inl ⟨a1,(if_neg ny).trans a2⟩⟩
      · exact⟨w',r',.inr ⟨a1,c',a2,a3.sameBut sb1 (I2.cne y' c' a2)⟩⟩
  have ml:(if l=w then some (Value.str (y++⟨#[c]⟩) t3)else if l=l then some (Value.str ⟨#[c]⟩ s2.toks)else m l)=some (Value.str ⟨#[c]⟩ s2.toks):=by rw[if_neg nlw,if_pos rfl]
  have ma:(if a=w then some (Value.str (y++⟨#[c]⟩) t3)else if a=l then some (Value.str ⟨#[c]⟩ s2.toks)else m a)=some (Value.str z ta):=by rw[if_neg naw,if_neg (Ne.symm nla)];exact mz
  refine wpAny_execs_cons (wpAny_Assign_Name (wpAny_Call_method_late hbase hfew hline rfl (wpAny_Name (wpAny_loadName_local I.ok.kind ka ns2 ma ?_) da)) hs3)
  refine⟨"str","str.replace",F.plainAttrs_str,F.slot_str_replace,F.type_str_replace,typeIs_str _ _ _,(fun b e=>by nomatch e),?_⟩
  rw[hst]
  refine Calls.callWith_builtin rfl (Calls.evalArgs_plain ?_)
  refine Calls.spliced_cons (wpAny_Name (wpAny_loadName_local I.ok.kind kl ns2 ml ?_) dl)
  refine Calls.spliced_cons (Calls.Constant_str (Calls.spliced_nil ?_))
  refine SC.replace (show s2.toks≠0 from Nat.ne_of_gt n2) (show tk+1≠0 by omega) (show s2.toks≠tk+1 by have:s2.toks+1≤tk:=n3;omega) (by rfl) (by show z.length+(z.length+1) * 0≤16777216;omega) fun t' k=>?_
  obtain⟨m4,hm4,hl4⟩:=(I4 k).loc
  refine wpAny_storeName_local ka hm4 (fun g3 ns3 sb3=>?_) I2.nocls
  exact wpAny_execs_nil ⟨_,H2,(I4 k).stored hN ha ka (show RelV (.str (Txt.replace z ⟨#[c]⟩ "")) (.str (Txt.replace z ⟨#[c]⟩ "") t')from⟨_,rfl⟩) hl4 ns3 sb3 _,q2⟩
end
end L2
namespace HT
open PySem PyProof.Rows
section
open PySem.SeqAt
open PySem.AutoSeq1 (wpAny_loadPart')
open PySem.MeetsSeq PySem.MeetsSeq2 PySem.MeetsSeq3
end
end HT
namespace L2
open PySem PySem.Spec PyProof.Rows PySem.SeqAt
section
variable{X:Cx}
theorem Room.units1{k:Nat}{A:Around}(r:Room k A):A.units+65 < cLine:=by have:=r.un;omega
theorem Vals.ints{ns:List Int}{us:List Value}(r:Vals (ns.map V.int) us):∀(j:Nat) a,ns[j]? = some a→∃t,us.toArray[j]? = some (.int a t):=fun j a e=>by
  obtain⟨u,h1,t,h2⟩:=r.get (i:=j) (x:=.int a) (by rw[List.getElem?_map,e];rfl)
  exact⟨t,by rw[← h2,← h1];simp⟩
theorem isAll_ints{K:PySem.W.Frag}{H:Hp}:∀ns:List Int,IsAll K H (ns.map V.int) (ns.map PyData.int)
  | []=>.nil
  | n::ns=>.cons (.int n) (isAll_ints ns)
theorem cl_ints:∀ns:List Int,PyData.canLayAll0 (ns.map PyData.int)=true
  | []=>by simp[PyData.canLayAll0]
  | n::ns=>by simp[PyData.canLayAll0,PyData.canLay0,cl_ints ns]
theorem dp_ints:∀ns:List Int,PyData.depthAll (ns.map PyData.int)≤0
  | []=>by simp[PyData.depthAll]
  | n::ns=>by have:=dp_ints ns;simp[PyData.depthAll,PyData.depth];omega
theorem depth_ints(ns:List Int):PyData.depth (.list (ns.map .int))≤1:=by have:=dp_ints ns;simp[PyData.depth];omega
theorem shaped_ints(ns:List Int):shaped (.list (ns.map .int))=true:=by
  have:=depth_ints ns
  simp[shaped,PyData.canLay0,cl_ints ns];omega
theorem nma_ints:∀ns ms:List Int,noMixAll (ns.map PyData.int) (ms.map PyData.int)=true
  | [],[]=>by simp[noMixAll]
  | [],_::_=>by simp[noMixAll]
  | _::_,[]=>by simp[noMixAll]
  | n::ns,m::ms=>by simp[noMixAll,noMix,nma_ints ns ms]
theorem nm_ints(ns ms:List Int):noMix (.list (ns.map .int)) (.list (ms.map .int))=true:=by rw[noMix];exact nma_ints ns ms
theorem any_same{d:PyData}:∀{ds:List PyData},(∀e∈ds,noMix e d=true)→ds.any (fun y=>PyData.eqv y d)=ds.any fun y=>PySem.Spec.same y d
  | [],_=>rfl
  | e::ds,h=>by
    rw[List.any_cons,List.any_cons,same_eq_eqv e d (h e (List.mem_cons_self ..)),any_same fun z hz=>h z (List.mem_cons_of_mem _ hz)]
def rInD(K:PySem.W.Frag)(neg:Bool):R2:=fun x y H Q=>∃d ds,Is K H x d∧Is K H y (.list ds)∧shaped d=true∧shaped (.list ds)=true∧(∀e∈ds,noMix e d=true)∧
  Q (.bl (if neg then !(ds.any fun y=>PySem.Spec.same y d)else ds.any fun y=>PySem.Spec.same y d)) H
theorem op_inD(hu:X.A.units+65 < cLine):OpR X (compareOp .In) (rInD X.K false):=by
  intro pins s σ H x y v u Q I rx ry h
  obtain⟨d,ds,hx,hy,sx,sy,nm,q⟩:=h
  obtain⟨as,ra⟩:=hx.reads I rx
  obtain⟨bs,rb⟩:=hy.reads I ry
  refine in_list_reads rb ra (canLay_of_shaped sy) (canLay_of_shaped sx) (room_in_shaped sx hu) ⟨.bl _,H,I,rfl,?_⟩
  rw[any_same nm];exact q
theorem op_notInD(hu:X.A.units+65 < cLine):OpR X (compareOp .NotIn) (rInD X.K true):=by
  intro pins s σ H x y v u Q I rx ry h
  obtain⟨d,ds,hx,hy,sx,sy,nm,q⟩:=h
  obtain⟨as,ra⟩:=hx.reads I rx
  obtain⟨bs,rb⟩:=hy.reads I ry
  refine notIn_list_reads rb ra (canLay_of_shaped sy) (canLay_of_shaped sx) (room_in_shaped sx hu) ⟨.bl _,H,I,rfl,?_⟩
  rw[any_same nm];exact q
end
end L2
namespace Mine
section
variable{α:Type} [DecidableEq α]
def vw(L:Nat)(a:Nat)(w:List Nat):Nat:=w.foldl (fun v k=>L * v+k+1) a
theorem vw_snoc(L a:Nat)(w:List Nat)(k:Nat):vw L a (w++[k])=L * vw L a w+k+1:=by simp[vw]
structure SI(L:Nat)(f:Nat→α→α)(x0:α)(c:Nat)(Ts:List α)(Ws:List (List Nat)):Prop where
  len:Ws.length=Ts.length
  nd:Ts.Nodup
  z:Ts[0]? = some x0∧Ws[0]? = some []
  dg:∀w∈Ws,∀k∈w,k < L
  up:∀(a:Nat) w w',Ws[a]? = some w→Ws[a+1]? = some w'→vw L 0 w < vw L 0 w'
  top:∀(a:Nat) w (b:Nat) v,Ws[a]? = some w→Ws[b]? = some v→c / L≤b→vw L 0 w < L * vw L 0 v+c % L+1
  par:∀(a:Nat) y,Ts[a+1]? = some y→∃e x w,e < c∧e / L≤a∧Ts[e / L]? = some x∧Ws[e / L]? = some w∧Ws[a+1]? = some (w++[e % L])∧f (e % L) x=y∧∀e' x',e' < e→Ts[e' / L]? = some x'→f (e' % L) x'≠y
  cl:∀e x,e < c→Ts[e / L]? = some x→f (e % L) x∈Ts
theorem dm{L:Nat}(hL:L=1∨L=2∨L=3)(c:Nat):((c+1) / L=c / L∧(c+1) % L=c % L+1∧c % L+1 < L)∨((c+1) / L=c / L+1∧(c+1) % L=0∧c % L+1=L):=by
  rcases hL with rfl | rfl | rfl <;>omega
theorem dm2{L:Nat}(hL:L=1∨L=2∨L=3)(j k:Nat)(hk:k < L):(j * L+k) / L=j∧(j * L+k) % L=k:=by
  rcases hL with rfl | rfl | rfl <;>omega
theorem div_mono{L a b:Nat}(hL:L=1∨L=2∨L=3)(h:a≤b):a / L≤b / L:=by
  rcases hL with rfl | rfl | rfl <;>omega
variable{L:Nat}{f:Nat→α→α}{x0:α}{c:Nat}{Ts:List α}{Ws:List (List Nat)}
theorem SI.lt(I:SI L f x0 c Ts Ws):∀(d a:Nat) w v,Ws[a]? = some w→Ws[a+d+1]? = some v→vw L 0 w < vw L 0 v
  | 0,a,w,v,h1,h2=>I.up a w v h1 h2
  | d+1,a,w,v,h1,h2=>by
    have hl:=(List.getElem?_eq_some_iff.mp h2).1
    obtain⟨u,hu⟩:∃u,Ws[a+d+1]? = some u:=⟨_,List.getElem?_eq_getElem (by omega)⟩
    have:=I.lt d a w u h1 hu
    have:=I.up (a+d+1) u v hu h2
    omega
theorem SI.start(hL:L=1∨L=2∨L=3):SI L f x0 0 [x0] [[]]where
  len:=rfl
  nd:=by simp
  z:=⟨rfl,rfl⟩
  dg:=fun w hw k hk=>by rw[List.mem_singleton.mp hw]at hk;cases hk
  up:=fun a w w' _ h=>by simp at h
  top:=fun a w b v h1 h2 _=>by
    have e1:w=[]:=by cases a with
      | zero=>simpa using h1.symm
      | succ a=>simp at h1
    subst e1
    exact Nat.succ_pos _
  par:=fun a y h=>by simp at h
  cl:=fun e x h=>absurd h (Nat.not_lt_zero e)
theorem SI.stay(hL:L=1∨L=2∨L=3)(I:SI L f x0 c Ts Ws){x:α}(hx:Ts[c / L]? = some x)(hin:f (c % L) x∈Ts):SI L f x0 (c+1) Ts Ws where
  len:=I.len
  nd:=I.nd
  z:=I.z
  dg:=I.dg
  up:=I.up
  top:=fun a w b v h1 h2 hb=>by
    have hr:c / L < Ws.length:=by rw[I.len];exact(List.getElem?_eq_some_iff.mp hx).1
    obtain⟨r,er⟩:∃r,Ws[c / L]? = some r:=⟨_,List.getElem?_eq_getElem hr⟩
    have q:=I.top a w (c / L) r h1 er (Nat.le_refl _)
    rcases dm hL c with ⟨e1,e2,e3⟩ | ⟨e1,e2,e3⟩
    · rw[e1]at hb
      have:=I.top a w b v h1 h2 hb
      omega
    · rw[e1]at hb
      have lt:=I.lt (b - (c / L) - 1) (c / L) r v er (by rw[show c / L+(b - c / L - 1)+1=b by omega];exact h2)
      have m:L * (vw L 0 r+1)≤L * vw L 0 v:=Nat.mul_le_mul_left _ lt
      rw[Nat.mul_add]at m
      omega
  par:=fun a y h=>by
    obtain⟨e,x',w,h1,h2⟩:=I.par a y h
    exact⟨e,x',w,by omega,h2⟩
  cl:=fun e x' he h=>by
    by_cases q:e=c
    · subst q
      rw[hx]at h
      cases h
      exact hin
    · exact I.cl e x' (by omega) h
theorem gA{β:Type}{l:List β}{y u:β}{a:Nat}(h:(l++[y])[a]? = some u):(a < l.length∧l[a]? = some u)∨(a=l.length∧u=y):=by
  by_cases q:a < l.length
  · rw[List.getElem?_append_left q]at h;exact .inl ⟨q,h⟩
  · rw[List.getElem?_append_right (by omega)]at h
    have hl:=(List.getElem?_eq_some_iff.mp h).1
    simp at hl
    have e:a - l.length=0:=by omega
    rw[e]at h
    exact .inr ⟨by omega,by simpa using h.symm⟩
theorem gL{β:Type}{l:List β}{y u:β}{a:Nat}(h:l[a]? = some u):(l++[y])[a]? = some u:=by
  rw[List.getElem?_append_left (List.getElem?_eq_some_iff.mp h).1];exact h
theorem SI.more(hL:L=1∨L=2∨L=3)(I:SI L f x0 c Ts Ws){x:α}{r:List Nat}(hx:Ts[c / L]? = some x)(hr:Ws[c / L]? = some r)(hn:f (c % L) x ∉ Ts):SI L f x0 (c+1) (Ts++[f (c % L) x]) (Ws++[r++[c % L]]):=by
  have hc:c / L < Ts.length:=(List.getElem?_eq_some_iff.mp hx).1
  have L0:0 < L:=by omega
  have V:=vw_snoc L 0 r (c % L)
  have old:∀(e:Nat) x',e≤c→(Ts++[f (c % L) x])[e / L]? = some x'→Ts[e / L]? = some x':=fun e x' he h=>by
    have:=div_mono hL he
    rcases gA h with ⟨_,q⟩ | ⟨q,_⟩
    · exact q
    · omega
  have tV:∀(a:Nat) w,(Ws++[r++[c % L]])[a]? = some w→vw L 0 w≤L * vw L 0 r+c % L+1:=fun a w h=>by
    rcases gA h with ⟨_,q⟩ | ⟨_,q⟩
    · exact Nat.le_of_lt (I.top a w (c / L) r q hr (Nat.le_refl _))
    · rw[q,V];exact Nat.le_refl _
  refine⟨?_,?_,⟨gL I.z.1,gL I.z.2⟩,?_,?_,?_,?_,?_⟩
  · rw[List.length_append,List.length_append,I.len];rfl
  · refine List.nodup_append.mpr ⟨I.nd,by simp,fun a ha b hb q=>?_⟩
    rw[q,List.mem_singleton.mp hb]at ha
    exact hn ha
  · intro w hw k hk
    rcases List.mem_append.mp hw with hw | hw
    · exact I.dg w hw k hk
    · rw[List.mem_singleton.mp hw]at hk
      rcases List.mem_append.mp hk with hk | hk
      · exact I.dg r (List.mem_of_getElem? hr) k hk
      · rw[List.mem_singleton.mp hk];exact Nat.mod_lt _ L0
  · intro a w w' h1 h2
    rcases gA h2 with ⟨q2,p2⟩ | ⟨q2,p2⟩
    · rcases gA h1 with ⟨_,p1⟩ | ⟨q1,_⟩
      · exact I.up a w w' p1 p2
      · omega
    · rcases gA h1 with ⟨_,p1⟩ | ⟨q1,_⟩
      · rw[p2,V];exact I.top a w (c / L) r p1 hr (Nat.le_refl _)
      · omega
  · intro a w b v h1 h2 hb
    have wV:=tV a w h1
    rcases gA h2 with ⟨q2,p2⟩ | ⟨q2,p2⟩
    · rcases dm hL c with ⟨e1,e2,e3⟩ | ⟨e1,e2,e3⟩
      · rw[e1]at hb
        have m:L * vw L 0 r≤L * vw L 0 v:=by
          refine Nat.mul_le_mul_left _ ?_
          by_cases z:b=c / L
          · subst z
            rw[hr]at p2
            cases p2
            exact Nat.le_refl _
          · exact Nat.le_of_lt (I.lt (b - (c / L) - 1) (c / L) r v hr (by rw[show c / L+(b - c / L - 1)+1=b by omega];exact p2))
        omega
      · rw[e1]at hb
        have lt:=I.lt (b - (c / L) - 1) (c / L) r v hr (by rw[show c / L+(b - c / L - 1)+1=b by omega];exact p2)
        have m:L * (vw L 0 r+1)≤L * vw L 0 v:=Nat.mul_le_mul_left _ lt
        rw[Nat.mul_add]at m
        omega
    · have m:L * vw L 0 r+c % L+1≤L * (L * vw L 0 r+c % L+1):=Nat.le_mul_of_pos_left _ L0
      rw[p2,V]
      omega
  · intro a y h
    rcases gA h with ⟨q,p⟩ | ⟨q,p⟩
    · obtain⟨e,x',w,a1,a2,a3,a4,a5,a6,a7⟩:=I.par a y p
      exact⟨e,x',w,by omega,a2,gL a3,gL a4,gL a5,a6,fun e' y' he h'=>a7 e' y' he (old e' y' (by omega) h')⟩
    · refine⟨c,x,r,by omega,by omega,gL hx,gL hr,?_,p.symm,fun e' y' he h' z=>?_⟩
      · rw[q,← I.len,List.getElem?_append_right (Nat.le_refl _)];simp
      · have:=I.cl e' y' he (old e' y' (by omega) h')
        rw[z,p]at this
        exact hn this
  · intro e x' he h
    have h':=old e x' (by omega) h
    by_cases z:e=c
    · subst z
      rw[hx]at h'
      cases h'
      simp
    · exact List.mem_append_left _ (I.cl e x' (by omega) h')
end
end Mine
namespace L2
open PySem PySem.Spec PyProof.Rows PySem.SeqAt
section
variable{X:Cx}
theorem reads_at{h:Heap}{ds:List PyData}{vs:List Value}{as:List Addr}(r:ReadsAll h vs ds as)(hc:PyData.canLayAll0 ds=true){m:Nat}(hm:m < vs.length):ds[m]? = some (readOf h vs[m]):=by
  rw[← readsAll_map ds vs as hc r,List.getElem?_map,List.getElem?_eq_getElem hm];rfl
theorem eqv_at{h:Heap}{d:PyData}{ds:List PyData}{vs:List Value}{as:List Addr}(r:ReadsAll h vs ds as)(hc:PyData.canLayAll0 ds=true)(nm:∀e∈ds,noMix e d=true){m:Nat}(hm:m < vs.length) :
    PyData.eqv (readOf h vs[m]) d=true↔ds[m]? = some d:=by
  have e:=reads_at r hc hm
  rw[← same_eq_eqv _ d (nm _ (List.mem_of_getElem? e)),e]
  constructor
  · intro q;rw[eq_of_same _ _ q]
  · intro q;rw[Option.some.inj q];exact same_refl _
def FirstAt(d:PyData)(ds:List PyData)(j:Nat):Prop:=ds[j]? = some d∧∀m,m < j→ds[m]?≠some d
def rIdxL(K:PySem.W.Frag):V→List V→Hp→VK→Prop:=fun y xs H Q=>∃x d ds j,xs=[x]∧Is K H x d∧Is K H y (.list ds)∧shaped d=true∧shaped (.list ds)=true∧(∀e∈ds,noMix e d=true)∧ds.length < 2 ^ 62∧FirstAt d ds j∧Q (.int (j:Int)) H
theorem mt_indexL(hu:X.A.units+65 < cLine):MtR X "list.index" (rIdxL X.K):=by
  intro pins s σ H y xs v us Q I ry rs h
  obtain⟨x,d,ds,j,rfl,hx,hy,sx,sy,nm,hz,⟨hj,hno⟩,q⟩:=h
  cases rs with
  | cons rx rs=>
  cases rs
  obtain⟨as,ra⟩:=hx.reads I rx
  obtain⟨bs,rb⟩:=hy.reads I ry
  cases rb with
  | list h1 h2 h3 h4=>
  rename_i o n _ _
  obtain⟨cls,dd,data,sl⟩:=o
  simp only at h2 h3
  subst h2 h3
  have hc:=canLay_of_shaped sy
  have hl:∀m,ds[m]?≠none→m < _:=fun m e=>by
    rw[← readsAll_map ds _ _ hc h4,List.getElem?_map]at e
    exact Nat.lt_of_not_le fun z=>e (by rw[List.getElem?_eq_none z];rfl)
  have hj':=hl j (by rw[hj];simp)
  have hjl:j < ds.length:=(List.getElem?_eq_some_iff.mp hj).1
  refine call_meets F.slot_list_index ⟨_,h1,rfl⟩ F.entry_list_index (F.args_list_index_2 _ _) (list_indexAt _ _ _ _ _ _ (fun y=>PyData.eqv (readOf s.heap y) d) j (by simpa using hj') (by omega) ?_ ?_) ⟨h1,items_eqAt h4 ra hc (canLay_of_shaped sx) (room_in_shaped sx hu),⟨.int _,H,I.tok _,⟨_,rfl⟩,q⟩⟩
  · have:=(eqv_at h4 hc nm hj').mpr hj
    simpa using this
  · intro m hm hmj
    have hm':=hl m (by
      have:m < ds.length:=by omega
      rw[List.getElem?_eq_getElem this];simp)
    have:=fun z=>hno m hmj ((eqv_at h4 hc nm hm').mp z)
    simpa using this
theorem tuple_indexAt(l:Addr)(items:Array Value)(n:Nat)(dd:Option Addr)(sl:Array (Option Value))(x:Value)(e:Value→Bool)(j:Nat)(hj:j < items.size)
    (hit:e items[j]=true) (hno:∀m (hm:m < items.size),m < j→e items[m]=false) :
    Meets (Builtin.«tuple.index» ⟨[.ref l,x],[]⟩)
      (fun A R s=>s.heap.get? l=some { cls:=.type "tuple",dict:=dd,data:=.seq items n,slots:=sl }∧(∀y,y∈items→EqAt A.in1 s y x (e y))∧R (.ok (.ret (.int j s.toks))) { s with toks:=s.toks+1 }):=
  .of_wp fun prog w A R s h=>by
    obtain⟨hp,g,d,tk,os⟩:=s;obtain⟨hl,he,h⟩:=h
    wp_walk using wpAny_loadPart' hl
    show wpAny _ _ (forIn ([:min items.size items.size]:Std.Legacy.Range) _ _) _ _ _
    rw[Std.Legacy.Range.forIn_eq_forIn_range']
    simp only[Std.Legacy.Range.size,Nat.sub_zero,Nat.add_sub_cancel,Nat.div_one,Nat.min_self]
    refine wpAny_forIn_list _ (fun rest b s'=>b.1=none∧s'=⟨hp,g,d,tk,os⟩∧∃i,i≤j∧rest=List.range' i (items.size - i)) _ ?_ ?_ _ _ ⟨rfl,rfl,0,Nat.zero_le _,by simp⟩
    · rintro y rest b s' ⟨hb,rfl,i,hij,hr⟩
      have hlt:i < items.size:=by omega
      obtain⟨rfl,hrest⟩:y=i∧rest=List.range' (i+1) (items.size - (i+1)):=by
        have e:items.size - i=(items.size - (i+1))+1:=by omega
        rw[e,List.range'_succ]at hr
        injection hr with h1 h2
        exact⟨h1,h2⟩
      rw[Array.getElem?_eq_getElem hlt]
      refine wpAny_bind (he _ (Array.getElem_mem hlt) prog w _ _ ?_)
      by_cases q:y=j
      · subst q
        rw[hit]
        wp_walk
        exact⟨_,rfl,h⟩
      · rw[hno y hlt (by omega)]
        wp_walk
        exact⟨rfl,rfl,y+1,by omega,hrest⟩
    · rintro⟨b1,b2⟩ s' ⟨hb,rfl,i,hij,hr⟩
      exfalso
      have:=congrArg List.length hr
      simp at this
      omega
def rIdxT(K:PySem.W.Frag):V→List V→Hp→VK→Prop:=fun y xs H Q=>∃x d ds j,xs=[x]∧Is K H x d∧Is K H y (.tuple ds)∧shaped d=true∧shaped (.tuple ds)=true∧(∀e∈ds,noMix e d=true)∧FirstAt d ds j∧Q (.int (j:Int)) H
theorem mt_indexT(hu:X.A.units+65 < cLine):MtR X "tuple.index" (rIdxT X.K):=by
  intro pins s σ H y xs v us Q I ry rs h
  obtain⟨x,d,ds,j,rfl,hx,hy,sx,sy,nm,⟨hj,hno⟩,q⟩:=h
  cases rs with
  | cons rx rs=>
  cases rs
  obtain⟨as,ra⟩:=hx.reads I rx
  obtain⟨bs,rb⟩:=hy.reads I ry
  cases rb with
  | tuple h1 h2 h3 h4=>
  rename_i o n _
  obtain⟨cls,dd,data,sl⟩:=o
  simp only at h2 h3
  subst h2 h3
  have hc:=canLay_of_shaped sy
  have hl:∀m,ds[m]?≠none→m < _:=fun m e=>by
    rw[← readsAll_map ds _ _ hc h4,List.getElem?_map]at e
    exact Nat.lt_of_not_le fun z=>e (by rw[List.getElem?_eq_none z];rfl)
  have hj':=hl j (by rw[hj];simp)
  have hjl:j < ds.length:=(List.getElem?_eq_some_iff.mp hj).1
  refine call_meets F.slot_tuple_index ⟨_,h1,rfl⟩ F.entry_tuple_index (F.args_tuple_index_2 _ _) (tuple_indexAt _ _ _ _ _ _ (fun y=>PyData.eqv (readOf s.heap y) d) j (by simpa using hj') ?_ ?_) ⟨h1,items_eqAt h4 ra hc (canLay_of_shaped sx) (room_in_shaped sx hu),⟨.int _,H,I.tok _,⟨_,rfl⟩,q⟩⟩
  · have:=(eqv_at h4 hc nm hj').mpr hj
    simpa using this
  · intro m hm hmj
    have hm':=hl m (by
      have:m < ds.length:=by omega
      rw[List.getElem?_eq_getElem this];simp)
    have:=fun z=>hno m hmj ((eqv_at h4 hc nm hm').mp z)
    simpa using this
def tBMT(r:V→List V→Hp→VK→Prop)(to:TE)(t:TA):TE:=fun σ H Q=>to σ H fun x H1=>(∃p xs,x=.ref p∧H1 p=some (.tup xs)∧∀i y,xs≠[.int i,y])∧t σ H1 fun xs H2=>r x xs H2 Q
theorem pe_bmT{o e:Expr}{es:List Expr}{to:TE}{t:TA}{name:Str}{apos cpos:Pos}{id:String}{r:V→List V→Hp→VK→Prop}(pa:PlainAttrs "tuple")(slot:Slot "tuple" name id)(hty:typeOf (.builtin id)=pure (.type "method_descriptor"))(hm:MtR X id r)(ho:PE X o to)(ha:PA X (e::es) t)
    (hbase:attributeBase o name X.env (eval o X.env)=eval o X.env:=by rfl)
    (hfew:((backTo cpos (starEach (e::es) X.env)).all (fun x=>!x.1) && (backToKw cpos (keywordEach [] X.env)).all (fun x=>x.1.isSome)
      && decide ((e::es).length+([]:List Keyword).length+(if([]:List Keyword).isEmpty then 0 else 1) < 30))=true:=by rfl)
    (hline:(apos.endLine == cpos.line)=true:=by rfl) (hs:starEach (e::es) X.env=(false,eval e X.env)::starEach es X.env:=by rfl) (hplain:(backTo cpos (starEach es X.env)).any (·.1)=false:=by rfl) :
    PE X (.Call (.Attribute o name apos) (e::es) [] cpos) (tBMT r to t):=by
  intro pins s σ H Q I h
  refine wpAny_Call_method_late hbase hfew hline rfl (thn (ho pins s σ H _ I h) fun v s1 ⟨x,H1,I1,r1,⟨p,xs,hx,hp,nx⟩,q1⟩=>?_)
  subst hx
  cases r1
  obtain⟨_,its,_,pt,dn⟩:=(show ObjOk X.prog X.w H1 s1.heap p (.tup xs)from I1.hok p _ hp)
  obtain⟨o2,e2,d2⟩:=dn nx
  refine⟨"tuple",id,pa,slot,hty,pt.typeIs,fun a e=>by cases e;exact⟨o2,e2,d2⟩,?_⟩
  have hA:=ha cpos pins s1 σ H1 _ I1 q1
  rw[hs]at hA ⊢
  refine Calls.callWith_builtin (by show(false || (backTo cpos (starEach es X.env)).any (·.1))=false;rw[hplain] <;>rfl) (Calls.evalArgs_plain ?_)
  exact thn hA fun us s2 ⟨vs,H2,I2,r2,q2⟩=>hm pins s2 σ H2 (.ref p) vs _ us Q I2 rfl r2 q2
end
end L2
namespace L2
open PySem PySem.Spec PyProof.Rows
section
variable{X:Cx}
def ipL:TIp:=fun x y H Q=>∃l b xs zs,x=.ref l∧y=.ref b∧H l=some (.lst xs)∧H b=some (.lst zs)∧xs.length+zs.length≤sizeLine∧Q (.ref l) (upd H l (.lst (xs++zs)))
theorem seq_list_iadd:seqSlot? (.type "list") (dunderI "add")=pure (some (.builtin "list.__iadd__")):=PySem.seqSlot_of F.slot_list_iadd.lookup (by decide +kernel)
theorem noFill_list_iadd:fillsInplaceSlot (.type "list") "add" (Operator.Add == .Add)=pure false:=by
  unfold fillsInplaceSlot
  show(typeLookup (.type "list") (dunderI "add") >>= fun fi=>pure (fi.isSome && !isSeqSlot fi))=pure false
  rw[F.slot_list_iadd.lookup]
  rfl
theorem ip_lst:PIp X .Add ipL:=by
  intro pins s σ H x y v u Q I rx ry h
  obtain⟨l,b,xs,zs,rfl,rfl,hH,hB,hz,q⟩:=h
  cases (show v=Value.ref l from rx)
  cases (show u=Value.ref b from ry)
  obtain⟨z,its,n,r,hl,e⟩:=I.lstM hH
  obtain⟨z2,its2,n2,r2,hl2,e2⟩:=I.lstM hB
  have hsz:its.toArray.size+its2.toArray.size≤sizeLine:=by rw[List.size_toArray,List.size_toArray];omega
  have hlong:¬(!its.toArray.isEmpty && Builtin.List.listTooLong (its.toArray.size+its2.toArray.size))=true:=by
    rw[notLongL hsz,Bool.and_false]
    exact Bool.false_ne_true
  unfold inplaceOp
  refine wpAny_holding ?_
  refine wpAny_bind (wpAny_typeOf (T:="list") ⟨_,e,rfl⟩ (wpAny_bind (wpAny_of_eq noFill_list_iadd ?_)))
  show wpAny _ _ (if false=true then _ else _) _ _ _
  rw[if_neg Bool.false_ne_true]
  refine wpAny_bind (wpAny_binaryOp1_none (nm:="add") (T:="list") ⟨_,e,rfl⟩ ⟨_,e2,rfl⟩ PySem.noFill_list_add ?_)
  refine wpAny_bind (wpAny_of_eq seq_list_iadd ?_)
  refine wpAny_bind (wpAny_rule ?_)
  refine call_meets F.slot_list_iadd ⟨_,e,rfl⟩ F.entry_list_iadd (F.args_list_iadd_2 _ _)
    (AutoSeq1.list___iadd___list_list_0 l its.toArray n b its2.toArray n2 hlong (by rw[List.size_toArray];omega) (by omega)) ⟨e,e2,?_⟩
  refine⟨.ref l,_,I.lset (its':=its++its2) hH e (by simp) (r.append r2) ?_,rfl,q⟩
  rw[List.length_append]
  omega
end
end L2
namespace L2
open PySem PySem.Spec PyProof.Rows
section
variable{X:Cx}
theorem vals_int{ns:List Int}{its:List Value}(r:Vals (ns.map V.int) its){i:Nat}{v:Value}(h:its[i]? = some v):∃t,v=.int (ns[i]?.getD 0) t:=by
  have len:=r.length
  rw[List.length_map]at len
  have hi:i < its.length:=(List.getElem?_eq_some_iff.mp h).1
  have hb:ns[i]? = some (ns[i]'(by omega)):=List.getElem?_eq_getElem (by omega)
  obtain⟨u,hu,t,ru⟩:=r.get (i:=i) (x:=V.int (ns[i]'(by omega))) (by rw[List.getElem?_map,hb];rfl)
  rw[h]at hu
  cases hu
  exact⟨t,by rw[hb];exact ru⟩
end
end L2
namespace L2
open PySem PySem.Spec PyProof.Rows
section
variable{X:Cx}
def rMaxL(K:PySem.W.Frag):List V→Hp→VK→Prop:=fun xs H Q=>∃a ns,xs=[.ref a]∧SqL K H a (ns.map V.int)∧ns≠[]∧∀M,M∈ns→(∀b∈ns,b≤M)→Q (.int M) H
theorem call_maxL(hc:X.calm=true):CallR X (.builtin "max") (rMaxL X.K):=by
  intro pins s σ H xs us Q I r h
  obtain⟨a,ns,rfl,hq,ne,q⟩:=h
  obtain⟨u,rfl,ru⟩:=r.one
  cases (show u=Value.ref a from ru)
  obtain⟨its,rv,p,hz⟩:=I.list hq
  have lt':a < s.heap.objs.size:=by obtain⟨o,n,e,_⟩:=p;exact Heap.lt_size e
  have lt:a≠s.heap.objs.size:=Nat.ne_of_lt lt'
  have hh:X.A.in1.handled=none:=I.ok.hd hc
  have hl:=p.isList
  have len:=rv.length
  rw[List.length_map]at len
  have pos:0 < ns.length:=List.length_pos_iff.mpr ne
  refine call_max_walk (wpAny_pyIter_list hl ⟨_,_,_,_,_,_,_,rfl,Walks.list hh s.heap.objs.size a lt its.toArray,⟨⟨_,Heap.get?_push_size _ rfl,rfl,rfl⟩,Heap.IsList.push hl _⟩,fun b hb=>?_,?_,CmpOf.ints_gt (fun i=>ns[i]?.getD 0) (fun i v hv=>?_),fun v h' tk pv k=>?_⟩)
  · simp only[List.mem_cons,List.not_mem_nil,or_false]at hb
    show b < (s.heap.objs.push _).size
    rw[Array.size_push]
    rcases hb with rfl | rfl
    · exact Nat.lt_succ_self _
    · exact Nat.lt_succ_of_lt lt'
  · rw[List.size_toArray];omega
  · have hv:its.toArray[i]? = some v:=hv
    rw[List.getElem?_toArray]at hv
    exact vals_int rv hv
  · have ab:=argBest_gt (fun i=>ns[i]?.getD 0) (its.toArray.size - 1)
    rw[List.size_toArray]at ab pv
    revert ab pv
    generalize argBest _ _=j
    intro pv ab
    have pv:its.toArray[j]? = some v:=pv
    rw[List.getElem?_toArray]at pv
    obtain⟨t,rfl⟩:=vals_int rv pv
    have hj:j < ns.length:=by have:=ab.1;omega
    refine⟨.int (ns[j]?.getD 0),H,I.kept (t':=tk) fun b o e=>k b o (fun z=>?_) (Heap.get?_push_of_some _ e),⟨_,rfl⟩,q _ ?_ fun b hb=>?_⟩
    · rw[List.mem_singleton]at z
      exact absurd (Heap.lt_size e) (by rw[z];exact Nat.lt_irrefl _)
    · rw[List.getElem?_eq_getElem hj];exact List.getElem_mem hj
    · obtain⟨i,hi,rfl⟩:=List.getElem_of_mem hb
      have:=ab.2 i (by omega)
      simp only[List.getElem?_eq_getElem hi,Option.getD_some]at this
      exact this
end
end L2
namespace L2
open PySem PySem.Spec PyProof.Rows PySem.Builtin PySem.Builtin.Str
section
variable{X:Cx}
theorem ps_forget{st:Stmt}{t:TS}(i:Nat)(h:PS X st t):PS X st (fun D σ H=>t D (σ.set i none) H):=by
  intro pins s σ H D I q
  refine h pins s (σ.set i none) H D (I.weak List.length_set fun j v e=>?_) q
  by_cases z:i=j
  · subst z
    by_cases z2:i < σ.length
    · rw[List.getElem?_set_self z2]at e;cases e
    · rw[List.getElem?_eq_none (by rw[List.length_set];omega)]at e;cases e
  · rwa [List.getElem?_set_ne z]at e
end
end L2
namespace L2
open PySem PySem.Spec PyProof.Rows
def sT(k:Nat)(led:Bool):SetTable:=
  { mask:=if k < 5 then 7 else if k < 19 then 31 else 127,place:=Array.range k,dummies:=#[],finger:=0,led:=led,moves:=if k < 5 then 0 else if k < 19 then 1 else 2,plain:=true }
def sN(k:Nat)(led:Bool):SetTable:={ sT k led with place:=Array.range (k+1) }
theorem sT_free:∀k < 20,∀led,(sT k led).freeSlot k=some (k,false):=by decide +kernel
theorem sT_put:∀k < 20,∀led,(sT k led).put k=(sN k led,k):=by decide +kernel
theorem sN_fits:∀k < 20,∀led,(sN k led).fits (k+1)=true:=by decide +kernel
theorem sT_fits:∀k < 21,∀led,(sT k led).fits k=true:=by decide +kernel
theorem sN_step:∀k < 20,∀led,(sN k led).tooFull=false→sN k led=sT (k+1) led:=by decide +kernel
theorem sN_relay:∀k < 20,∀led,(sN k led).tooFull=true→(sN k led).relaid ((Array.range (k+1)).map Int.ofNat) (SetTable.grown (k+1))=some (sT (k+1) led,Array.range (k+1)):=by decide +kernel
theorem cov20:∀k < 21,coversAll (Array.range k) k=true:=by decide +kernel
theorem sT_below:∀k < 21,∀i < 21,i≤k→SetTable.below (Array.range k) i=i:=by decide +kernel
def Es(es:Array (Int × Value))(k:Nat):Prop:=es.size=k∧∀(i:Nat) e,es[i]? = some e→∃t,e=((i:Int),Value.int (i:Int) t)
theorem Es.nil:Es #[] 0:=⟨rfl,fun i e h=>by simp at h⟩
theorem Es.push{es:Array (Int × Value)}{k:Nat}(h:Es es k)(t:Tok):Es (es.push ((k:Int),.int (k:Int) t)) (k+1):=by
  refine⟨by rw[Array.size_push,h.1],fun i e he=>?_⟩
  rw[Array.getElem?_push]at he
  split at he
  · rename_i q;rw[h.1]at q;cases he;subst q;exact⟨t,rfl⟩
  · exact h.2 i e he
theorem Es.hash{es:Array (Int × Value)}{k:Nat}(h:Es es k):es.map (·.1)=(Array.range k).map Int.ofNat:=by
  apply Array.ext_getElem?
  intro i
  rw[Array.getElem?_map,Array.getElem?_map]
  by_cases hi:i < k
  · have hi':i < es.size:=by rw[h.1];exact hi
    have h1:es[i]? = some es[i]:=Array.getElem?_eq_getElem hi'
    obtain⟨t,e⟩:=h.2 i _ h1
    rw[h1,e,Array.getElem?_eq_getElem (by rw[Array.size_range];exact hi),Array.getElem_range]
    rfl
  · rw[Array.getElem?_eq_none (by rw[h.1];omega),Array.getElem?_eq_none (by rw[Array.size_range];omega)]
    rfl
theorem ins_end{α:Type}{es:Array α}{k:Nat}(h:es.size=k)(x:α):SetTable.insertAt es k x=es.push x:=by
  apply Array.toList_inj.mp
  rw[SetTable.toList_insertAt,Array.toList_push,List.take_of_length_le (by rw[Array.length_toList];omega),List.drop_eq_nil_of_le (by rw[Array.length_toList];omega)]
theorem lay_new{es:Array (Int × Value)}{k:Nat}{led:Bool}(hk:k < 20)(h:Es es k)(t:Tok) :
    layNew (sT k led) es (k:Int) (.int (k:Int) t)=(es.push ((k:Int),.int (k:Int) t),sN k led,false,false):=by
  unfold layNew
  rw[sT_free k hk led]
  dsimp only
  rw[sT_put k hk led]
  dsimp only
  rw[ins_end h.1]
  have e:(es.push ((k:Int),Value.int (k:Int) t)).size=k+1:=by rw[Array.size_push,h.1]
  rw[e,SetTable.orStandIn,sN_fits k hk led]
  rfl
theorem relay{es:Array (Int × Value)}{k:Nat}{led:Bool}(hk:k < 20)(h:Es es (k+1))(hf:(sN k led).tooFull=true) :
    relayAll (sN k led) es (SetTable.grown es.size)=(es,sT (k+1) led,false):=by
  unfold relayAll
  rw[h.hash,h.1,sN_relay k hk led hf]
  dsimp only
  have e:(Array.range (k+1)).filterMap (fun x=>es[x]?)=es:=by
    apply Array.toList_inj.mp
    rw[Array.toList_filterMap,Array.toList_range,← h.1]
    exact filterMap_getElem?_range es
  rw[e,h.1,cov20 (k+1) (by omega),sT_fits (k+1) (by omega) led]
  rfl
def IsS(h:Heap)(a:Addr)(k:Nat)(led:Bool):Prop:=∃o es ep,h.get? a=some o∧o.ExactSet∧o.data=.set es ep (sT k led)∧Es es k
theorem IsS.at_{h h':Heap}{a:Addr}{k:Nat}{led:Bool}(x:IsS h a k led)(e:∀o,h.get? a=some o→h'.get? a=some o):IsS h' a k led:=by
  obtain⟨o,es,ep,ho,r⟩:=x
  exact⟨o,es,ep,e o ho,r⟩
theorem hash20:∀i:Nat,i < 21→((i:Nat):Int)=hashInt i:=by decide +kernel
section
variable{prog:Program}{w:World}{A:Around}{E:Value→Shared→Prop}{s:Shared}
theorem Es.elems{es:Array (Int × Value)}{k:Nat}(h:Es es k)(hk:k < 21):ElemsOf (PySem.intKind prog w) es.toList:=by
  intro e he
  obtain⟨i,hi,rfl⟩:=List.getElem_of_mem he
  rw[Array.length_toList]at hi
  obtain⟨t,q⟩:=h.2 i es[i] (Array.getElem?_eq_getElem hi)
  rw[Array.getElem_toList,q]
  have hb:i < 21:=by rw[h.1]at hi;omega
  exact⟨⟨(i:Int),intKind_is _ _ _ _,hash20 i hb⟩,rfl⟩
theorem Es.find_lt{es:Array (Int × Value)}{k j:Nat}(h:Es es k)(hj:j < k):∃i,List.findIdx? (fun e=>(PySem.intKind prog w).is (j:Int) e.2) es.toList=some i:=by
  cases hr:List.findIdx? (fun e=>(PySem.intKind prog w).is (j:Int) e.2) es.toList with
  | some i=>exact⟨i,rfl⟩
  | none=>
    have hj':j < es.size:=by rw[h.1];exact hj
    obtain⟨t,q⟩:=h.2 j es[j] (Array.getElem?_eq_getElem hj')
    have:=List.findIdx?_eq_none_iff.mp hr es[j] (by rw[← Array.getElem_toList];exact List.getElem_mem _)
    rw[q,show(PySem.intKind prog w).is (j:Int) (Value.int (j:Int) t)=true from intKind_is _ _ _ _]at this
    cases this
theorem Es.find_new{es:Array (Int × Value)}{k:Nat}(h:Es es k):List.findIdx? (fun e=>(PySem.intKind prog w).is (k:Int) e.2) es.toList=none:=by
  rw[List.findIdx?_eq_none_iff]
  intro e he
  obtain⟨i,hi,rfl⟩:=List.getElem_of_mem he
  rw[Array.length_toList]at hi
  obtain⟨t,q⟩:=h.2 i es[i] (Array.getElem?_eq_getElem hi)
  rw[Array.getElem_toList,q]
  rw[h.1]at hi
  refine Bool.eq_false_iff.mpr fun y=>?_
  have:=(PySem.intKind prog w).inj _ _ _ y (intKind_is prog w (i:Int) t)
  omega
theorem add_old{a:Addr}{k j:Nat}{led:Bool}{t:Tok}{Q:Bool→Shared→Prop}(hS:IsS s.heap a k led)(hk:k < 21)(hj:j < k)(q:Q false s) :
    wpAny (model prog w) A (setAddHashed a (.int (j:Int) t) ((PySem.intKind prog w).hash (j:Int))) Q E s:=by
  obtain⟨o,es,ep,ho,hex,hd,he⟩:=hS
  have hf:(sT k led).fits es.size=true:=by rw[he.1];exact sT_fits k hk led
  have hel:ElemsOf (PySem.intKind prog w) es.toList:=he.elems hk
  unfold setAddHashed setAddHashedIn
  refine wpAny_holding (wpAny_bind (wpAny_setState_of ho hd hf ?_))
  dsimp only
  rw[byScan_of (knd:=PySem.intKind prog w) rfl (by rw[he.1];unfold scanBound;omega) hel]
  simp only[↓reduceIte]
  unfold setAddByScan
  refine wpAny_bind (wpAny_bind (wpAny_rule (wpAny_bind (wpAny_setScan_of (knd:=PySem.intKind prog w) (intKind_is _ _ _ _) ho hd hf hel ?_))))
  obtain⟨i,hi⟩:=he.find_lt (prog:=prog) (w:=w) hj
  rw[hi]
  exact wpAny_pure (wpAny_pure q)
theorem add_new{a:Addr}{k:Nat}{led:Bool}{t:Tok}{Q:Bool→Shared→Prop}(hS:IsS s.heap a k led)(hk:k < 20)
    (q:∀h',Heap.SameBut a s.heap h'→IsS h' a (k+1) led→Q true { s with heap:=h' }) :
    wpAny (model prog w) A (setAddHashed a (.int (k:Int) t) ((PySem.intKind prog w).hash (k:Int))) Q E s:=by
  obtain⟨o,es,ep,ho,hex,hd,he⟩:=hS
  have hf:(sT k led).fits es.size=true:=by rw[he.1];exact sT_fits k (by omega) led
  have hel:ElemsOf (PySem.intKind prog w) es.toList:=he.elems (by omega)
  unfold setAddHashed setAddHashedIn
  refine wpAny_holding (wpAny_bind (wpAny_setState_of ho hd hf ?_))
  dsimp only
  rw[byScan_of (knd:=PySem.intKind prog w) rfl (by rw[he.1];unfold scanBound;omega) hel]
  simp only[↓reduceIte]
  unfold setAddByScan
  refine wpAny_bind (wpAny_bind (wpAny_rule (wpAny_bind (wpAny_setScan_of (knd:=PySem.intKind prog w) (intKind_is _ _ _ _) ho hd hf hel ?_))))
  rw[he.find_new]
  dsimp only
  rw[show(PySem.intKind prog w).hash (k:Int)=(k:Int)from(hash20 k (by omega)).symm,lay_new hk he t]
  dsimp only
  refine wpAny_bind (wpAny_pure ?_)
  have h1:=he.push t
  have hp:(sN k led).plain=true:=rfl
  rw[hp]
  simp only[↓reduceIte]
  refine wpAny_bind (wpAny_pure ?_)
  simp only[↓reduceIte]
  have hz:(es.push ((k:Int),Value.int (k:Int) t)).size≤sizeLine:=by rw[h1.1,sizeLine_eq];omega
  have g1:(s.heap.update a (Obj.putSet (es.push ((k:Int),Value.int (k:Int) t)) (sN k led))).get? a=some { o with data:=.set (es.push ((k:Int),Value.int (k:Int) t)) (ep+1) (sN k led) }:=by
    have:=Heap.get?_update_self (Obj.putSet (es.push ((k:Int),Value.int (k:Int) t)) (sN k led)) ho (by rw[putSet_of _ _ hd];rfl)
    rw[putSet_of _ _ hd]at this;exact this
  have b1:=Heap.SameBut.update s.heap a (Obj.putSet (es.push ((k:Int),Value.int (k:Int) t)) (sN k led))
  refine wpAny_bind (wpAny_storeSet_of ho hd ?_ hz)
  cases hfl:(sN k led).tooFull with
  | false=>
    simp only[Bool.not_false,Bool.true_and,Bool.and_false,Bool.false_eq_true,↓reduceIte]
    rw[sN_step k hk led hfl]at g1 b1 ⊢
    exact wpAny_pure (wpAny_pure (q _ b1 ⟨_,_,_,g1,hex,rfl,h1⟩))
  | true=>
    simp only[Bool.not_false,Bool.true_and,↓reduceIte]
    rw[relay hk h1 hfl]
    dsimp only
    refine wpAny_bind (wpAny_pure ?_)
    have g2:((s.heap.update a (Obj.putSet (es.push ((k:Int),Value.int (k:Int) t)) (sN k led))).update a (Obj.putSet (es.push ((k:Int),Value.int (k:Int) t)) (sT (k+1) led))).get? a=some { o with data:=.set (es.push ((k:Int),Value.int (k:Int) t)) (ep+1+1) (sT (k+1) led) }:=by
      have:=Heap.get?_update_self (Obj.putSet (es.push ((k:Int),Value.int (k:Int) t)) (sT (k+1) led)) g1 (by rw[putSet_of _ _ rfl];rfl)
      rw[putSet_of _ _ rfl]at this;exact this
    refine wpAny_bind (wpAny_storeSet_of g1 rfl ?_ hz)
    exact wpAny_pure (wpAny_pure (q _ (b1.trans (Heap.SameBut.update _ a _)) ⟨_,_,_,g2,hex,rfl,h1⟩))
end
def tpN(val:Nat→Nat):Nat→Nat
  | 0=>0
  | i+1=>if val i < tpN val i then tpN val i else tpN val i+1
theorem tpN_le(val:Nat→Nat):∀i,tpN val i≤tpN val (i+1):=fun i=>by
  show _≤if val i < tpN val i then tpN val i else tpN val i+1
  split <;>omega
theorem tpN_mono(val:Nat→Nat){i j:Nat}(h:i≤j):tpN val i≤tpN val j:=by
  induction h with
  | refl=>exact Nat.le_refl _
  | step _ ih=>exact Nat.le_trans ih (tpN_le val _)
section
variable{prog:Program}{w:World}{A:Around}{R:Result→Shared→Prop}{I:Addr}{fp wr:List Addr}{G:Array GenState→Array GenState→Prop}{n:Nat}{P:Nat→Value→Prop}{St:Nat→Shared→Prop}
theorem srt_loop(W:WalksS prog w A.in1 I fp wr G n P St)(S:Addr)(hSf:S ∉ fp){led:Bool}
    (val:Nat→Nat) (hval:∀i v,P i v→∃t,v=.int (val i) t) (hst:∀i < n,val i≤tpN val i) (hb:tpN val n≤20) :
    ∀(k i:Nat) (s:Shared),n - i=k→i≤n→St i s→IsS s.heap S (tpN val i) led→
      (∀s',Moved (S::wr) G s s'→IsS s'.heap S (tpN val n) led→R (.ok (.ret .none)) s')→
      codeAny (model prog w) A (.builtin "set.update.loop" ⟨[.ref S,.ref I],[]⟩) R s:=by
  have hSw:S ∉ wr:=fun h=>hSf (W.sub _ h)
  have hsub:∀b∈wr,b∈S::wr:=fun b hb=>List.mem_cons_of_mem _ hb
  intro k
  induction k with
  | zero=>
    intro i s hk hi hstt hS hR
    have hin:i=n:=by omega
    subst hin
    refine codeAny_builtin PyProof.Rows.F.entry_set_update_loop ?_
    rw[Around.under_plainId PyProof.Rows.F.plain_set_update_loop _]
    show wpAny _ A.in1 (pyNext (.ref I) >>= _) _ _ s
    refine wpAny_bind (W.done s _ _ hstt fun s' hm=>?_)
    show wpAny _ A.in1 (ret Value.none) _ _ s'
    exact wpAny_pure (hR s' (hm.mono hsub) (hS.at_ fun o e=>hm.heap S _ hSw e))
  | succ k ih=>
    intro i s hk hi hstt hS hR
    have hlt:i < n:=by omega
    refine codeAny_builtin PyProof.Rows.F.entry_set_update_loop ?_
    rw[Around.under_plainId PyProof.Rows.F.plain_set_update_loop _]
    show wpAny _ A.in1 (pyNext (.ref I) >>= _) _ _ s
    refine wpAny_bind (W.item i s _ _ hlt hstt fun v s' hP hst' hm=>?_)
    obtain⟨t,rfl⟩:=hval i v hP
    have hS':=hS.at_ fun o e=>hm.heap S _ hSw e
    have top:=Nat.le_trans (tpN_mono val (show i+1≤n from hlt)) hb
    show wpAny _ A.in1 (holding [Value.int (val i) t] (setAdd S (.int (val i) t)) >>= _) _ _ s'
    refine wpAny_bind (wpAny_holding ?_)
    unfold setAdd
    refine wpAny_holding ?_
    refine wpAny_bind ((PySem.intKind prog w).pyHash (k:=(val i:Int)) (intKind_is _ _ _ _) ?_)
    have fin:∀h',Heap.SameBut S s'.heap h'→IsS h' S (tpN val (i+1)) led→codeAny (model prog w) A (.builtin "set.update.loop" ⟨[.ref S,.ref I],[]⟩) R { s' with heap:=h',toks:=s'.toks+1 }:=by
      intro h' hsb hSi
      refine ih (i+1) _ (by omega) hlt (W.frame _ s' _ _ hst' (Nat.le_succ _) fun b hb o e=>?_) hSi fun s'' hm'' hS''=>?_
      · rw[hsb.2 b (fun h:b=S=>hSf (by rw[← h];exact hb))];exact e
      · refine hR s'' (Moved.trans W.gtrans ((hm.mono hsub).then_heap (Nat.le_succ _) fun b o hb e=>?_) hm'') hS''
        rw[hsb.2 b (fun h:b=S=>hb (by rw[h];exact List.mem_cons_self))];exact e
    have nx:tpN val (i+1)=if val i < tpN val i then tpN val i else tpN val i+1:=rfl
    by_cases lt:val i < tpN val i
    · rw[if_pos lt]at nx
      rw[nx]at fin top
      refine add_old (s:={ s' with toks:=s'.toks+1 }) hS' (by omega) lt ?_
      exact wpAny_pure ⟨plainId_quiet PyProof.Rows.F.plain_set_update_loop _,fin s'.heap (Heap.SameBut.refl _ _) hS'⟩
    · rw[if_neg lt]at nx
      rw[nx]at fin top
      have ev:val i=tpN val i:=by have:=hst i hlt;omega
      rw[ev]
      refine add_new (s:={ s' with toks:=s'.toks+1 }) hS' (by omega) fun h' sb hS2=>?_
      exact wpAny_pure ⟨plainId_quiet PyProof.Rows.F.plain_set_update_loop _,fin h' sb hS2⟩
end
end L2
namespace L2
open PySem PySem.Spec PyProof.Rows
def wkO(w:World)(a:Addr)(ep:Nat)(es:Array (Int × Value)):Array (Int × Value):=if w.params.followText "set-order"=true then pickOrder (w.params.setOrder a ep) es else es
theorem er_perm{α:Type}(l:List α)(i:Nat)(h:i < l.length):([l[i]]++l.eraseIdx i).Perm l:=by
  rw[List.eraseIdx_eq_take_drop_succ]
  rw[List.singleton_append]
  refine List.perm_middle.symm.trans ?_
  rw[← List.drop_eq_getElem_cons h,List.take_append_drop]
theorem pick_go{α:Type}(nx:Nat→Nat):∀(f k:Nat) (l:List α) (out:Array α),l.length=f→(pickOrder.go nx f k l out).toList.Perm (out.toList++l)
  | 0,k,l,out,h=>by
    cases List.length_eq_zero_iff.mp h
    rw[List.append_nil]
    exact .rfl
  | f+1,k,l,out,h=>by
    have lt:nx k % l.length < l.length:=Nat.mod_lt _ (by omega)
    unfold pickOrder.go
    rw[List.getElem?_eq_getElem lt]
    dsimp only
    refine(pick_go nx f (k+1) _ _ (by rw[List.length_eraseIdx_of_lt lt];omega)).trans ?_
    rw[Array.toList_push,List.append_assoc]
    exact List.Perm.append_left _ (er_perm l _ lt)
theorem wkO_perm(w:World)(a:Addr)(ep:Nat)(es:Array (Int × Value)):(wkO w a ep es).toList.Perm es.toList:=by
  unfold wkO
  split
  · exact pick_go _ _ _ _ _ (Array.length_toList ..)
  · exact .rfl
theorem wkO_size(w:World)(a:Addr)(ep:Nat)(es:Array (Int × Value)):(wkO w a ep es).size=es.size:=by
  have:=(wkO_perm w a ep es).length_eq
  rwa [Array.length_toList,Array.length_toList]at this
namespace SF
theorem slot_iter:Slot "set_iterator" "__iter__" "set_iterator.__iter__":=
  .of (owner:="set_iterator") (n:="__iter__") (by rw[typeLookup_type,builtinLookup_eq_fast];kernel_rfl) (by decide +kernel) (by decide +kernel) (by decide +kernel)
    (by first | exact .inl (by decide +kernel) | exact .inr (by decide +kernel)) (by rw[isSubtype_type];kernel_rfl)
theorem slot_next:Slot "set_iterator" "__next__" "set_iterator.__next__":=
  .of (owner:="set_iterator") (n:="__next__") (by rw[typeLookup_type,builtinLookup_eq_fast];kernel_rfl) (by decide +kernel) (by decide +kernel) (by decide +kernel)
    (by first | exact .inl (by decide +kernel) | exact .inr (by decide +kernel)) (by rw[isSubtype_type];kernel_rfl)
theorem entry_next:entryFor table "set_iterator.__next__"=some Builtin.«set_iterator.__next__»:=entryFor_of_fast (by kernel_rfl)
theorem entry_iter:entryFor table "set_iterator.__iter__"=some Builtin.«dict_keyiterator.__iter__»:=entryFor_alias (id':="dict_keyiterator.__iter__") (by kernel_rfl) rfl (by decide +kernel) (by kernel_rfl)
theorem entry_siter:entryFor table "set.__iter__"=some Builtin.«frozenset.__iter__»:=entryFor_alias (id':="frozenset.__iter__") (by kernel_rfl) rfl (by decide +kernel) (by kernel_rfl)
theorem args_iter(a:Value):argsOk "set_iterator.__iter__" ⟨[a],[]⟩:=by unfold argsOk;kernel_rfl
theorem args_next(a:Value):argsOk "set_iterator.__next__" ⟨[a],[]⟩:=by unfold argsOk;kernel_rfl
theorem len_set:typeLookup (.type "set") "__len__"=pure (some (.builtin "set.__len__")):=PySem.F.slot_set_len.lookup
end SF
def IsSI(h:Heap)(w:World)(it a:Addr)(i n ep:Nat):Prop:=
  ∃o,h.get? it=some o∧o.cls=.type "set_iterator"∧o.data=.fields #[rawInt (if w.params.followText "set-order"=true then(0:Nat)else i:Nat),rawInt (i:Nat),.ref a,rawInt (n:Nat),rawInt (ep:Nat)]
theorem IsSI.ty{s:Shared}{w:World}{it a:Addr}{i n ep:Nat}(x:IsSI s.heap w it a i n ep):s.TypeIs (.ref it) "set_iterator":=by
  obtain⟨o,ho,hc,_⟩:=x
  exact⟨o,ho,hc⟩
theorem IsSI.at_{h h':Heap}{w:World}{it a:Addr}{i n ep:Nat}(x:IsSI h w it a i n ep)(e:∀o,h.get? it=some o→h'.get? it=some o):IsSI h' w it a i n ep:=by
  obtain⟨o,ho,r⟩:=x
  exact⟨o,e o ho,r⟩
def RawS(h:Heap)(a:Addr)(w:World)(es:Array (Int × Value))(ep:Nat):Prop:=∃o,h.get? a=some o∧o.ExactSet∧o.data=.set es ep (sT es.size (!w.params.followText "set-order"))
theorem RawS.ty{s:Shared}{w:World}{a:Addr}{es:Array (Int × Value)}{ep:Nat}(x:RawS s.heap a w es ep):s.TypeIs (.ref a) "set":=by
  obtain⟨o,ho,hc,_⟩:=x
  exact⟨o,ho,hc.1⟩
theorem RawS.at_{h h':Heap}{w:World}{a:Addr}{es:Array (Int × Value)}{ep:Nat}(x:RawS h a w es ep)(e:∀o,h.get? a=some o→h'.get? a=some o):RawS h' a w es ep:=by
  obtain⟨o,ho,r⟩:=x
  exact⟨o,e o ho,r⟩
section
variable{prog:Program}{w:World}{A:Around}{E:Value→Shared→Prop}{s:Shared}{a it:Addr}{es:Array (Int × Value)}{ep i:Nat}
theorem si_iter{Q:Value→Shared→Prop}(hm:RawS s.heap a w es ep)(hz:es.size < 21)
    (q:∀h',IsSI h' w s.heap.objs.size a 0 es.size ep→(∀b o,s.heap.get? b=some o→h'.get? b=some o)→h'.objs.size=s.heap.objs.size+1→Q (.ref s.heap.objs.size) { s with heap:=h' }):wpAny (model prog w) A (pyIter (.ref a)) Q E s:=by
  have ty:=hm.ty
  obtain⟨o,ho,hc,hd⟩:=hm
  have hf:=sT_fits es.size hz (!w.params.followText "set-order")
  refine wpAny_pyIter_slot ty PySem.F.slot_set_iter (wpAny_call_entry PySem.F.slot_set_iter ty SF.entry_siter ?_ (PySem.F.args_set_iter_1 _))
  unfold Builtin.«frozenset.__iter__»
  refine wpAny_bind (m:=Builtin.Frozenset.slot0 _ _) (wpAny_pure ?_)
  refine wpAny_bind ?_
  unfold Builtin.Frozenset.sizeOf
  refine wpAny_bind (wpAny_setEntries_of ho hd hf (wpAny_pure ?_))
  refine wpAny_bind ?_
  unfold setDrawn
  refine wpAny_bind (wpAny_setState_of ho hd hf ?_)
  refine wpAny_bind ?_
  unfold setsByText
  refine wpAny_bind (wpAny_askSetting (wpAny_pure (wpAny_pure ?_)))
  split
  · rename_i h;exact Bool.noConfusion (show false=true from((Bool.and_eq_true _ _).mp h).2)
  refine wpAny_bind (wpAny_pure ?_)
  refine wpAny_bind (wpAny_setEpoch_of ho hd hf ?_)
  refine wpAny_bind (wpAny_newObj_type (wpAny_pure ⟨_,rfl,"set_iterator",_,⟨_,Heap.get?_push_size _ rfl,rfl⟩,SF.slot_next.lookup,?_⟩))
  refine q _ ⟨_,Heap.get?_push_size _ rfl,rfl,?_⟩ (fun b o e=>Heap.get?_push_of_some _ e) (size_push' ..)
  simp
theorem si_self{Q:Value→Shared→Prop}{n:Nat}(hit:IsSI s.heap w it a i n ep)(h:Q (.ref it) s):wpAny (model prog w) A (pyIter (.ref it)) Q E s:=by
  refine wpAny_pyIter_slot hit.ty SF.slot_iter (wpAny_call_entry SF.slot_iter hit.ty SF.entry_iter ?_ (SF.args_iter _))
  show wpAny _ _ (ret (.ref it)) _ _ s
  exact wpAny_pure ⟨_,rfl,"set_iterator",_,hit.ty,SF.slot_next.lookup,h⟩
theorem si_set{Q:Option (Value × Nat)→Shared→Prop}(hm:RawS s.heap a w es ep)(hz:es.size < 21)(hi:i≤es.size)
    (q:Q (((wkO w a ep es)[i]?).map fun e=>(e.2,if w.params.followText "set-order"=true then 0 else i+1)) s) :
    wpAny (model prog w) A (setNext a (if w.params.followText "set-order"=true then 0 else i) i ep) Q E s:=by
  obtain⟨o,ho,hc,hd⟩:=hm
  have hf:=sT_fits es.size hz (!w.params.followText "set-order")
  unfold setNext
  refine wpAny_bind (wpAny_setState_of ho hd hf ?_)
  refine wpAny_bind ?_
  unfold setsByText
  refine wpAny_bind (wpAny_askSetting (wpAny_pure ?_))
  dsimp only
  unfold wkO at q
  cases hb:w.params.followText "set-order" with
  | true=>
    rw[hb]at q
    simp only[if_true]at q
    have e:(model prog w).w.params.followText "set-order"=true:=hb
    rw[if_pos e,if_neg (by simp)]
    refine wpAny_bind ?_
    unfold setWalk
    refine wpAny_bind (wpAny_setState_of ho hd hf ?_)
    refine wpAny_bind ?_
    unfold setsByText
    refine wpAny_bind (wpAny_askSetting (wpAny_pure ?_))
    dsimp only
    rw[if_pos e]
    refine wpAny_bind (wpAny_askSetting (wpAny_pure (wpAny_pure ?_)))
    simp only[if_true]
    exact q
  | false=>
    rw[hb]at q
    simp only[Bool.false_eq_true,if_false]at q
    have e:¬((model prog w).w.params.followText "set-order"=true):=by rw[show(model prog w).w.params.followText "set-order"=false from hb];exact Bool.false_ne_true
    rw[if_neg e]
    simp only[Bool.false_eq_true,if_false]
    split
    · rename_i h;exact Bool.noConfusion (show false=true from h)
    refine wpAny_bind (wpAny_pure (wpAny_pure ?_))
    have eb:SetTable.below (sT es.size !false).place i=i:=sT_below es.size hz i (by omega) hi
    rw[eb]
    by_cases lt:i < es.size
    · have e1:es[i]? = some es[i]:=Array.getElem?_eq_getElem lt
      have e2:(sT es.size !false).place[i]? = some i:=by
        show(Array.range es.size)[i]? = some i
        rw[Array.getElem?_eq_getElem (by rw[Array.size_range];exact lt),Array.getElem_range]
      rw[e1]at q ⊢
      rw[e2]
      exact q
    · have e1:es[i]? = none:=Array.getElem?_eq_none (by omega)
      rw[e1]at q ⊢
      exact q
theorem wpT{M:Model}{α:Type}{c:Prop} [Decidable c]{m1 m2:Sem α}{Q:α→Shared→Prop}(hc:c)(h:wpAny M A m1 Q E s):wpAny M A (if c then m1 else m2) Q E s:=by rw[if_pos hc];exact h
theorem fld5{h:Heap}{o:Obj}{x0 x1 x2 x3 x4:Value}(y:Value)(ho:h.get? it=some o)(hd:o.data=.fields #[x0,x1,x2,x3,x4])(hc:o.cls=.type "set_iterator")(j:Nat) :
    ∃o',(h.update it (Obj.mapFields (·.setIfInBounds j y))).get? it=some o'∧o'.cls=.type "set_iterator"∧o'.data=.fields (#[x0,x1,x2,x3,x4].setIfInBounds j y):=
  ⟨_,Heap.get?_update_self _ ho (Obj.isFreed_of_fields (Obj.data_mapFields hd _)),(Obj.cls_mapFields ..).trans hc,Obj.data_mapFields hd _⟩
theorem srt_stop{s1:Shared}{Q:Option Value→Shared→Prop}(hh:A.handled=none)(q:∀h',(∀b o,s1.heap.get? b=some o→h'.get? b=some o)→Q none { s1 with heap:=h' }) :
    wpAny (model prog w) A.in1 (do let x ← newExc (.type "StopIteration") [];raiseNew x) (fun fin s'=>∃v,fin=PySem.Fin.done (Flow.ret v)∧wpAny (model prog w) A (pure (some v)) Q E s') (fun e s'=>wpAny (model prog w) A (do if ← isInstance e (.type "StopIteration")then pure none else throw e) Q E s') s1:=by
  refine wpAny_bind ?_;simp only[newExc,newTuple]
  refine wpAny_bind (wpAny_newObj_type ?_ (by size_fits));refine wpAny_bind (m:=firstArgMember _ _) (wpAny_of_eq (a:=Value.none) (by first | rfl | (simp only[firstArgMember];rfl)) ?_)
  refine wpAny_newObj_type ?_ (by size_fits);simp only[raiseNew];refine wpAny_bind (wpAny_handled ?_)
  rw[show A.in1.handled=none from hh];refine wpAny_bind (wpAny_pure (wpAny_throw ?_))
  refine wpAny_bind (wpAny_isInstance (T:="StopIteration") (b:=true) ⟨_,Heap.get?_push_size _ rfl,rfl⟩ isSubtype_stop (wpAny_pure (q _ fun b o e=>Heap.get?_push_of_some _ (Heap.get?_push_of_some _ e))))
theorem si_next{v:Int × Value}{Q:Option Value→Shared→Prop}(hit:IsSI s.heap w it a i es.size ep)(hm:RawS s.heap a w es ep)(hz:es.size < 21)(hx:(wkO w a ep es)[i]? = some v)(ne:it≠a)
    (q:∀h',IsSI h' w it a (i+1) es.size ep→(∀b o,b≠it→s.heap.get? b=some o→h'.get? b=some o)→Q (some v.2) { s with heap:=h' }):wpAny (model prog w) A (pyNext (.ref it)) Q E s:=by
  have hty:=hit.ty
  obtain⟨o,ho,hc,hd⟩:=hit
  obtain⟨od,hod,hcd,hdd⟩:=id hm
  have hf:=sT_fits es.size hz (!w.params.followText "set-order")
  have hlt:i < es.size:=by
    have:=(Array.getElem?_eq_some_iff.mp hx).1
    rwa [wkO_size]at this
  unfold pyNext
  refine wpAny_bind (wpAny_attempt (wpAny_callSpecial?_slot (name:=Str.ofString "__next__") hty SF.slot_next (wpAny_call_entry SF.slot_next hty SF.entry_next ?_ (SF.args_next _))))
  unfold Builtin.«set_iterator.__next__»
  refine wpAny_bind (m:=slotArgs _ _ _) (wpAny_pure ?_)
  refine wpAny_bind (wpAny_fieldsOf ho hd ?_)
  dsimp only[rawInt]
  refine wpAny_bind (wpAny_setEntries_of hod hdd hf ?_)
  rw[if_neg (by simp)]
  simp only[Int.toNat_natCast]
  refine wpAny_bind (si_set hm hz (Nat.le_of_lt hlt) ?_)
  rw[hx]
  dsimp only[Option.map]
  refine wpAny_bind (wpAny_setField ho hd (by simp) ?_)
  obtain⟨o1,ho1,hc1,hd1⟩:=fld5 (Value.int (((if w.params.followText "set-order"=true then 0 else i+1:Nat):Nat):Int) 0) ho hd hc 0
  refine wpAny_bind (wpAny_setField ho1 hd1 (by simp) ?_)
  refine wpAny_pure ⟨_,rfl,wpAny_pure (q _ ⟨_,Heap.get?_update_self _ ho1 (Obj.isFreed_of_fields (Obj.data_mapFields hd1 _)),(Obj.cls_mapFields ..).trans hc1,?_⟩ fun b ob hb e=>?_)⟩
  · rw[Obj.data_mapFields hd1]
    simp[rawInt]
  · exact(Heap.SameBut.update ..).extBut b ob hb ((Heap.SameBut.update ..).extBut b ob hb e)
theorem si_end{Q:Option Value→Shared→Prop}(hh:A.handled=none)(hit:IsSI s.heap w it a es.size es.size ep)(hm:RawS s.heap a w es ep)(hz:es.size < 21)
    (q:∀h',(∀b o,b≠it→s.heap.get? b=some o→h'.get? b=some o)→Q none { s with heap:=h' }):wpAny (model prog w) A (pyNext (.ref it)) Q E s:=by
  have hty:=hit.ty
  obtain⟨o,ho,hc,hd⟩:=hit
  obtain⟨od,hod,hcd,hdd⟩:=id hm
  have hf:=sT_fits es.size hz (!w.params.followText "set-order")
  unfold pyNext
  refine wpAny_bind (wpAny_attempt (wpAny_callSpecial?_slot (name:=Str.ofString "__next__") hty SF.slot_next (wpAny_call_entry SF.slot_next hty SF.entry_next ?_ (SF.args_next _))))
  unfold Builtin.«set_iterator.__next__»
  refine wpAny_bind (m:=slotArgs _ _ _) (wpAny_pure ?_)
  refine wpAny_bind (wpAny_fieldsOf ho hd ?_)
  dsimp only[rawInt]
  refine wpAny_bind (wpAny_setEntries_of hod hdd hf ?_)
  rw[if_neg (by simp)]
  simp only[Int.toNat_natCast]
  refine wpAny_bind (si_set hm hz (Nat.le_refl _) ?_)
  rw[Array.getElem?_eq_none (by rw[wkO_size];exact Nat.le_refl _)]
  dsimp only[Option.map]
  refine wpAny_bind (wpAny_setField ho hd (by simp) ?_)
  exact srt_stop hh fun h' up=>q h' fun b o hb e=>up b o ((Heap.SameBut.update ..).extBut b o hb e)
theorem si_walks(hh:A.handled=none)(I a:Addr)(hne:a≠I)(es:Array (Int × Value))(hz:es.size < 21)(ep:Nat) :
    Walks prog w A I [I,a] [I] es.size (fun i v=>∃e,(wkO w a ep es)[i]? = some e∧v=e.2) (fun i h=>IsSI h w I a i es.size ep∧RawS h a w es ep)where
  sub:=fun b hb=>by simp at hb;simp[hb]
  frame:=fun _ _ _ st hk=>⟨st.1.at_ fun o e=>hk I (by simp) o e,st.2.at_ fun o e=>hk a (by simp) o e⟩
  item:=fun i s Q E hi st hQ=>by
    have hx:(wkO w a ep es)[i]? = some ((wkO w a ep es)[i]'(by rw[wkO_size];exact hi)):=Array.getElem?_eq_getElem _
    refine si_next st.1 st.2 hz hx hne.symm fun h' hit' up=>?_
    exact hQ _ h' s.toks ⟨_,hx,rfl⟩ ⟨hit',st.2.at_ fun o e=>up a o hne e⟩ fun b o hb e=>up b o (fun h=>hb (by simp[h])) e
  done:=fun s Q E st hQ=>si_end hh st.1 st.2 hz fun h' up=>hQ h' s.toks fun b o hb e=>up b o (fun h=>hb (by simp[h])) e
  self:=fun _ _ _ _ st hQ=>si_self st.1 hQ
theorem si_collect{Q:List Value→Shared→Prop}(hh:A.handled=none)(hm:RawS s.heap a w es ep)(hz:es.size < 21)
    (q:∀h' tk acc,(∀b o,s.heap.get? b=some o→h'.get? b=some o)→ItemsOf (fun i v=>∃e,(wkO w a ep es)[i]? = some e∧v=e.2) acc es.size→Q acc.toList { s with heap:=h',toks:=tk }) :
    wpAny (model prog w) A (collect (.ref a)) Q E s:=by
  have hlt:a < s.heap.objs.size:=by obtain⟨o,ho,_⟩:=hm;exact Heap.lt_size ho
  have hne:a≠s.heap.objs.size:=Nat.ne_of_lt hlt
  unfold collect
  refine wpAny_bind (wpAny_runValue (codeAny_builtin F.entry_proto_collect ?_))
  rw[Around.under_plainId F.plain_proto_collect _]
  show wpAny _ A.in1 (newList [] >>= fun l=>again (.builtin "list.__iadd__" ⟨[l,.ref a],[]⟩)) _ _ s
  refine wpAny_bind (wpAny_newObj_type ?_)
  refine wpAny_pure ⟨plainId_quiet F.plain_list_iadd _,codeAny_builtin F.entry_list_iadd ?_⟩
  rw[Around.under_plainId F.plain_list_iadd _]
  have hS₁:(s.heap.push { cls:=.type "list",data:=.seq ([]:List Value).toArray }).get? s.heap.objs.size=some { cls:=.type "list",data:=.seq ([]:List Value).toArray }:=Heap.get?_push_size _ rfl
  have hm1:RawS (s.heap.push { cls:=.type "list",data:=.seq ([]:List Value).toArray }) a w es ep:=hm.at_ fun o e=>Heap.get?_push_of_some _ e
  have h1:Builtin.List.listSameRef (.ref s.heap.objs.size) (.ref a)=false:=by simp[Builtin.List.listSameRef,hne.symm]
  show wpAny _ A.in1 (Builtin.List.listExtendWith (.ref s.heap.objs.size) (.ref a) (.ref s.heap.objs.size)) _ _ _
  unfold Builtin.List.listExtendWith
  refine wpAny_bind (wpAny_typeOf hm1.ty ?_)
  rw[if_neg (by rw[h1];decide)]
  refine wpAny_bind (si_iter hm1 hz fun h2 hit up2 sz2=>?_)
  have hm2:RawS h2 a w es ep:=hm1.at_ fun o e=>up2 a o e
  have hS₂:=up2 _ _ hS₁
  refine wpAny_bind (wpAny_holding ?_)
  unfold Builtin.List.listLengthHint
  refine wpAny_bind (wpAny_specialOf (s:={ s with heap:=h2 }) hm2.ty SF.len_set ?_)
  have hsp:splitId "set.__len__"=some ("set","__len__"):=by decide +kernel
  dsimp only
  rw[hsp]
  dsimp only
  refine wpAny_bind (wpAny_isInstance (s:={ s with heap:=h2 }) (b:=true) hm2.ty PySem.sub_set_self ?_)
  rw[if_neg (by decide)]
  refine wpT (by decide +kernel) ?_
  refine wpAny_bind (wpAny_typeOf (s:={ s with heap:=h2 }) hm2.ty ?_)
  dsimp only
  refine wpAny_pure ?_
  refine wpT (by decide +kernel) ?_
  refine wpAny_bind (wpAny_rule (wpAny_bind ?_))
  unfold Builtin.List.listTouch
  refine wpAny_bind (listUpdate_at (s:={ s with heap:=h2 }) (xs:=#[]) (n:=0) hS₂ rfl ?_ (Nat.zero_le _) (by decide))
  obtain⟨e3,hS₃⟩:∃e,(h2.update s.heap.objs.size (Obj.mapSeq (·.push Value.none))).get? s.heap.objs.size=some (seqObj "list" (#[].push Value.none) e):=⟨_,get?_update_seq (c:="list") hS₂ _⟩
  refine listUpdate_at hS₃ rfl ?_ (by decide) (by decide)
  obtain⟨e4,hS₄⟩:∃e,((h2.update s.heap.objs.size (Obj.mapSeq (·.push Value.none))).update s.heap.objs.size (Obj.mapSeq (·.pop))).get? s.heap.objs.size=some (seqObj "list" ((#[].push Value.none).pop) e):=⟨_,get?_update_seq (c:="list") hS₃ _⟩
  have up4:∀b o,b≠s.heap.objs.size→h2.get? b=some o→((h2.update s.heap.objs.size (Obj.mapSeq (·.push Value.none))).update s.heap.objs.size (Obj.mapSeq (·.pop))).get? b=some o:=fun b o hb e=>by
    rw[Heap.get?_update_ne _ _ _ _ hb,Heap.get?_update_ne _ _ _ _ hb]
    exact e
  generalize ((h2.update s.heap.objs.size (Obj.mapSeq (·.push Value.none))).update s.heap.objs.size (Obj.mapSeq (·.pop)))=h4 at hS₄ up4 ⊢
  have sz:(s.heap.push { cls:=.type "list",data:=.seq ([]:List Value).toArray }).objs.size=s.heap.objs.size+1:=size_push' ..
  have hI:(s.heap.push { cls:=.type "list",data:=.seq ([]:List Value).toArray }).objs.size≠s.heap.objs.size:=by rw[sz];omega
  have hh2:A.in1.in1.handled=none:=hh
  have haI:a≠(s.heap.push { cls:=.type "list",data:=.seq ([]:List Value).toArray }).objs.size:=by rw[sz];exact Nat.ne_of_lt (Nat.lt_succ_of_lt hlt)
  refine wpAny_pure ⟨plainId_quiet F.plain_extend_loop _,codeAny_extend_loopS ((si_walks (prog:=prog) (w:=w) (A:=A.in1) hh (s.heap.push { cls:=.type "list",data:=.seq ([]:List Value).toArray }).objs.size a haI es hz ep).toS) (by rw[sizeLine_eq];omega) _ ?_ _ es.size 0 _ #[] _ rfl (Nat.zero_le _) ⟨hit.at_ fun o e=>up4 _ o hI e,hm2.at_ fun o e=>up4 _ o hne e⟩ hS₄ (ItemsOf.nil _) fun s' acc' c' hmv hS' hacc=>?_⟩
  · simp only[List.mem_cons,List.mem_singleton,List.not_mem_nil,or_false,not_or]
    exact⟨hI.symm,hne.symm⟩
  show wpAny _ A (load s.heap.objs.size >>= _) _ _ s'
  refine wpAny_bind (wpAny_load hS' ?_)
  obtain⟨h',g',d',tk',os'⟩:=s'
  have eg:g'=s.gens:=hmv.gens
  have ed:d'=s.drawn:=hmv.drawn
  have eo:os'=s.os:=hmv.os
  subst eg;subst ed;subst eo
  refine wpAny_pure (q h' tk' acc' (fun b o e=>?_) hacc)
  have lb:=Heap.lt_size e
  refine hmv.heap b o (fun z=>?_) (up4 b o (Nat.ne_of_lt lb) (up2 b o (Heap.get?_push_of_some _ e)))
  simp only[List.mem_cons,List.mem_singleton,List.not_mem_nil,or_false]at z
  rcases z with z | z
  · exact absurd lb (by rw[z];exact Nat.lt_irrefl _)
  · exact absurd (Nat.lt_of_lt_of_eq lb (Eq.refl _)) (by rw[z];show ¬(s.heap.push { cls:=.type "list",data:=.seq ([]:List Value).toArray }).objs.size < s.heap.objs.size;rw[sz];omega)
theorem items_perm{acc:Array Value}(he:Es es es.size)(hx:ItemsOf (fun i v=>∃e,(wkO w a ep es)[i]? = some e∧v=e.2) acc es.size) :
    ∃ns:List Int,IntsAre acc.toList ns∧ns.Perm ((List.range es.size).map Int.ofNat):=by
  have e1:acc.toList=(wkO w a ep es).toList.map (·.2):=by
    apply List.ext_getElem?
    intro i
    rw[List.getElem?_map,Array.getElem?_toList,Array.getElem?_toList]
    by_cases hi:i < es.size
    · have h1:acc[i]? = some (acc[i]'(by rw[hx.1];exact hi)):=Array.getElem?_eq_getElem _
      obtain⟨e,h2,h3⟩:=hx.2 i _ h1
      rw[h1,h2,h3];rfl
    · rw[Array.getElem?_eq_none (by rw[hx.1];omega),Array.getElem?_eq_none (by rw[wkO_size];omega)];rfl
  have e2:es.toList.map (·.1)=(List.range es.size).map Int.ofNat:=by
    have:=he.hash
    rw[← Array.toList_map,this,Array.toList_map,Array.toList_range]
  have all:∀p∈(wkO w a ep es).toList,∃t,p.2=Value.int p.1 t:=fun p hp=>by
    have hp:=(wkO_perm w a ep es).mem_iff.mp hp
    obtain⟨i,hi,rfl⟩:=List.getElem_of_mem hp
    rw[Array.length_toList]at hi
    obtain⟨t,q⟩:=he.2 i es[i] (Array.getElem?_eq_getElem hi)
    exact⟨t,by rw[Array.getElem_toList,q]⟩
  refine⟨(wkO w a ep es).toList.map (·.1),?_,((wkO_perm w a ep es).map _).trans (by rw[e2])⟩
  rw[e1]
  generalize (wkO w a ep es).toList=l at all
  induction l with
  | nil=>exact .nil
  | cons p l ih=>
    obtain⟨t,e⟩:=all p List.mem_cons_self
    rw[List.map_cons,List.map_cons,e]
    exact .cons _ _ (ih fun q hq=>all q (List.mem_cons_of_mem _ hq))
theorem srt_range:∀(m:Nat) (ns:List Int),ns.Perm ((List.range m).map Int.ofNat)→ns.Pairwise (·≤·)→ns=(List.range m).map Int.ofNat:=fun m ns hp hs=>by
  refine List.Perm.eq_of_pairwise (le:=(·≤·)) (fun x y _ _ h1 h2=>Int.le_antisymm h1 h2) hs ?_ hp
  rw[List.pairwise_map]
  exact List.pairwise_lt_range.imp fun h=>Int.ofNat_le.mpr (Nat.le_of_lt h)
theorem si_sorted{Q:Value→Shared→Prop}(hh:A.handled=none)(hm:RawS s.heap a w es ep)(he:Es es es.size)(hz:es.size < 21)
    (q:∀h' tk l out c,(∀b o,s.heap.get? b=some o→h'.get? b=some o)→a < l→h'.get? l=some (seqObj "list" out c)→IntsAre out.toList ((List.range es.size).map Int.ofNat)→Q (.ref l) { s with heap:=h',toks:=tk }) :
    wpAny (model prog w) A (call (.builtin "sorted") [.ref a]) Q E s:=by
  refine Calls.call_function_entry kind_sorted plain_sorted entry_sorted (args_sorted1 _) ?_
  unfold Builtin.«sorted»
  refine wpAny_bind (m:=checkCount "sorted" 1 1 _) (wpAny_pure ?_)
  refine wpAny_bind (si_collect (A:=A.in1) hh hm hz fun h' tk acc up hx=>?_)
  obtain⟨ns,hI,hp⟩:=items_perm he hx
  refine wpAny_bind (wpAny_newList ?_ (by rw[Array.length_toList,hx.1,sizeLine_eq];omega))
  have hoL:(h'.push (seqObj "list" acc.toList.toArray 0)).get? h'.objs.size=some (seqObj "list" acc.toList.toArray 0):=Heap.get?_push_size _ rfl
  have hln:acc.toList.length < 64:=by rw[Array.length_toList,hx.1];omega
  refine wpAny_bind (wpAny_holding (wpAny_call_entry (s:={ s with heap:=h'.push (seqObj "list" acc.toList.toArray 0),toks:=tk }) slot_list_sort ⟨_,hoL,rfl⟩ entry_list_sort (list_sort_tree hoL hI hln fun out ns' a1 a2 a3=>⟨_,rfl,?_⟩) (args_list_sort _)))
  obtain⟨c,hc⟩:=sortedHeap_at (out:=out) hoL
  refine wpAny_pure ⟨_,rfl,q _ tk _ out c (fun b o e=>?_) ?_ hc ?_⟩
  · have:=up b o e
    rw[sortedHeap_old (Nat.ne_of_lt (Heap.lt_size this)) (by rw[size_push'];exact Nat.lt_succ_of_lt (Heap.lt_size this))]
    exact Heap.get?_push_of_some _ this
  · obtain⟨o,ho,_⟩:=hm
    exact Heap.lt_size (up a o ho)
  · rw[← srt_range _ ns' (a2.trans hp) a3]
    exact a1
set_option maxRecDepth 100000 in
theorem set_new(a:Value){Q₁:Value→Shared→Prop}
    (h:Q₁ (.ref s.heap.objs.size) { s with heap:=s.heap.push { cls:=.type "set",dict:=none,data:=.set #[] 0 (.fresh 0 0 (!w.params.followText "set-order")) } }) :
    codeAny (model prog w) A (.call (.builtin "set.__new__") ⟨[.type "set",a],[]⟩) (wants Q₁ E) s:=by
  refine codeAny_of_tree ?_
  show wpAny _ A.in1 (do checkBuiltinCall "set.__new__" ⟨[.type "set",a],[]⟩;again (.builtin "set.__new__" ⟨[.type "set",a],[]⟩)) _ _ s
  refine wpAny_bind (wpAny_of_eq (PySem.F.newCall_set_1 a) (wpAny_pure ⟨plainId_quiet PySem.F.plain_set_new _,codeAny_builtin PySem.F.entry_set_new ?_⟩))
  rw[Around.under_plainId PySem.F.plain_set_new _]
  unfold Builtin.«set.__new__» Builtin.Frozenset.newClass
  have hsub:=PySem.sub_set_self
  obtain⟨hp,g,d,tk,os⟩:=s
  dsimp only
  wp_walk
  refine wpAny_askSetting (wpAny_pure ?_)
  dsimp only
  simp only[newObj]
  refine wpAny_bind (wpAny_alloc (wpAny_pure ?_))
  exact wpAny_pure h
set_option maxRecDepth 100000 in
set_option maxHeartbeats 3200000 in
theorem set_of_list{l:Addr}{items:Array Value}{val:Nat→Nat}{Q:Value→Shared→Prop}
    (hh:A.handled=none) (hl:s.heap.IsList l items) (hval:∀(i:Nat) (v:Value),items[i]? = some v→∃t,v=.int (val i) t) (hst:∀i < items.size,val i≤tpN val i) (hb:tpN val items.size≤20)
    (h:∀(h':Heap) (tk:Nat),IsS h' s.heap.objs.size (tpN val items.size) (!w.params.followText "set-order")→
      (∀b o,b < s.heap.objs.size→s.heap.get? b=some o→h'.get? b=some o)→Q (.ref s.heap.objs.size) { s with heap:=h',toks:=tk }) :
    wpAny (model prog w) A (call (.type "set") [.ref l]) Q E s:=by
  obtain⟨c,tl,hmro⟩:=PySem.F.called_set.mro
  have hmade:=PySem.F.called_set.made
  have hsub:=PySem.F.called_set.sub
  refine wpAny_call (codeAny_of_tree ?_)
  show wpAny _ _ (callAny (.type "set") _) _ _ _
  refine wpAny_pure ⟨Code.quiet_builtin _ (by decide +kernel),codeAny_builtin F.entry_type_call ?_⟩
  rw[Around.under_plain (weight_type_call_type "set" [.ref l] []) rfl]
  have h1:=PySem.F.called_set.notType
  have h2:=PySem.F.called_set.canCreate
  have hct:=PySem.F.typeCall_set_1 (.ref l)
  repeat (any_goals (first | assumption | wp_step))
  refine codeAny_mono (set_new (w:=w) (.ref l) (E:=E) (Q₁:=fun obj s₁=>obj=.ref s.heap.objs.size∧s₁={ s with heap:=s.heap.push { cls:=.type "set",dict:=none,data:=.set #[] 0 (.fresh 0 0 (!w.params.followText "set-order")) } }) ⟨rfl,rfl⟩) fun r s₁ hr=>?_
  generalize hld:(!w.params.followText "set-order")=led at hr h
  cases r with
  | error e=>exact hr
  | ok fl=>
    cases fl with
    | ret obj=>
      obtain⟨rfl,rfl⟩:=hr
      have hS:(s.heap.push { cls:=.type "set",dict:=none,data:=.set #[] 0 (.fresh 0 0 led) }).get? s.heap.objs.size=some { cls:=.type "set",dict:=none,data:=.set #[] 0 (.fresh 0 0 led) }:=Heap.get?_push_size _ rfl
      have hT:Shared.TypeIs { s with heap:=s.heap.push { cls:=.type "set",dict:=none,data:=.set #[] 0 (.fresh 0 0 led) } } (.ref s.heap.objs.size) "set":=⟨_,hS,rfl⟩
      have hli:=PySem.F.called_set.init.lookup
      have hbi:=PySem.F.called_set.init.bind (.ref s.heap.objs.size)
      repeat (any_goals (first | assumption | wp_step))
      refine codeAny_mono (codeAny_call_builtin (R:=wants (fun r s₂=>r=.none∧∃h' tk,s₂={ s with heap:=h',toks:=tk }∧
          IsS h' s.heap.objs.size (tpN val items.size) led∧
          (∀b o,b < s.heap.objs.size→s.heap.get? b=some o→h'.get? b=some o)) E) PySem.F.called_set.init.plain PySem.F.entry_set_init (check_set_init_1 hT ?_)) fun r₂ s₂ hr₂=>?_
      · obtain⟨ol,hol,hcl,nl,hdl⟩:=hl
        obtain⟨ocls,odict,odata,oslots⟩:=ol
        simp only at hcl hdl
        subst hcl;subst hdl
        have hol':(s.heap.push { cls:=.type "set",dict:=none,data:=.set #[] 0 (.fresh 0 0 led) }).get? l=some { cls:=.type "list",dict:=odict,data:=.seq items nl,slots:=oslots }:=Heap.get?_push_of_some _ hol
        have hsls:=PySem.F.sub_list_set
        have hslf:=PySem.F.sub_list_frozenset
        have hne:(Value.type "list" == Value.type "dict")=false:=by decide
        have hl1:(s.heap.push { cls:=.type "set",dict:=none,data:=.set #[] 0 (.fresh 0 0 led) }).IsList l items:=⟨_,hol',rfl,nl,rfl⟩
        unfold Builtin.«set.__init__» noKeywords Builtin.Frozenset.updateFrom
        generalize hPI:pyIter=PI
        wp_walk
        subst hPI
        refine wpAny_pyIter_list hl1 ?_
        refine wpAny_bind (wpAny_runValue ?_)
        have hlS:l < s.heap.objs.size:=Heap.lt_size hol
        have hh3:A.in1.in1.in1.handled=none:=by simp[hh]
        have hneI:l≠(s.heap.push { cls:=.type "set",dict:=none,data:=.set #[] 0 (.fresh 0 0 led) }).objs.size:=by
          rw[Heap.size_push];exact Nat.ne_of_lt (Nat.lt_succ_of_lt hlS)
        have hSf:s.heap.objs.size ∉ [(s.heap.push { cls:=.type "set",dict:=none,data:=.set #[] 0 (.fresh 0 0 led) }).objs.size,l]:=by
          rw[Heap.size_push];simp only[List.mem_cons,List.mem_singleton,List.not_mem_nil,or_false,not_or]
          exact⟨Nat.ne_of_lt (Nat.lt_succ_self _),Nat.ne_of_gt hlS⟩
        refine srt_loop (led:=led) ((Walks.list hh3 _ l hneI items).toS) s.heap.objs.size hSf val hval hst hb (items.size - 0) 0 _ (by omega) (Nat.zero_le _)
          ⟨⟨_,Heap.get?_push_size _ rfl,rfl,rfl⟩,(hl1.push _)⟩ ?hS0 ?hR
        case hS0=>
          have hget:((s.heap.push { cls:=.type "set",dict:=none,data:=.set #[] 0 (.fresh 0 0 led) }).push { cls:=.type "list_iterator",data:=.fields #[.ref l,.int 0 0] }).get? s.heap.objs.size
              = some { cls:=.type "set",dict:=none,data:=.set #[] 0 (.fresh 0 0 led) }:=Heap.get?_push_of_some _ hS
          exact⟨_,#[],0,hget,⟨rfl,rfl,rfl⟩,by cases led <;>rfl,Es.nil⟩
        case hR=>
          intro s' hm hS'
          obtain⟨h',g',d',tk',os'⟩:=s'
          have eg:g'=s.gens:=hm.gens
          have ed:d'=s.drawn:=hm.drawn
          have eo:os'=s.os:=hm.os
          subst eg;subst ed;subst eo
          show wpAny _ _ _ _ _ _
          refine wpAny_pure ?_
          show wpAny _ _ (ret Value.none) _ _ _
          refine wpAny_pure ⟨rfl,h',tk',rfl,hS',fun b o hb e=>?_⟩
          have hb1:b≠s.heap.objs.size:=Nat.ne_of_lt hb
          have hb2:b≠(s.heap.push { cls:=.type "set",dict:=none,data:=.set #[] 0 (.fresh 0 0 led) }).objs.size:=by
            rw[Heap.size_push];exact Nat.ne_of_lt (Nat.lt_succ_of_lt hb)
          exact hm.heap b o (by simp only[List.mem_cons,List.mem_singleton,List.not_mem_nil,or_false,not_or];exact⟨hb1,hb2⟩) (Heap.get?_push_of_some _ (Heap.get?_push_of_some _ e))
      · cases r₂ with
        | error e=>exact hr₂
        | ok fl₂=>
          cases fl₂ with
          | ret r=>
            obtain⟨rfl,h',tk,rfl,hS',hk'⟩:=hr₂
            repeat (any_goals (first | assumption | wp_step))
            exact h _ _ hS' hk'
          | _=>exact hr₂.elim
    | _=>exact hr.elim
end
theorem srt_boot:bootBuiltins "sorted"=some (.builtin "sorted"):=by decide +kernel
theorem vals_nat{ns:List Nat}{its:List Value}(r:Vals (ns.map fun n=>V.int (n:Nat)) its){i:Nat}{v:Value}(h:its[i]? = some v):∃t,v=.int ((ns.getD i 0:Nat):Int) t:=by
  have len:=r.length
  rw[List.length_map]at len
  have hi:i < its.length:=(List.getElem?_eq_some_iff.mp h).1
  have hb:ns[i]? = some (ns[i]'(by omega)):=List.getElem?_eq_getElem (by omega)
  obtain⟨u,hu,t,ru⟩:=r.get (i:=i) (x:=V.int ((ns[i]'(by omega):Nat):Int)) (by rw[List.getElem?_map,hb];rfl)
  rw[h]at hu
  cases hu
  refine⟨t,?_⟩
  rw[List.getD_eq_getElem?_getD,hb]
  exact ru
theorem srt_ints:∀{ns:List Int} {its:List Value},IntsAre its ns→Vals (ns.map V.int) its
  | _,_,.nil=>.nil
  | _,_,.cons n t h=>.cons ⟨t,rfl⟩ (srt_ints h)
def tSrt(K:PySem.W.Frag)(ta:TA):TE:=fun σ H Q=>ta σ H fun vs H1=>∃a,∃ns:List Nat,vs=[.ref a]∧SqL K H1 a (ns.map fun n=>V.int (n:Nat))∧(∀i < ns.length,ns.getD i 0≤tpN (fun i=>ns.getD i 0) i)∧tpN (fun i=>ns.getD i 0) ns.length≤20∧
  ∀p,H1 p=none→Q (.ref p) (upd H1 p (.lst ((List.range (tpN (fun i=>ns.getD i 0) ns.length)).map fun i=>V.int (i:Nat))))
theorem pe_srt{X:Cx}{a:Expr}{ta:TA}{p p' pos pos':Pos}(hc:X.calm=true)(hg:Gl X "sorted")(hm:X.mg "sorted"=none)(hg':Gl X "set")(hm':X.mg "set"=none)(ha:PA X [a] ta)
    (hs:starEach [a] X.env=[(false,eval a X.env)]:=by rfl) (hs':starEach [.Call (.Name "set" p') [a] [] pos'] X.env=[(false,eval (.Call (.Name "set" p') [a] [] pos') X.env)]:=by rfl) :
    PE X (.Call (.Name "sorted" p) [.Call (.Name "set" p') [a] [] pos'] [] pos) (tSrt X.K ta):=by
  intro pins s σ H Q I h
  refine wpAny_Call_Name_kw (ld_blt I hg hm srt_boot ?_)
  refine PyProof.Rows.callWith_builtin1 ?_ hs' rfl
  rw[hs']
  refine Calls.spliced_cons ?_
  refine Call_ (ld_blt I hg' hm' boot_set (PyProof.Rows.callWith_type1 (thn (ha pos' pins s σ H _ I h) fun us s1 ⟨vs,H1,I1,r1,q1⟩=>?_) hs rfl))
  obtain⟨a,ns,e,hq,hst,hb,q⟩:=q1
  subst e
  obtain⟨u,rfl,ru⟩:=r1.one
  cases (show u=Value.ref a from ru)
  obtain⟨its,rv,pa,hz⟩:=I1.list hq
  have hl:=pa.isList
  have len:=rv.length
  rw[List.length_map]at len
  have sz0:its.toArray.size=ns.length:=by rw[List.size_toArray];exact len.symm
  refine set_of_list (val:=fun i=>ns.getD i 0) (I1.ok.hd hc) hl (fun i v hv=>?_) (by rw[sz0];exact hst) (by rw[sz0];exact hb) fun h' tk hS up=>?_
  · rw[List.getElem?_toArray]at hv
    obtain⟨t,e⟩:=vals_nat rv hv
    exact⟨t,e⟩
  refine Calls.spliced_nil ?_
  rw[sz0]at hS
  obtain⟨o,es,ep,ho,hex,hd,he⟩:=hS
  have hes:es.size=tpN (fun i=>ns.getD i 0) ns.length:=he.1
  refine si_sorted (s:={ s1 with heap:=h',toks:=tk }) (es:=es) (ep:=ep) (I1.ok.hd hc) ⟨o,ho,hex,by rw[hes];exact hd⟩ (by rw[hes];exact he) (by omega) fun h2 tk2 l out c up2 lt2 hl2 hi2=>?_
  rw[hes]at hi2
  have upA:∀b o,s1.heap.get? b=some o→h2.get? b=some o:=fun b o e=>up2 b o (up b o (Heap.lt_size e) e)
  exact⟨.ref _,_,I1.laid (t':=tk2) upA (Nat.le_of_lt lt2) (show ObjOk X.prog X.w _ h2 _ (.lst _)from⟨by rw[List.length_map,List.length_range,sizeLine_eq];omega,out.toList,c,by have:=srt_ints hi2;rw[List.map_map]at this;exact this,by rw[Array.toArray_toList];exact hl2⟩),rfl,q _ (I1.hok.fresh (Nat.le_of_lt lt2))⟩
end L2
set_option maxHeartbeats 0
lay_quick PySem.Challenge.pw_weighwalk_k63_whole_least_sure
namespace H63
open PySem PySem.W
noncomputable section
abbrev q0:=SL.s658472552662922059x5
abbrev q1:=SL.s14018661285674007319x4
abbrev q2:=SL.s6070975301684473832x10
abbrev q3:=SL.s11030030927630378310x26
abbrev q4:=SL.s10062305145149207511x16
abbrev q5:=SL.s17162191345867700912x4
abbrev q6:=SL.s5946037652744460706x9
abbrev q7:=SL.s4278001404047624695x13
abbrev q8:=SL.s2742458400755230247x6
abbrev q9:=SL.s4209523147560561109x18
abbrev q10:=SL.s14755015743595814543x17
abbrev q11:=SL.s4290257624100764138x5
abbrev q12:=SL.s4860613602091757760x24
abbrev q13:=SL.s11443829558043349243x14
def i(n:Int):Value:=.int n 0
def r(n:Addr):Value:=.ref n
def tu(a:Array Value)(n:Nat):Obj:=⟨.type SL.s2766695959194262286x5,none,.seq a n,#[]⟩
def co(a:Array Value):Obj:=⟨.type SL.s5856160107412720595x4,none,.fields a,#[]⟩
def fo(n q:Str)(s:Stmt)(m c:Value):Obj:=⟨.type SL.s7174869446012820540x8,none,.func ⟨n,q,L2.defArgs s,.stmts (L2.defBody s),L2.defScope s,3,[],.none,.none,.none,m,none,c,.none,0⟩,#[]⟩
def f0(n q:Str)(s:Stmt):Obj:=⟨.none,none,.func ⟨n,q,L2.defArgs s,.stmts (L2.defBody s),L2.defScope s,0,[],.none,.none,.none,.none,none,.none,.none,0⟩,#[]⟩
abbrev nd:=@BT.node
abbrev nl:=BT.nil
abbrev lf(x:Obj):BT:=.node x .nil .nil
abbrev kh:=@PySem.PyData.keyHash
def topT(i:Nat):Stmt:=Fast.tw9344343857138323208.main.body.getD i (.Pass ⟨0,0,0,0⟩)
def s0:Str:=⟨⟨[60,109,111,100,117,108,101,62]⟩⟩
def s1:Str:=⟨⟨[47,99,108,97,105,109,47,99,117,116,46,112,121]⟩⟩
def s2:Str:=⟨⟨[95,95,109,97,105,110,95,95]⟩⟩
def s3:Str:=⟨⟨[95,95,110,97,109,101,95,95]⟩⟩
def s4:Str:=⟨⟨[108,97,119,95,119,101,105,103,104,119,97,108,107,95,107,54,51,95,119,104,111,108,101,95,108,101,97,115,116,95,115,117,114,101]⟩⟩
def s5:Str:=⟨⟨[95,95,100,111,99,95,95]⟩⟩
def s6:Str:=⟨⟨[95,95,112,97,99,107,97,103,101,95,95]⟩⟩
def s7:Str:=⟨⟨[95,95,108,111,97,100,101,114,95,95]⟩⟩
def s8:Str:=⟨⟨[95,95,115,112,101,99,95,95]⟩⟩
def s9:Str:=⟨⟨[95,95,97,110,110,111,116,97,116,105,111,110,115,95,95]⟩⟩
def s10:Str:=⟨⟨[95,95,98,117,105,108,116,105,110,115,95,95]⟩⟩
def s11:Str:=⟨⟨[95,95,102,105,108,101,95,95]⟩⟩
def s12:Str:=⟨⟨[95,95,99,97,99,104,101,100,95,95]⟩⟩
def s13:Str:=⟨⟨[95,119,97,108,108]⟩⟩
def s14:Str:=⟨⟨[87,101,105,103,104,69,114,114,111,114]⟩⟩
def s15:Str:=⟨⟨[84,111,111,71,114,101,97,116]⟩⟩
def s16:Str:=⟨⟨[78,111,84,101,120,116]⟩⟩
def s17:Str:=⟨⟨[117,110,105,116]⟩⟩
def s18:Str:=⟨⟨[110,101,101,100,95,116,101,120,116]⟩⟩
def s19:Str:=⟨⟨[75,105,110,100]⟩⟩
def s20:Str:=⟨⟨[80,105,99,107,105,110,103]⟩⟩
def s21:Str:=⟨⟨[84,114,117,116,104,115]⟩⟩
def s22:Str:=⟨⟨[77,79,83,84,95,83,69,84,83]⟩⟩
def s23:Str:=⟨⟨[102,105,114,115,116,95,115,101,116]⟩⟩
def s24:Str:=⟨⟨[110,101,120,116,95,115,101,116]⟩⟩
def s25:Str:=⟨⟨[101,110,100,115,95,119,105,116,104,105,110]⟩⟩
def s26:Str:=⟨⟨[115,101,116,115,95,111,102]⟩⟩
def s27:Str:=⟨⟨[115,116,101,112,115,95,111,102]⟩⟩
def s28:Str:=⟨⟨[101,110,100,115,95,111,102]⟩⟩
def s29:Str:=⟨⟨[115,117,114,101,95,109,97,99,104,105,110,101]⟩⟩
def s30:Str:=⟨⟨[110,117,109,98,101,114,101,100]⟩⟩
def s31:Str:=⟨⟨[115,111,114,116,115,95,111,102]⟩⟩
def s32:Str:=⟨⟨[108,101,97,115,116,95,115,117,114,101]⟩⟩
def s33:Str:=⟨⟨[95,108,97,119,95,115,116,97,116,101]⟩⟩
def s34:Str:=⟨⟨[95,108,97,119,95,110,101,120,116]⟩⟩
def s35:Str:=⟨⟨[95,108,97,119,95,114,111,111,109,115]⟩⟩
def s36:Str:=⟨⟨[95,108,97,119,95,108,101,116,116,101,114,115]⟩⟩
def s37:Str:=⟨⟨[95,108,97,119,95,116,114,117,116,104,115]⟩⟩
def s38:Str:=⟨⟨[95,108,97,119,95,109,97,99,104,105,110,101]⟩⟩
def s39:Str:=⟨⟨[95,108,97,119,95,102,105,114,115,116]⟩⟩
def s40:Str:=⟨⟨[95,108,97,119,95,97,102,116,101,114]⟩⟩
def s41:Str:=⟨⟨[95,108,97,119,95,103,111,111,100]⟩⟩
def s42:Str:=⟨⟨[95,108,97,119,95,97,108,108,95,115,101,116,115]⟩⟩
def s43:Str:=⟨⟨[95,108,97,119,95,114,111,119]⟩⟩
def s44:Str:=⟨⟨[95,108,97,119,95,115,116,101,112,115]⟩⟩
def s45:Str:=⟨⟨[95,108,97,119,95,105,110,95,111,114,100,101,114]⟩⟩
def s46:Str:=⟨⟨[95,108,97,119,95,115,112,114,101,97,100]⟩⟩
def s47:Str:=⟨⟨[95,108,97,119,95,100,111,117,98,108,101,100]⟩⟩
def s48:Str:=⟨⟨[95,108,97,119,95,97,108,108,95,112,97,114,116,101,100]⟩⟩
def s49:Str:=⟨⟨[95,108,97,119,95,98,101,115,105,100,101]⟩⟩
def s50:Str:=⟨⟨[95,108,97,119,95,116,111,108,100]⟩⟩
def s51:Str:=⟨⟨[108,97,119]⟩⟩
def s52:Str:=⟨⟨[107]⟩⟩
def s53:Str:=⟨⟨[95,95,109,111,100,117,108,101,95,95]⟩⟩
def s54:Str:=⟨⟨[119,101,105,103,104,119,97,108,107,46,101,114,114,111,114,115]⟩⟩
def s55:Str:=⟨⟨[95,95,113,117,97,108,110,97,109,101,95,95]⟩⟩
def s56:Str:=⟨⟨[95,95,102,105,114,115,116,108,105,110,101,110,111,95,95]⟩⟩
def s57:Str:=⟨⟨[95,95,115,116,97,116,105,99,95,97,116,116,114,105,98,117,116,101,115,95,95]⟩⟩
def s58:Str:=⟨⟨[95,95,119,101,97,107,114,101,102,95,95]⟩⟩
def s59:Str:=⟨⟨[119,101,105,103,104,119,97,108,107,46,116,97,98,108,101,115]⟩⟩
def s60:Str:=⟨⟨[116,101,120,116]⟩⟩
def s61:Str:=⟨⟨[119,101,105,103,104,119,97,108,107,46,107,105,110,100,115]⟩⟩
def s62:Str:=⟨⟨[95,95,100,105,99,116,95,95]⟩⟩
def s63:Str:=⟨⟨[105,115,95,102,105,101,108,100]⟩⟩
def s64:Str:=⟨⟨[112,105,99,107,115]⟩⟩
def s65:Str:=⟨⟨[109,105,110,117,115]⟩⟩
def s66:Str:=⟨⟨[105,110,118,101,114,115,101]⟩⟩
def s67:Str:=⟨⟨[115,101,108,102]⟩⟩
def s68:Str:=⟨⟨[80,105,99,107,105,110,103,46,105,115,95,102,105,101,108,100]⟩⟩
def s69:Str:=⟨⟨[80,105,99,107,105,110,103,46,112,105,99,107,115]⟩⟩
def s70:Str:=⟨⟨[120]⟩⟩
def s71:Str:=⟨⟨[80,105,99,107,105,110,103,46,109,105,110,117,115]⟩⟩
def s72:Str:=⟨⟨[80,105,99,107,105,110,103,46,105,110,118,101,114,115,101]⟩⟩
def s73:Str:=⟨⟨[116,111,108,100]⟩⟩
def s74:Str:=⟨⟨[110,111,117,103,104,116]⟩⟩
def s75:Str:=⟨⟨[111,110,101]⟩⟩
def s76:Str:=⟨⟨[112,108,117,115]⟩⟩
def s77:Str:=⟨⟨[116,105,109,101,115]⟩⟩
def s78:Str:=⟨⟨[105,115,95,119,101,105,103,104,116]⟩⟩
def s79:Str:=⟨⟨[115,104,111,119,110]⟩⟩
def s80:Str:=⟨⟨[114,101,97,100]⟩⟩
def s81:Str:=⟨⟨[84,114,117,116,104,115,46,116,111,108,100]⟩⟩
def s82:Str:=⟨⟨[84,114,117,116,104,115,46,110,111,117,103,104,116]⟩⟩
def s83:Str:=⟨⟨[84,114,117,116,104,115,46,111,110,101]⟩⟩
def s84:Str:=⟨⟨[121]⟩⟩
def s85:Str:=⟨⟨[84,114,117,116,104,115,46,112,108,117,115]⟩⟩
def s86:Str:=⟨⟨[84,114,117,116,104,115,46,116,105,109,101,115]⟩⟩
def s87:Str:=⟨⟨[116,104,105,110,103]⟩⟩
def s88:Str:=⟨⟨[84,114,117,116,104,115,46,105,115,95,119,101,105,103,104,116]⟩⟩
def s89:Str:=⟨⟨[84,114,117,116,104,115,46,115,104,111,119,110]⟩⟩
def s90:Str:=⟨⟨[84,114,117,116,104,115,46,114,101,97,100]⟩⟩
def s91:Str:=⟨⟨[119,101,105,103,104,119,97,108,107,46,115,117,114,101]⟩⟩
def s92:Str:=⟨⟨[109,97,99,104,105,110,101]⟩⟩
def s93:Str:=⟨⟨[112,108,97,99,101]⟩⟩
def s94:Str:=⟨⟨[116,97,98,108,101]⟩⟩
def s95:Str:=⟨⟨[97,102,116,101,114]⟩⟩
def s96:Str:=⟨⟨[116,104,105,110,103,115]⟩⟩
def s97:Str:=⟨⟨[102,105,114,115,116,115]⟩⟩
def s98:Str:=⟨⟨[95,108,97,119,95,115,99,114,105,112,116]⟩⟩
def s99:Str:=⟨⟨[95,108,97,119,95,115,101,101,100]⟩⟩
def s100:Str:=⟨⟨[95,108,97,119,95,99,101,108,108]⟩⟩
def s101:Str:=⟨⟨[95,108,97,119,95,115,116,97,116,101,95,104,101,114,101]⟩⟩
def s102:Str:=⟨⟨[95,108,97,119,95,109,97,110,121]⟩⟩
def s103:Str:=⟨⟨[95,108,97,119,95,102,111,117,110,100]⟩⟩
def s104:Str:=⟨⟨[95,108,97,119,95,102,101,119]⟩⟩
def s105:Str:=⟨⟨[95,108,97,119,95,109,111,115,116]⟩⟩
def s106:Str:=⟨⟨[95,108,97,119,95,115,111,109,101]⟩⟩
def s107:Str:=⟨⟨[95,108,97,119,95,97,110,115,119,101,114]⟩⟩
def s108:Str:=⟨⟨[95,108,97,119,95,107]⟩⟩
def s109:Str:=⟨⟨[95,108,97,119,95,108,101,116,116,101,114]⟩⟩
def s110:Str:=⟨⟨[95,108,97,119,95,109,97,99,104,105,110,101,95,104,101,114,101]⟩⟩
def s111:Str:=⟨⟨[95,108,97,119,95,97,116]⟩⟩
def s112:Str:=⟨⟨[95,108,97,119,95,109,111,114,101]⟩⟩
def s113:Str:=⟨⟨[95,108,97,119,95,115,116,101,112,115,95,104,101,114,101]⟩⟩
def s114:Str:=⟨⟨[95,108,97,119,95,109,101,116]⟩⟩
def s115:Str:=⟨⟨[95,108,97,119,95,111,116,104,101,114]⟩⟩
def s116:Str:=⟨⟨[95,108,97,119,95,112,108,97,99,101,115]⟩⟩
def s117:Str:=⟨⟨[95,108,97,119,95,106]⟩⟩
def s118:Str:=⟨⟨[95,108,97,119,95,114,101,102,117,115,101,100]⟩⟩
def s119:Str:=⟨⟨[101]⟩⟩
def s120:Str:=⟨⟨[95,108,97,119,95,108,101,116,116,101,114,115,95,104,101,114,101]⟩⟩
def s121:Str:=⟨⟨[95,108,97,119,95,103,111,111,100,95,104,101,114,101]⟩⟩
def s122:Str:=⟨⟨[95,108,97,119,95,102,105,110,101]⟩⟩
def o11a:Obj:=tu #[] 0
def o12a:Obj:=⟨.none,none,.fields #[],#[]⟩
def o13a:Obj:=co #[.str s0 182,.str s0 183,.str s1 184,i 1,i 0,i 0,i 0,i 0,r 11,.bool false,i 181,r 12,.none,.none,.none,.none,i 185,i 1,.str s1 186]
def o14a:Obj:=⟨.type q0,none,.plain,#[some (r 13),some (r 3),some (r 3),none,some (.str s2 164),none,some (r 0)]⟩
def o3(P:Params):Obj:=⟨.type q1,none,.dict #[⟨kh P s3,.str s3 165,.str s4 481⟩,⟨kh P s5,.str s5 166,.none⟩,⟨kh P s6,.str s6 167,.none⟩,⟨kh P s7,.str s7 168,.builtin SL.s7097527257260152453x26⟩,⟨kh P s8,.str s8 169,.none⟩,⟨kh P s9,.str s9 170,r 6⟩,⟨kh P s10,.str s10 171,r 4⟩,⟨kh P s11,.str s11 173,.str s1 172⟩,⟨kh P s12,.str s12 174,.none⟩,⟨kh P s13,.str s13 193,r 21⟩,⟨kh P s14,.str s14 213,r 31⟩,⟨kh P s15,.str s15 229,r 44⟩,⟨kh P s16,.str s16 245,r 56⟩,⟨kh P s17,.str s17 253,r 63⟩,⟨kh P s18,.str s18 262,r 70⟩,⟨kh P s19,.str s19 282,r 80⟩,⟨kh P s20,.str s20 328,r 122⟩,⟨kh P s21,.str s21 407,r 190⟩,⟨kh P s22,.str s22 411,.int 20 410⟩,⟨kh P s23,.str s23 417,r 197⟩,⟨kh P s24,.str s24 423,r 202⟩,⟨kh P s25,.str s25 429,r 207⟩,⟨kh P s26,.str s26 440,r 214⟩,⟨kh P s27,.str s27 446,r 219⟩,⟨kh P s28,.str s28 452,r 224⟩,⟨kh P s29,.str s29 458,r 229⟩,⟨kh P s30,.str s30 468,r 236⟩,⟨kh P s31,.str s31 474,r 241⟩,⟨kh P s32,.str s32 480,r 246⟩,⟨kh P s33,.str s33 491,r 253⟩,⟨kh P s34,.str s34 500,r 260⟩,⟨kh P s35,.str s35 509,r 267⟩,⟨kh P s36,.str s36 520,r 274⟩,⟨kh P s37,.str s37 526,r 279⟩,⟨kh P s38,.str s38 532,r 284⟩,⟨kh P s39,.str s39 538,r 289⟩,⟨kh P s40,.str s40 544,r 294⟩,⟨kh P s41,.str s41 550,r 299⟩,⟨kh P s42,.str s42 562,r 306⟩,⟨kh P s43,.str s43 568,r 311⟩,⟨kh P s44,.str s44 574,r 316⟩,⟨kh P s45,.str s45 584,r 323⟩,⟨kh P s46,.str s46 590,r 328⟩,⟨kh P s47,.str s47 596,r 333⟩,⟨kh P s48,.str s48 602,r 338⟩,⟨kh P s49,.str s49 617,r 345⟩,⟨kh P s50,.str s50 629,r 352⟩,⟨kh P s51,.str s51 643,r 359⟩] 48,#[]⟩
def o12:Obj:=⟨.none,none,.fields #[i 1,i 0,r 20,i 5,i 0,r 27,i 7,i 0,r 40,i 9,i 0,r 52,i 12,i 0,r 62,i 15,i 0,r 69,i 18,i 0,r 76,i 20,i 0,r 90,i 33,i 0,r 130,i 65,i 0,r 196,i 67,i 0,r 201,i 69,i 0,r 206,i 71,i 0,r 213,i 83,i 0,r 218,i 85,i 0,r 223,i 87,i 0,r 228,i 92,i 0,r 235,i 100,i 0,r 240,i 107,i 0,r 245,i 116,i 0,r 252,i 123,i 0,r 259,i 132,i 0,r 266,i 136,i 0,r 273,i 144,i 0,r 278,i 146,i 0,r 283,i 152,i 0,r 288,i 154,i 0,r 293,i 157,i 0,r 298,i 159,i 0,r 305,i 169,i 0,r 310,i 175,i 0,r 315,i 192,i 0,r 322,i 201,i 0,r 327,i 211,i 0,r 332,i 223,i 0,r 337,i 229,i 0,r 344,i 243,i 0,r 351,i 259,i 0,r 358],#[]⟩
def o15:Obj:=tu #[] 0
def o16:Obj:=⟨.none,none,.fields #[],#[]⟩
def o17:Obj:=tu #[.str s52 190] 0
def o18:Obj:=tu #[] 0
def o19:Obj:=f0 s13 s13 (topT 0)
def o20:Obj:=co #[.str s13 187,.str s13 188,.str s1 189,i 1,i 1,i 0,i 0,i 3,r 15,.bool true,i 181,r 16,.none,r 17,r 18,r 19,i 191,i 1,.str s1 192]
def o21:Obj:=fo s13 s13 (topT 0) (.str s2 164) (r 20)
def o22:Obj:=tu #[.type q2] 0
def o23:Obj:=⟨.type q3,none,.fields #[.builtin q4,.type q5],#[]⟩
def o24(P:Params):Obj:=⟨.type q1,none,.dict #[⟨kh P s53,.str s53 203,.str s54 194⟩,⟨kh P s55,.str s55 205,.str s14 204⟩,⟨kh P s56,.str s56 207,.int 5 206⟩,⟨kh P s57,.str s57 208,r 29⟩] 4,#[]⟩
def o25:Obj:=tu #[] 0
def o26:Obj:=⟨.none,none,.fields #[],#[]⟩
def o27:Obj:=co #[.str s14 198,.str s14 199,.str s1 200,i 5,i 0,i 0,i 0,i 0,r 25,.bool false,i 181,r 26,.none,.none,.none,.none,i 201,i 5,.str s1 202]
def o28:Obj:=⟨.type q0,none,.plain,#[some (r 27),some (r 3),some (r 24),none,some (.str s54 194),none,some (r 0)]⟩
def o29:Obj:=tu #[] 0
def o30(P:Params):Obj:=⟨.type q1,none,.dict #[⟨kh P s53,.str s53 203,.str s54 194⟩,⟨kh P s56,.str s56 207,.int 5 206⟩,⟨kh P s57,.str s57 208,r 29⟩,⟨kh P s58,.str s58 210,r 32⟩,⟨kh P s5,.str s5 211,.none⟩] 3,#[]⟩
def o31:Obj:=⟨.type q5,none,.cls ⟨s14,[.type q2],[r 31,.type q2,.type q6,.type q7,.type q8],30,s14,true,[],[r 44,r 56],false,none,false⟩,#[some (r 22),none,some (.str s14 196),some (.str s14 204),some (.builtin q9),some (.bool true)]⟩
def o32:Obj:=⟨.type q10,none,.fields #[.str s58 209,r 31,.builtin SL.s10220274742760427390x26,.none],#[]⟩
def o33:Obj:=⟨.type q11,none,.fields #[r 31,r 31,r 31],#[]⟩
def o34:Obj:=⟨.type q3,none,.fields #[.builtin q12,r 31],#[]⟩
def o35:Obj:=tu #[r 31] 0
def o36:Obj:=⟨.type q3,none,.fields #[.builtin q4,.type q5],#[]⟩
def o37(P:Params):Obj:=⟨.type q1,none,.dict #[⟨kh P s53,.str s53 221,.str s54 194⟩,⟨kh P s55,.str s55 223,.str s15 222⟩,⟨kh P s56,.str s56 225,.int 7 224⟩,⟨kh P s57,.str s57 226,r 42⟩] 4,#[]⟩
def o38:Obj:=tu #[] 0
def o39:Obj:=⟨.none,none,.fields #[],#[]⟩
def o40:Obj:=co #[.str s15 216,.str s15 217,.str s1 218,i 7,i 0,i 0,i 0,i 0,r 38,.bool false,i 181,r 39,.none,.none,.none,.none,i 219,i 7,.str s1 220]
def o41:Obj:=⟨.type q0,none,.plain,#[some (r 40),some (r 3),some (r 37),none,some (.str s54 194),none,some (r 0)]⟩
def o42:Obj:=tu #[] 0
def o43(P:Params):Obj:=⟨.type q1,none,.dict #[⟨kh P s53,.str s53 221,.str s54 194⟩,⟨kh P s56,.str s56 225,.int 7 224⟩,⟨kh P s57,.str s57 226,r 42⟩,⟨kh P s5,.str s5 227,.none⟩] 2,#[]⟩
def o44:Obj:=⟨.type q5,none,.cls ⟨s15,[r 31],[r 44,r 31,.type q2,.type q6,.type q7,.type q8],43,s15,true,[],[],false,none,false⟩,#[some (r 35),none,some (.str s15 214),some (.str s15 222),some (.builtin q9),some (.bool true)]⟩
def o45:Obj:=⟨.type q11,none,.fields #[r 44,r 44,r 44],#[]⟩
def o46:Obj:=⟨.type q3,none,.fields #[.builtin q12,r 44],#[]⟩
def o47:Obj:=tu #[r 31] 0
def o48:Obj:=⟨.type q3,none,.fields #[.builtin q4,.type q5],#[]⟩
def o49(P:Params):Obj:=⟨.type q1,none,.dict #[⟨kh P s53,.str s53 237,.str s54 194⟩,⟨kh P s55,.str s55 239,.str s16 238⟩,⟨kh P s56,.str s56 241,.int 9 240⟩,⟨kh P s57,.str s57 242,r 54⟩] 4,#[]⟩
def o50:Obj:=tu #[] 0
def o51:Obj:=⟨.none,none,.fields #[],#[]⟩
def o52:Obj:=co #[.str s16 232,.str s16 233,.str s1 234,i 9,i 0,i 0,i 0,i 0,r 50,.bool false,i 181,r 51,.none,.none,.none,.none,i 235,i 9,.str s1 236]
def o53:Obj:=⟨.type q0,none,.plain,#[some (r 52),some (r 3),some (r 49),none,some (.str s54 194),none,some (r 0)]⟩
def o54:Obj:=tu #[] 0
def o55(P:Params):Obj:=⟨.type q1,none,.dict #[⟨kh P s53,.str s53 237,.str s54 194⟩,⟨kh P s56,.str s56 241,.int 9 240⟩,⟨kh P s57,.str s57 242,r 54⟩,⟨kh P s5,.str s5 243,.none⟩] 2,#[]⟩
def o56:Obj:=⟨.type q5,none,.cls ⟨s16,[r 31],[r 56,r 31,.type q2,.type q6,.type q7,.type q8],55,s16,true,[],[],false,none,false⟩,#[some (r 47),none,some (.str s16 230),some (.str s16 238),some (.builtin q9),some (.bool true)]⟩
def o57:Obj:=⟨.type q11,none,.fields #[r 56,r 56,r 56],#[]⟩
def o58:Obj:=⟨.type q3,none,.fields #[.builtin q12,r 56],#[]⟩
def o59:Obj:=tu #[] 0
def o60:Obj:=⟨.none,none,.fields #[],#[]⟩
def o61:Obj:=f0 s17 s17 (topT 6)
def o62:Obj:=co #[.str s17 248,.str s17 249,.str s1 250,i 12,i 3,i 0,i 0,i 3,r 59,.bool true,i 181,r 60,.none,.none,.none,r 61,i 251,i 12,.str s1 252]
def o63:Obj:=fo s17 s17 (topT 6) (.str s59 246) (r 62)
def o64:Obj:=tu #[] 0
def o65:Obj:=⟨.none,none,.fields #[],#[]⟩
def o66:Obj:=tu #[.str s60 259] 0
def o67:Obj:=tu #[] 0
def o68:Obj:=f0 s18 s18 (topT 8)
def o69:Obj:=co #[.str s18 256,.str s18 257,.str s1 258,i 15,i 1,i 0,i 0,i 3,r 64,.bool true,i 181,r 65,.none,r 66,r 67,r 68,i 260,i 15,.str s1 261]
def o70:Obj:=fo s18 s18 (topT 8) (.str s61 254) (r 69)
def o71:Obj:=tu #[] 0
def o72:Obj:=⟨.type q3,none,.fields #[.builtin q4,.type q5],#[]⟩
def o73(P:Params):Obj:=⟨.type q1,none,.dict #[⟨kh P s53,.str s53 270,.str s61 254⟩,⟨kh P s55,.str s55 272,.str s19 271⟩,⟨kh P s56,.str s56 274,.int 18 273⟩,⟨kh P s57,.str s57 275,r 78⟩] 4,#[]⟩
def o74:Obj:=tu #[] 0
def o75:Obj:=⟨.none,none,.fields #[],#[]⟩
def o76:Obj:=co #[.str s19 265,.str s19 266,.str s1 267,i 18,i 0,i 0,i 0,i 0,r 74,.bool false,i 181,r 75,.none,.none,.none,.none,i 268,i 18,.str s1 269]
def o77:Obj:=⟨.type q0,none,.plain,#[some (r 76),some (r 3),some (r 73),none,some (.str s61 254),none,some (r 0)]⟩
def o78:Obj:=tu #[] 0
def o79(P:Params):Obj:=⟨.type q1,none,.dict #[⟨kh P s53,.str s53 270,.str s61 254⟩,⟨kh P s56,.str s56 274,.int 18 273⟩,⟨kh P s57,.str s57 275,r 78⟩,⟨kh P s62,.str s62 277,r 81⟩,⟨kh P s58,.str s58 279,r 82⟩,⟨kh P s5,.str s5 280,.none⟩] 4,#[]⟩
def o80:Obj:=⟨.type q5,none,.cls ⟨s19,[.type q8],[r 80,.type q8],79,s19,true,[],[r 122],false,none,false⟩,#[none,none,some (.str s19 263),some (.str s19 271),some (.builtin q13),some (.bool true)]⟩
def o81:Obj:=⟨.type q10,none,.fields #[.str s62 276,r 80,.builtin SL.s6511155373996960695x17,.builtin SL.s12411053484034534018x21],#[]⟩
def o82:Obj:=⟨.type q10,none,.fields #[.str s58 278,r 80,.builtin SL.s10220274742760427390x26,.none],#[]⟩
def o83:Obj:=⟨.type q11,none,.fields #[r 80,r 80,r 80],#[]⟩
def o84:Obj:=⟨.type q3,none,.fields #[.builtin q12,r 80],#[]⟩
def o85:Obj:=tu #[r 80] 0
def o86:Obj:=⟨.type q3,none,.fields #[.builtin q4,.type q5],#[]⟩
def o87(P:Params):Obj:=⟨.type q1,none,.dict #[⟨kh P s53,.str s53 290,.str s61 254⟩,⟨kh P s55,.str s55 292,.str s20 291⟩,⟨kh P s56,.str s56 294,.int 20 293⟩,⟨kh P s63,.str s63 301,r 98⟩,⟨kh P s64,.str s64 308,r 105⟩,⟨kh P s65,.str s65 316,r 112⟩,⟨kh P s66,.str s66 324,r 119⟩,⟨kh P s57,.str s57 325,r 120⟩] 8,#[]⟩
def o88:Obj:=tu #[] 0
def o89:Obj:=⟨.none,none,.fields #[i 22,i 4,r 97,i 25,i 4,r 104,i 28,i 4,r 111,i 31,i 4,r 118],#[]⟩
def o90:Obj:=co #[.str s20 285,.str s20 286,.str s1 287,i 20,i 0,i 0,i 0,i 0,r 88,.bool false,i 181,r 89,.none,.none,.none,.none,i 288,i 20,.str s1 289]
def o91:Obj:=⟨.type q0,none,.plain,#[some (r 90),some (r 3),some (r 87),none,some (.str s61 254),none,some (r 0)]⟩
def o92:Obj:=tu #[] 0
def o93:Obj:=⟨.none,none,.fields #[],#[]⟩
def o94:Obj:=tu #[.str s67 298] 0
def o95:Obj:=tu #[] 0
def o96:Obj:=f0 s63 s68 (L2.inClass (topT 10) 0)
def o97:Obj:=co #[.str s63 295,.str s68 296,.str s1 297,i 22,i 1,i 0,i 0,i 3,r 92,.bool true,i 181,r 93,.none,r 94,r 95,r 96,i 299,i 22,.str s1 300]
def o98:Obj:=fo s63 s68 (L2.inClass (topT 10) 0) (.str s61 254) (r 97)
def o99:Obj:=tu #[] 0
def o100:Obj:=⟨.none,none,.fields #[],#[]⟩
def o101:Obj:=tu #[.str s67 305] 0
def o102:Obj:=tu #[] 0
def o103:Obj:=f0 s64 s69 (L2.inClass (topT 10) 1)
def o104:Obj:=co #[.str s64 302,.str s69 303,.str s1 304,i 25,i 1,i 0,i 0,i 3,r 99,.bool true,i 181,r 100,.none,r 101,r 102,r 103,i 306,i 25,.str s1 307]
def o105:Obj:=fo s64 s69 (L2.inClass (topT 10) 1) (.str s61 254) (r 104)
def o106:Obj:=tu #[] 0
def o107:Obj:=⟨.none,none,.fields #[],#[]⟩
def o108:Obj:=tu #[.str s67 312,.str s70 313] 0
def o109:Obj:=tu #[] 0
def o110:Obj:=f0 s65 s71 (L2.inClass (topT 10) 2)
def o111:Obj:=co #[.str s65 309,.str s71 310,.str s1 311,i 28,i 2,i 0,i 0,i 3,r 106,.bool true,i 181,r 107,.none,r 108,r 109,r 110,i 314,i 28,.str s1 315]
def o112:Obj:=fo s65 s71 (L2.inClass (topT 10) 2) (.str s61 254) (r 111)
def o113:Obj:=tu #[] 0
def o114:Obj:=⟨.none,none,.fields #[],#[]⟩
def o115:Obj:=tu #[.str s67 320,.str s70 321] 0
def o116:Obj:=tu #[] 0
def o117:Obj:=f0 s66 s72 (L2.inClass (topT 10) 3)
def o118:Obj:=co #[.str s66 317,.str s72 318,.str s1 319,i 31,i 2,i 0,i 0,i 3,r 113,.bool true,i 181,r 114,.none,r 115,r 116,r 117,i 322,i 31,.str s1 323]
def o119:Obj:=fo s66 s72 (L2.inClass (topT 10) 3) (.str s61 254) (r 118)
def o120:Obj:=tu #[] 0
def o121(P:Params):Obj:=⟨.type q1,none,.dict #[⟨kh P s53,.str s53 290,.str s61 254⟩,⟨kh P s56,.str s56 294,.int 20 293⟩,⟨kh P s63,.str s63 301,r 98⟩,⟨kh P s64,.str s64 308,r 105⟩,⟨kh P s65,.str s65 316,r 112⟩,⟨kh P s66,.str s66 324,r 119⟩,⟨kh P s57,.str s57 325,r 120⟩,⟨kh P s5,.str s5 326,.none⟩] 2,#[]⟩
def o122:Obj:=⟨.type q5,none,.cls ⟨s20,[r 80],[r 122,r 80,.type q8],121,s20,true,[],[r 190],false,none,false⟩,#[some (r 85),none,some (.str s20 283),some (.str s20 291),some (.builtin q13),some (.bool true)]⟩
def o123:Obj:=⟨.type q11,none,.fields #[r 122,r 122,r 122],#[]⟩
def o124:Obj:=⟨.type q3,none,.fields #[.builtin q12,r 122],#[]⟩
def o125:Obj:=tu #[r 122] 0
def o126:Obj:=⟨.type q3,none,.fields #[.builtin q4,.type q5],#[]⟩
def o127(P:Params):Obj:=⟨.type q1,none,.dict #[⟨kh P s53,.str s53 336,.str s61 254⟩,⟨kh P s55,.str s55 338,.str s21 337⟩,⟨kh P s56,.str s56 340,.int 33 339⟩,⟨kh P s73,.str s73 347,r 138⟩,⟨kh P s74,.str s74 354,r 145⟩,⟨kh P s75,.str s75 361,r 152⟩,⟨kh P s76,.str s76 370,r 159⟩,⟨kh P s77,.str s77 379,r 166⟩,⟨kh P s78,.str s78 387,r 173⟩,⟨kh P s79,.str s79 395,r 180⟩,⟨kh P s80,.str s80 403,r 187⟩,⟨kh P s57,.str s57 404,r 188⟩] 12,#[]⟩
def o128:Obj:=tu #[] 0
def o129:Obj:=⟨.none,none,.fields #[i 35,i 4,r 137,i 38,i 4,r 144,i 41,i 4,r 151,i 44,i 4,r 158,i 47,i 4,r 165,i 50,i 4,r 172,i 53,i 4,r 179,i 56,i 4,r 186],#[]⟩
def o130:Obj:=co #[.str s21 331,.str s21 332,.str s1 333,i 33,i 0,i 0,i 0,i 0,r 128,.bool false,i 181,r 129,.none,.none,.none,.none,i 334,i 33,.str s1 335]
def o131:Obj:=⟨.type q0,none,.plain,#[some (r 130),some (r 3),some (r 127),none,some (.str s61 254),none,some (r 0)]⟩
def o132:Obj:=tu #[] 0
def o133:Obj:=⟨.none,none,.fields #[],#[]⟩
def o134:Obj:=tu #[.str s67 344] 0
def o135:Obj:=tu #[] 0
def o136:Obj:=f0 s73 s81 (L2.inClass (topT 11) 0)
def o137:Obj:=co #[.str s73 341,.str s81 342,.str s1 343,i 35,i 1,i 0,i 0,i 3,r 132,.bool true,i 181,r 133,.none,r 134,r 135,r 136,i 345,i 35,.str s1 346]
def o138:Obj:=fo s73 s81 (L2.inClass (topT 11) 0) (.str s61 254) (r 137)
def o139:Obj:=tu #[] 0
def o140:Obj:=⟨.none,none,.fields #[],#[]⟩
def o141:Obj:=tu #[.str s67 351] 0
def o142:Obj:=tu #[] 0
def o143:Obj:=f0 s74 s82 (L2.inClass (topT 11) 1)
def o144:Obj:=co #[.str s74 348,.str s82 349,.str s1 350,i 38,i 1,i 0,i 0,i 3,r 139,.bool true,i 181,r 140,.none,r 141,r 142,r 143,i 352,i 38,.str s1 353]
def o145:Obj:=fo s74 s82 (L2.inClass (topT 11) 1) (.str s61 254) (r 144)
def o146:Obj:=tu #[] 0
def o147:Obj:=⟨.none,none,.fields #[],#[]⟩
def o148:Obj:=tu #[.str s67 358] 0
def o149:Obj:=tu #[] 0
def o150:Obj:=f0 s75 s83 (L2.inClass (topT 11) 2)
def o151:Obj:=co #[.str s75 355,.str s83 356,.str s1 357,i 41,i 1,i 0,i 0,i 3,r 146,.bool true,i 181,r 147,.none,r 148,r 149,r 150,i 359,i 41,.str s1 360]
def o152:Obj:=fo s75 s83 (L2.inClass (topT 11) 2) (.str s61 254) (r 151)
def o153:Obj:=tu #[] 0
def o154:Obj:=⟨.none,none,.fields #[],#[]⟩
def o155:Obj:=tu #[.str s67 365,.str s70 366,.str s84 367] 0
def o156:Obj:=tu #[] 0
def o157:Obj:=f0 s76 s85 (L2.inClass (topT 11) 3)
def o158:Obj:=co #[.str s76 362,.str s85 363,.str s1 364,i 44,i 3,i 0,i 0,i 3,r 153,.bool true,i 181,r 154,.none,r 155,r 156,r 157,i 368,i 44,.str s1 369]
def o159:Obj:=fo s76 s85 (L2.inClass (topT 11) 3) (.str s61 254) (r 158)
def o160:Obj:=tu #[] 0
def o161:Obj:=⟨.none,none,.fields #[],#[]⟩
def o162:Obj:=tu #[.str s67 374,.str s70 375,.str s84 376] 0
def o163:Obj:=tu #[] 0
def o164:Obj:=f0 s77 s86 (L2.inClass (topT 11) 4)
def o165:Obj:=co #[.str s77 371,.str s86 372,.str s1 373,i 47,i 3,i 0,i 0,i 3,r 160,.bool true,i 181,r 161,.none,r 162,r 163,r 164,i 377,i 47,.str s1 378]
def o166:Obj:=fo s77 s86 (L2.inClass (topT 11) 4) (.str s61 254) (r 165)
def o167:Obj:=tu #[] 0
def o168:Obj:=⟨.none,none,.fields #[],#[]⟩
def o169:Obj:=tu #[.str s67 383,.str s87 384] 0
def o170:Obj:=tu #[] 0
def o171:Obj:=f0 s78 s88 (L2.inClass (topT 11) 5)
def o172:Obj:=co #[.str s78 380,.str s88 381,.str s1 382,i 50,i 2,i 0,i 0,i 3,r 167,.bool true,i 181,r 168,.none,r 169,r 170,r 171,i 385,i 50,.str s1 386]
def o173:Obj:=fo s78 s88 (L2.inClass (topT 11) 5) (.str s61 254) (r 172)
def o174:Obj:=tu #[] 0
def o175:Obj:=⟨.none,none,.fields #[],#[]⟩
def o176:Obj:=tu #[.str s67 391,.str s70 392] 0
def o177:Obj:=tu #[] 0
def o178:Obj:=f0 s79 s89 (L2.inClass (topT 11) 6)
def o179:Obj:=co #[.str s79 388,.str s89 389,.str s1 390,i 53,i 2,i 0,i 0,i 3,r 174,.bool true,i 181,r 175,.none,r 176,r 177,r 178,i 393,i 53,.str s1 394]
def o180:Obj:=fo s79 s89 (L2.inClass (topT 11) 6) (.str s61 254) (r 179)
def o181:Obj:=tu #[] 0
def o182:Obj:=⟨.none,none,.fields #[],#[]⟩
def o183:Obj:=tu #[.str s67 399,.str s60 400] 0
def o184:Obj:=tu #[] 0
def o185:Obj:=f0 s80 s90 (L2.inClass (topT 11) 7)
def o186:Obj:=co #[.str s80 396,.str s90 397,.str s1 398,i 56,i 2,i 0,i 0,i 3,r 181,.bool true,i 181,r 182,.none,r 183,r 184,r 185,i 401,i 56,.str s1 402]
def o187:Obj:=fo s80 s90 (L2.inClass (topT 11) 7) (.str s61 254) (r 186)
def o188:Obj:=tu #[] 0
def o189(P:Params):Obj:=⟨.type q1,none,.dict #[⟨kh P s53,.str s53 336,.str s61 254⟩,⟨kh P s56,.str s56 340,.int 33 339⟩,⟨kh P s73,.str s73 347,r 138⟩,⟨kh P s74,.str s74 354,r 145⟩,⟨kh P s75,.str s75 361,r 152⟩,⟨kh P s76,.str s76 370,r 159⟩,⟨kh P s77,.str s77 379,r 166⟩,⟨kh P s78,.str s78 387,r 173⟩,⟨kh P s79,.str s79 395,r 180⟩,⟨kh P s80,.str s80 403,r 187⟩,⟨kh P s57,.str s57 404,r 188⟩,⟨kh P s5,.str s5 405,.none⟩] 2,#[]⟩
def o190:Obj:=⟨.type q5,none,.cls ⟨s21,[r 122],[r 190,r 122,r 80,.type q8],189,s21,true,[],[],false,none,false⟩,#[some (r 125),none,some (.str s21 329),some (.str s21 337),some (.builtin q13),some (.bool true)]⟩
def o191:Obj:=⟨.type q11,none,.fields #[r 190,r 190,r 190],#[]⟩
def o192:Obj:=⟨.type q3,none,.fields #[.builtin q12,r 190],#[]⟩
def o193:Obj:=tu #[] 0
def o194:Obj:=⟨.none,none,.fields #[],#[]⟩
def o195:Obj:=f0 s23 s23 (topT 14)
def o196:Obj:=co #[.str s23 412,.str s23 413,.str s1 414,i 65,i 1,i 0,i 0,i 3,r 193,.bool true,i 181,r 194,.none,.none,.none,r 195,i 415,i 65,.str s1 416]
def o197:Obj:=fo s23 s23 (topT 14) (.str s91 408) (r 196)
def o198:Obj:=tu #[] 0
def o199:Obj:=⟨.none,none,.fields #[],#[]⟩
def o200:Obj:=f0 s24 s24 (topT 15)
def o201:Obj:=co #[.str s24 418,.str s24 419,.str s1 420,i 67,i 2,i 0,i 0,i 3,r 198,.bool true,i 181,r 199,.none,.none,.none,r 200,i 421,i 67,.str s1 422]
def o202:Obj:=fo s24 s24 (topT 15) (.str s91 408) (r 201)
def o203:Obj:=tu #[] 0
def o204:Obj:=⟨.none,none,.fields #[],#[]⟩
def o205:Obj:=f0 s25 s25 (topT 16)
def o206:Obj:=co #[.str s25 424,.str s25 425,.str s1 426,i 69,i 2,i 0,i 0,i 3,r 203,.bool true,i 181,r 204,.none,.none,.none,r 205,i 427,i 69,.str s1 428]
def o207:Obj:=fo s25 s25 (topT 16) (.str s91 408) (r 206)
def o208:Obj:=tu #[] 0
def o209:Obj:=⟨.none,none,.fields #[],#[]⟩
def o210:Obj:=tu #[.str s92 433,.str s73 434,.str s93 435,.str s94 436,.str s95 437] 0
def o211:Obj:=tu #[] 0
def o212:Obj:=f0 s26 s26 (topT 17)
def o213:Obj:=co #[.str s26 430,.str s26 431,.str s1 432,i 71,i 1,i 0,i 0,i 3,r 208,.bool true,i 181,r 209,.none,r 210,r 211,r 212,i 438,i 71,.str s1 439]
def o214:Obj:=fo s26 s26 (topT 17) (.str s91 408) (r 213)
def o215:Obj:=tu #[] 0
def o216:Obj:=⟨.none,none,.fields #[],#[]⟩
def o217:Obj:=f0 s27 s27 (topT 18)
def o218:Obj:=co #[.str s27 441,.str s27 442,.str s1 443,i 83,i 2,i 0,i 0,i 3,r 215,.bool true,i 181,r 216,.none,.none,.none,r 217,i 444,i 83,.str s1 445]
def o219:Obj:=fo s27 s27 (topT 18) (.str s91 408) (r 218)
def o220:Obj:=tu #[] 0
def o221:Obj:=⟨.none,none,.fields #[],#[]⟩
def o222:Obj:=f0 s28 s28 (topT 19)
def o223:Obj:=co #[.str s28 447,.str s28 448,.str s1 449,i 85,i 2,i 0,i 0,i 3,r 220,.bool true,i 181,r 221,.none,.none,.none,r 222,i 450,i 85,.str s1 451]
def o224:Obj:=fo s28 s28 (topT 19) (.str s91 408) (r 223)
def o225:Obj:=tu #[] 0
def o226:Obj:=⟨.none,none,.fields #[],#[]⟩
def o227:Obj:=f0 s29 s29 (topT 20)
def o228:Obj:=co #[.str s29 453,.str s29 454,.str s1 455,i 87,i 3,i 0,i 0,i 3,r 225,.bool true,i 181,r 226,.none,.none,.none,r 227,i 456,i 87,.str s1 457]
def o229:Obj:=fo s29 s29 (topT 20) (.str s91 408) (r 228)
def o230:Obj:=tu #[] 0
def o231:Obj:=⟨.none,none,.fields #[],#[]⟩
def o232:Obj:=tu #[.str s96 462,.str s97 463,.str s73 464,.str s87 465] 0
def o233:Obj:=tu #[] 0
def o234:Obj:=f0 s30 s30 (topT 21)
def o235:Obj:=co #[.str s30 459,.str s30 460,.str s1 461,i 92,i 1,i 0,i 0,i 3,r 230,.bool true,i 181,r 231,.none,r 232,r 233,r 234,i 466,i 92,.str s1 467]
def o236:Obj:=fo s30 s30 (topT 21) (.str s91 408) (r 235)
def o237:Obj:=tu #[] 0
def o238:Obj:=⟨.none,none,.fields #[],#[]⟩
def o239:Obj:=f0 s31 s31 (topT 22)
def o240:Obj:=co #[.str s31 469,.str s31 470,.str s1 471,i 100,i 2,i 0,i 0,i 3,r 237,.bool true,i 181,r 238,.none,.none,.none,r 239,i 472,i 100,.str s1 473]
def o241:Obj:=fo s31 s31 (topT 22) (.str s91 408) (r 240)
def o242:Obj:=tu #[] 0
def o243:Obj:=⟨.none,none,.fields #[],#[]⟩
def o244:Obj:=f0 s32 s32 (topT 23)
def o245:Obj:=co #[.str s32 475,.str s32 476,.str s1 477,i 107,i 1,i 0,i 0,i 3,r 242,.bool true,i 181,r 243,.none,.none,.none,r 244,i 478,i 107,.str s1 479]
def o246:Obj:=fo s32 s32 (topT 23) (.str s91 408) (r 245)
def o247:Obj:=tu #[] 0
def o248:Obj:=⟨.none,none,.fields #[],#[]⟩
def o249:Obj:=tu #[.str s98 486,.str s99 487,.str s100 488] 0
def o250:Obj:=tu #[] 0
def o251:Obj:=f0 s33 s33 (topT 25)
def o252:Obj:=co #[.str s33 483,.str s33 484,.str s1 485,i 116,i 1,i 0,i 0,i 3,r 247,.bool true,i 181,r 248,.none,r 249,r 250,r 251,i 489,i 116,.str s1 490]
def o253:Obj:=fo s33 s33 (topT 25) (.str s4 481) (r 252)
def o254:Obj:=tu #[] 0
def o255:Obj:=⟨.none,none,.fields #[],#[]⟩
def o256:Obj:=tu #[.str s101 495,.str s102 496,.str s103 497] 0
def o257:Obj:=tu #[] 0
def o258:Obj:=f0 s34 s34 (topT 26)
def o259:Obj:=co #[.str s34 492,.str s34 493,.str s1 494,i 123,i 2,i 0,i 0,i 3,r 254,.bool true,i 181,r 255,.none,r 256,r 257,r 258,i 498,i 123,.str s1 499]
def o260:Obj:=fo s34 s34 (topT 26) (.str s4 481) (r 259)
def o261:Obj:=tu #[] 0
def o262:Obj:=⟨.none,none,.fields #[],#[]⟩
def o263:Obj:=tu #[.str s101 504,.str s104 505,.str s105 506] 0
def o264:Obj:=tu #[] 0
def o265:Obj:=f0 s35 s35 (topT 27)
def o266:Obj:=co #[.str s35 501,.str s35 502,.str s1 503,i 132,i 3,i 0,i 0,i 3,r 261,.bool true,i 181,r 262,.none,r 263,r 264,r 265,i 507,i 132,.str s1 508]
def o267:Obj:=fo s35 s35 (topT 27) (.str s4 481) (r 266)
def o268:Obj:=tu #[] 0
def o269:Obj:=⟨.none,none,.fields #[],#[]⟩
def o270:Obj:=tu #[.str s101 513,.str s106 514,.str s107 515,.str s108 516,.str s109 517] 0
def o271:Obj:=tu #[] 0
def o272:Obj:=f0 s36 s36 (topT 28)
def o273:Obj:=co #[.str s36 510,.str s36 511,.str s1 512,i 136,i 1,i 0,i 0,i 3,r 268,.bool true,i 181,r 269,.none,r 270,r 271,r 272,i 518,i 136,.str s1 519]
def o274:Obj:=fo s36 s36 (topT 28) (.str s4 481) (r 273)
def o275:Obj:=tu #[] 0
def o276:Obj:=⟨.none,none,.fields #[],#[]⟩
def o277:Obj:=f0 s37 s37 (topT 29)
def o278:Obj:=co #[.str s37 521,.str s37 522,.str s1 523,i 144,i 3,i 0,i 0,i 3,r 275,.bool true,i 181,r 276,.none,.none,.none,r 277,i 524,i 144,.str s1 525]
def o279:Obj:=fo s37 s37 (topT 29) (.str s4 481) (r 278)
def o280:Obj:=tu #[] 0
def o281:Obj:=⟨.none,none,.fields #[],#[]⟩
def o282:Obj:=f0 s38 s38 (topT 30)
def o283:Obj:=co #[.str s38 527,.str s38 528,.str s1 529,i 146,i 4,i 0,i 0,i 3,r 280,.bool true,i 181,r 281,.none,.none,.none,r 282,i 530,i 146,.str s1 531]
def o284:Obj:=fo s38 s38 (topT 30) (.str s4 481) (r 283)
def o285:Obj:=tu #[] 0
def o286:Obj:=⟨.none,none,.fields #[],#[]⟩
def o287:Obj:=f0 s39 s39 (topT 31)
def o288:Obj:=co #[.str s39 533,.str s39 534,.str s1 535,i 152,i 1,i 0,i 0,i 3,r 285,.bool true,i 181,r 286,.none,.none,.none,r 287,i 536,i 152,.str s1 537]
def o289:Obj:=fo s39 s39 (topT 31) (.str s4 481) (r 288)
def o290:Obj:=tu #[] 0
def o291:Obj:=⟨.none,none,.fields #[],#[]⟩
def o292:Obj:=f0 s40 s40 (topT 32)
def o293:Obj:=co #[.str s40 539,.str s40 540,.str s1 541,i 154,i 3,i 0,i 0,i 3,r 290,.bool true,i 181,r 291,.none,.none,.none,r 292,i 542,i 154,.str s1 543]
def o294:Obj:=fo s40 s40 (topT 32) (.str s4 481) (r 293)
def o295:Obj:=tu #[] 0
def o296:Obj:=⟨.none,none,.fields #[],#[]⟩
def o297:Obj:=f0 s41 s41 (topT 33)
def o298:Obj:=co #[.str s41 545,.str s41 546,.str s1 547,i 157,i 2,i 0,i 0,i 3,r 295,.bool true,i 181,r 296,.none,.none,.none,r 297,i 548,i 157,.str s1 549]
def o299:Obj:=fo s41 s41 (topT 33) (.str s4 481) (r 298)
def o300:Obj:=tu #[] 0
def o301:Obj:=⟨.none,none,.fields #[],#[]⟩
def o302:Obj:=tu #[.str s110 554,.str s105 555,.str s106 556,.str s111 557,.str s108 558,.str s112 559] 0
def o303:Obj:=tu #[] 0
def o304:Obj:=f0 s42 s42 (topT 34)
def o305:Obj:=co #[.str s42 551,.str s42 552,.str s1 553,i 159,i 2,i 0,i 0,i 3,r 300,.bool true,i 181,r 301,.none,r 302,r 303,r 304,i 560,i 159,.str s1 561]
def o306:Obj:=fo s42 s42 (topT 34) (.str s4 481) (r 305)
def o307:Obj:=tu #[] 0
def o308:Obj:=⟨.none,none,.fields #[],#[]⟩
def o309:Obj:=f0 s43 s43 (topT 35)
def o310:Obj:=co #[.str s43 563,.str s43 564,.str s1 565,i 169,i 2,i 0,i 0,i 3,r 307,.bool true,i 181,r 308,.none,.none,.none,r 309,i 566,i 169,.str s1 567]
def o311:Obj:=fo s43 s43 (topT 35) (.str s4 481) (r 310)
def o312:Obj:=tu #[] 0
def o313:Obj:=⟨.none,none,.fields #[],#[]⟩
def o314:Obj:=f0 s44 s44 (topT 36)
def o315:Obj:=co #[.str s44 569,.str s44 570,.str s1 571,i 175,i 2,i 0,i 0,i 3,r 312,.bool true,i 181,r 313,.none,.none,.none,r 314,i 572,i 175,.str s1 573]
def o316:Obj:=fo s44 s44 (topT 36) (.str s4 481) (r 315)
def o317:Obj:=tu #[] 0
def o318:Obj:=⟨.none,none,.fields #[],#[]⟩
def o319:Obj:=tu #[.str s113 578,.str s114 579,.str s108 580,.str s115 581] 0
def o320:Obj:=tu #[] 0
def o321:Obj:=f0 s45 s45 (topT 37)
def o322:Obj:=co #[.str s45 575,.str s45 576,.str s1 577,i 192,i 1,i 0,i 0,i 3,r 317,.bool true,i 181,r 318,.none,r 319,r 320,r 321,i 582,i 192,.str s1 583]
def o323:Obj:=fo s45 s45 (topT 37) (.str s4 481) (r 322)
def o324:Obj:=tu #[] 0
def o325:Obj:=⟨.none,none,.fields #[],#[]⟩
def o326:Obj:=f0 s46 s46 (topT 38)
def o327:Obj:=co #[.str s46 585,.str s46 586,.str s1 587,i 201,i 3,i 0,i 0,i 3,r 324,.bool true,i 181,r 325,.none,.none,.none,r 326,i 588,i 201,.str s1 589]
def o328:Obj:=fo s46 s46 (topT 38) (.str s4 481) (r 327)
def o329:Obj:=tu #[] 0
def o330:Obj:=⟨.none,none,.fields #[],#[]⟩
def o331:Obj:=f0 s47 s47 (topT 39)
def o332:Obj:=co #[.str s47 591,.str s47 592,.str s1 593,i 211,i 2,i 0,i 0,i 3,r 329,.bool true,i 181,r 330,.none,.none,.none,r 331,i 594,i 211,.str s1 595]
def o333:Obj:=fo s47 s47 (topT 39) (.str s4 481) (r 332)
def o334:Obj:=tu #[] 0
def o335:Obj:=⟨.none,none,.fields #[],#[]⟩
def o336:Obj:=f0 s48 s48 (topT 40)
def o337:Obj:=co #[.str s48 597,.str s48 598,.str s1 599,i 223,i 2,i 0,i 0,i 3,r 334,.bool true,i 181,r 335,.none,.none,.none,r 336,i 600,i 223,.str s1 601]
def o338:Obj:=fo s48 s48 (topT 40) (.str s4 481) (r 337)
def o339:Obj:=tu #[] 0
def o340:Obj:=⟨.none,none,.fields #[],#[]⟩
def o341:Obj:=tu #[.str s110 606,.str s106 607,.str s107 608,.str s113 609,.str s116 610,.str s111 611,.str s108 612,.str s117 613,.str s115 614] 0
def o342:Obj:=tu #[] 0
def o343:Obj:=f0 s49 s49 (topT 41)
def o344:Obj:=co #[.str s49 603,.str s49 604,.str s1 605,i 229,i 4,i 0,i 0,i 3,r 339,.bool true,i 181,r 340,.none,r 341,r 342,r 343,i 615,i 229,.str s1 616]
def o345:Obj:=fo s49 s49 (topT 41) (.str s4 481) (r 344)
def o346:Obj:=tu #[] 0
def o347:Obj:=⟨.none,none,.fields #[],#[]⟩
def o348:Obj:=tu #[.str s110 621,.str s118 622,.str s107 623,.str s119 624,.str s106 625,.str s113 626] 0
def o349:Obj:=tu #[] 0
def o350:Obj:=f0 s50 s50 (topT 42)
def o351:Obj:=co #[.str s50 618,.str s50 619,.str s1 620,i 243,i 1,i 0,i 0,i 3,r 346,.bool true,i 181,r 347,.none,r 348,r 349,r 350,i 627,i 243,.str s1 628]
def o352:Obj:=fo s50 s50 (topT 42) (.str s4 481) (r 351)
def o353:Obj:=tu #[] 0
def o354:Obj:=⟨.none,none,.fields #[],#[]⟩
def o355:Obj:=tu #[.str s98 633,.str s101 634,.str s120 635,.str s110 636,.str s121 637,.str s107 638,.str s122 639,.str s115 640] 0
def o356:Obj:=tu #[] 0
def o357:Obj:=f0 s51 s51 (topT 43)
def o358:Obj:=co #[.str s51 630,.str s51 631,.str s1 632,i 259,i 1,i 0,i 0,i 3,r 353,.bool true,i 181,r 354,.none,r 355,r 356,r 357,i 641,i 259,.str s1 642]
def o359:Obj:=fo s51 s51 (topT 43) (.str s4 481) (r 358)
def envT:Env:={ scope:=Fast.tw9344343857138323208.main.scope,locals:=mainNs,globals:=mainNs,cells:=[],code:=(r 13),frame:=some 14 }
def cT:Code:=.body (behindTheImports Fast.tw9344343857138323208) envT
def qP:Pos:=⟨0,0,0,0⟩
def Ha(P:Params):Heap:=⟨⟨[boot_o_0 P,boot_o_1 P,boot_o_2 P,boot_o_3 P,boot_o_4 P,boot_o_5 P,boot_o_6 P,boot_o_7 P,boot_o_8 P,boot_o_9 P,boot_o_10 P,o11a,o12a,o13a,o14a]⟩,PySem.Life.mk [] [] [] 0 [] [] false #[] [] 0 false false false 0 [2000,10,10] false 0 true [] [] 0 false⟩
def Sa(w:World)(os:OsState):Shared:=⟨Ha w.params,⟨[]⟩,PySem.Drawn.mk 0 0 0 0,187,os⟩
def Tb(P:Params):BT:=(nd (boot_o_0 P) (nd (boot_o_1 P) (nd (boot_o_3 P) (lf (boot_o_7 P)) (lf o11a)) (nd (boot_o_5 P) (lf (boot_o_9 P)) (lf o13a))) (nd (boot_o_2 P) (nd (boot_o_4 P) (lf (boot_o_8 P)) (lf o12a)) (nd (boot_o_6 P) (lf (boot_o_10 P)) (lf o14a))))
def Sb(w:World)(os:OsState):SharedT:=⟨Tb w.params,15,PySem.Life.mk [] [] [] 0 [] [] false #[] [] 0 false false false 0 [2000,10,10] false 0 true [] [] 0 false,⟨[]⟩,PySem.Drawn.mk 0 0 0 0,187,os⟩
def T0(P:Params):BT:=(nd (boot_o_0 P) (nd (boot_o_1 P) (nd (o3 P) (nd (boot_o_7 P) (nd o15 (nd o31 (nd o63 (nd (o127 P) (lf o255) nl) (nd o191 (lf o319) nl)) (nd o95 (nd o159 (lf o287) nl) (nd o223 (lf o351) nl))) (nd o47 (nd (o79 P) (nd o143 (lf o271) nl) (nd o207 (lf o335) nl)) (nd o111 (nd o175 (lf o303) nl) (lf o239)))) (nd o23 (nd o39 (nd o71 (nd o135 (lf o263) nl) (nd o199 (lf o327) nl)) (nd o103 (nd o167 (lf o295) nl) (nd o231 (lf o359) nl))) (nd (o55 P) (nd (o87 P) (nd o151 (lf o279) nl) (nd o215 (lf o343) nl)) (nd o119 (nd o183 (lf o311) nl) (lf o247))))) (nd o11a (nd o19 (nd o35 (nd o67 (nd o131 (lf o259) nl) (nd o195 (lf o323) nl)) (nd o99 (nd o163 (lf o291) nl) (nd o227 (lf o355) nl))) (nd o51 (nd o83 (nd o147 (lf o275) nl) (nd o211 (lf o339) nl)) (nd o115 (nd o179 (lf o307) nl) (lf o243)))) (nd o27 (nd (o43 P) (nd o75 (nd o139 (lf o267) nl) (nd o203 (lf o331) nl)) (nd o107 (nd o171 (lf o299) nl) (lf o235))) (nd o59 (nd o91 (nd o155 (lf o283) nl) (nd o219 (lf o347) nl)) (nd o123 (nd o187 (lf o315) nl) (lf o251)))))) (nd (boot_o_5 P) (nd (boot_o_9 P) (nd o17 (nd o33 (nd o65 (nd o129 (lf o257) nl) (nd o193 (lf o321) nl)) (nd o97 (nd o161 (lf o289) nl) (nd o225 (lf o353) nl))) (nd (o49 P) (nd o81 (nd o145 (lf o273) nl) (nd o209 (lf o337) nl)) (nd o113 (nd o177 (lf o305) nl) (lf o241)))) (nd o25 (nd o41 (nd (o73 P) (nd o137 (lf o265) nl) (nd o201 (lf o329) nl)) (nd o105 (nd o169 (lf o297) nl) (lf o233))) (nd o57 (nd o89 (nd o153 (lf o281) nl) (nd o217 (lf o345) nl)) (nd (o121 P) (nd o185 (lf o313) nl) (lf o249))))) (nd o13a (nd o21 (nd (o37 P) (nd o69 (nd o133 (lf o261) nl) (nd o197 (lf o325) nl)) (nd o101 (nd o165 (lf o293) nl) (nd o229 (lf o357) nl))) (nd o53 (nd o85 (nd o149 (lf o277) nl) (nd o213 (lf o341) nl)) (nd o117 (nd o181 (lf o309) nl) (lf o245)))) (nd o29 (nd o45 (nd o77 (nd o141 (lf o269) nl) (nd o205 (lf o333) nl)) (nd o109 (nd o173 (lf o301) nl) (lf o237))) (nd o61 (nd o93 (nd o157 (lf o285) nl) (nd o221 (lf o349) nl)) (nd o125 (nd (o189 P) (lf o317) nl) (lf o253))))))) (nd (boot_o_2 P) (nd (boot_o_4 P) (nd (boot_o_8 P) (nd o16 (nd o32 (nd o64 (nd o128 (lf o256) nl) (nd o192 (lf o320) nl)) (nd o96 (nd o160 (lf o288) nl) (nd o224 (lf o352) nl))) (nd o48 (nd o80 (nd o144 (lf o272) nl) (nd o208 (lf o336) nl)) (nd o112 (nd o176 (lf o304) nl) (lf o240)))) (nd (o24 P) (nd o40 (nd o72 (nd o136 (lf o264) nl) (nd o200 (lf o328) nl)) (nd o104 (nd o168 (lf o296) nl) (lf o232))) (nd o56 (nd o88 (nd o152 (lf o280) nl) (nd o216 (lf o344) nl)) (nd o120 (nd o184 (lf o312) nl) (lf o248))))) (nd o12 (nd o20 (nd o36 (nd o68 (nd o132 (lf o260) nl) (nd o196 (lf o324) nl)) (nd o100 (nd o164 (lf o292) nl) (nd o228 (lf o356) nl))) (nd o52 (nd o84 (nd o148 (lf o276) nl) (nd o212 (lf o340) nl)) (nd o116 (nd o180 (lf o308) nl) (lf o244)))) (nd o28 (nd o44 (nd o76 (nd o140 (lf o268) nl) (nd o204 (lf o332) nl)) (nd o108 (nd o172 (lf o300) nl) (lf o236))) (nd o60 (nd o92 (nd o156 (lf o284) nl) (nd o220 (lf o348) nl)) (nd o124 (nd o188 (lf o316) nl) (lf o252)))))) (nd (boot_o_6 P) (nd (boot_o_10 P) (nd o18 (nd o34 (nd o66 (nd o130 (lf o258) nl) (nd o194 (lf o322) nl)) (nd o98 (nd o162 (lf o290) nl) (nd o226 (lf o354) nl))) (nd o50 (nd o82 (nd o146 (lf o274) nl) (nd o210 (lf o338) nl)) (nd o114 (nd o178 (lf o306) nl) (lf o242)))) (nd o26 (nd o42 (nd o74 (nd o138 (lf o266) nl) (nd o202 (lf o330) nl)) (nd o106 (nd o170 (lf o298) nl) (lf o234))) (nd o58 (nd o90 (nd o154 (lf o282) nl) (nd o218 (lf o346) nl)) (nd o122 (nd o186 (lf o314) nl) (lf o250))))) (nd o14a (nd o22 (nd o38 (nd o70 (nd o134 (lf o262) nl) (nd o198 (lf o326) nl)) (nd o102 (nd o166 (lf o294) nl) (nd o230 (lf o358) nl))) (nd o54 (nd o86 (nd o150 (lf o278) nl) (nd o214 (lf o342) nl)) (nd o118 (nd o182 (lf o310) nl) (lf o246)))) (nd (o30 P) (nd o46 (nd o78 (nd o142 (lf o270) nl) (nd o206 (lf o334) nl)) (nd o110 (nd o174 (lf o302) nl) (lf o238))) (nd o62 (nd o94 (nd o158 (lf o286) nl) (nd o222 (lf o350) nl)) (nd o126 (nd o190 (lf o318) nl) (lf o254))))))))
def S0(w:World)(os:OsState):SharedT:=⟨T0 w.params,360,PySem.Life.mk [] [] [] 0 [] [] false #[] [] 0 false false false 0 [2000,10,10] false 0 true [] [] 0 false,⟨[]⟩,PySem.Drawn.mk 0 0 0 0,644,os⟩
def Hf(P:Params):Heap:=⟨⟨[boot_o_0 P,boot_o_1 P,boot_o_2 P,o3 P,boot_o_4 P,boot_o_5 P,boot_o_6 P,boot_o_7 P,boot_o_8 P,boot_o_9 P,boot_o_10 P,o11a,o12,o13a,o14a,o15,o16,o17,o18,o19,o20,o21,o22,o23,o24 P,o25,o26,o27,o28,o29,o30 P,o31,o32,o33,o34,o35,o36,o37 P,o38,o39,o40,o41,o42,o43 P,o44,o45,o46,o47,o48,o49 P,o50,o51,o52,o53,o54,o55 P,o56,o57,o58,o59,o60,o61,o62,o63,o64,o65,o66,o67,o68,o69,o70,o71,o72,o73 P,o74,o75,o76,o77,o78,o79 P,o80,o81,o82,o83,o84,o85,o86,o87 P,o88,o89,o90,o91,o92,o93,o94,o95,o96,o97,o98,o99,o100,o101,o102,o103,o104,o105,o106,o107,o108,o109,o110,o111,o112,o113,o114,o115,o116,o117,o118,o119,o120,o121 P,o122,o123,o124,o125,o126,o127 P,o128,o129,o130,o131,o132,o133,o134,o135,o136,o137,o138,o139,o140,o141,o142,o143,o144,o145,o146,o147,o148,o149,o150,o151,o152,o153,o154,o155,o156,o157,o158,o159,o160,o161,o162,o163,o164,o165,o166,o167,o168,o169,o170,o171,o172,o173,o174,o175,o176,o177,o178,o179,o180,o181,o182,o183,o184,o185,o186,o187,o188,o189 P,o190,o191,o192,o193,o194,o195,o196,o197,o198,o199,o200,o201,o202,o203,o204,o205,o206,o207,o208,o209,o210,o211,o212,o213,o214,o215,o216,o217,o218,o219,o220,o221,o222,o223,o224,o225,o226,o227,o228,o229,o230,o231,o232,o233,o234,o235,o236,o237,o238,o239,o240,o241,o242,o243,o244,o245,o246,o247,o248,o249,o250,o251,o252,o253,o254,o255,o256,o257,o258,o259,o260,o261,o262,o263,o264,o265,o266,o267,o268,o269,o270,o271,o272,o273,o274,o275,o276,o277,o278,o279,o280,o281,o282,o283,o284,o285,o286,o287,o288,o289,o290,o291,o292,o293,o294,o295,o296,o297,o298,o299,o300,o301,o302,o303,o304,o305,o306,o307,o308,o309,o310,o311,o312,o313,o314,o315,o316,o317,o318,o319,o320,o321,o322,o323,o324,o325,o326,o327,o328,o329,o330,o331,o332,o333,o334,o335,o336,o337,o338,o339,o340,o341,o342,o343,o344,o345,o346,o347,o348,o349,o350,o351,o352,o353,o354,o355,o356,o357,o358,o359]⟩,PySem.Life.mk [] [] [] 0 [] [] false #[] [] 0 false false false 0 [2000,10,10] false 0 true [] [] 0 false⟩
def Sf(w:World)(os:OsState):Shared:=⟨Hf w.params,⟨[]⟩,PySem.Drawn.mk 0 0 0 0,644,os⟩
theorem pre_(w:World)(os:OsState):topGo treeTable Fast.tw9344343857138323208 w 11 ((some (r 6))) 12 ⟨boot_heap w.params,⟨[]⟩,boot_drawn,boot_toks,os⟩ (topStub Fast.tw9344343857138323208)=some (Sa w os,⟨denote treeTable cT,cT,⟨0,0,0,0⟩,[topFrame qP]⟩):=by(try rw[Fast.te15667345088766844465]);(try rw[Fast.te14082659384304107361]);(try rw[Fast.te14374325043358763698]);(try rw[Fast.te10110043849684766642]);(try rw[Fast.te14364793385576792824]);(try rw[Fast.te11892475500146522536]);(try rw[Fast.te4187177175401517315]);(try rw[Fast.te5923862056798008813]);(try rw[Fast.te8920871248978507458]);kernel_rfl
theorem block_(w:World)(os:OsState):segRun treeTable Fast.tw9344343857138323208 w 11 ((some (r 6))) 1 1 (Sa w os) (blockOf (behindTheImports Fast.tw9344343857138323208) envT cT ⟨0,0,0,0⟩ [topFrame qP])=some (.next,(Sb w os).abs,cT,⟨0,0,0,0⟩):=by(try rw[Fast.te15667345088766844465]);(try rw[Fast.te14082659384304107361]);(try rw[Fast.te14374325043358763698]);(try rw[Fast.te10110043849684766642]);(try rw[Fast.te14364793385576792824]);(try rw[Fast.te11892475500146522536]);(try rw[Fast.te4187177175401517315]);(try rw[Fast.te5923862056798008813]);(try rw[Fast.te8920871248978507458]);kernel_rfl
def sts0:List Stmt:=[topT 0,topT 1,topT 2,topT 3,topT 4,topT 5,topT 6,topT 7,topT 8,topT 9,topT 10,topT 11,topT 12,topT 13,topT 14,topT 15,topT 16,topT 17,topT 18,topT 19,topT 20,topT 21,topT 22,topT 23,topT 24,topT 25,topT 26,topT 27,topT 28,topT 29,topT 30,topT 31,topT 32,topT 33,topT 34,topT 35,topT 36,topT 37,topT 38,topT 39,topT 40,topT 41,topT 42,topT 43]
theorem pc0(w:World)(os:OsState):segRunT treeTable Fast.tw9344343857138323208 w 11 ((some (r 6))) 1 2592 (Sb w os) (piecesOf sts0 envT cT ⟨0,0,0,0⟩ [topFrame qP])=some (.next,S0 w os,cT,⟨259,0,265,116⟩):=by(try rw[Fast.te15667345088766844465]);(try rw[Fast.te14082659384304107361]);(try rw[Fast.te14374325043358763698]);(try rw[Fast.te10110043849684766642]);(try rw[Fast.te14364793385576792824]);(try rw[Fast.te11892475500146522536]);(try rw[Fast.te4187177175401517315]);(try rw[Fast.te5923862056798008813]);(try rw[Fast.te8920871248978507458]);kernel_rfl
theorem fin_(w:World)(os:OsState):topRun treeTable Fast.tw9344343857138323208 w 11 ((some (r 6))) 2 (S0 w os).abs ⟨doneF .next,cT,⟨259,0,265,116⟩,[topFrame qP]⟩=some (Sf w os):=by(try rw[Fast.te15667345088766844465]);(try rw[Fast.te14082659384304107361]);(try rw[Fast.te14374325043358763698]);(try rw[Fast.te10110043849684766642]);(try rw[Fast.te14364793385576792824]);(try rw[Fast.te11892475500146522536]);(try rw[Fast.te4187177175401517315]);(try rw[Fast.te5923862056798008813]);(try rw[Fast.te8920871248978507458]);kernel_rfl
theorem body_eq:behindTheImports Fast.tw9344343857138323208=(sts0++[]):=by kernel_rfl
theorem run_(w:World)(os:OsState):topRun treeTable Fast.tw9344343857138323208 w 11 ((some (r 6))) (12+(1+(2592+2))) ⟨boot_heap w.params,⟨[]⟩,boot_drawn,boot_toks,os⟩ (topStub Fast.tw9344343857138323208)=some (Sf w os):=by
  have h:=(piece_app (segRun_of (pc0 w os)) (piece_nil (fin_ w os)))
  rw[← body_eq]at h
  exact go_top (pre_ w os) (piece_block (block_ w os) h)
def K(P:Params):Frag:=(nat_lit 2,boot_o_2 P)::(nat_lit 3,o3 P)::(nat_lit 15,o15)::(nat_lit 17,o17)::(nat_lit 18,o18)::(nat_lit 20,o20)::(nat_lit 21,o21)::(nat_lit 22,o22)::(nat_lit 29,o29)::(nat_lit 30,o30 P)::(nat_lit 31,o31)::(nat_lit 32,o32)::(nat_lit 35,o35)::(nat_lit 42,o42)::(nat_lit 43,o43 P)::(nat_lit 44,o44)::(nat_lit 47,o47)::(nat_lit 54,o54)::(nat_lit 55,o55 P)::(nat_lit 56,o56)::(nat_lit 59,o59)::(nat_lit 62,o62)::(nat_lit 63,o63)::(nat_lit 64,o64)::(nat_lit 66,o66)::(nat_lit 67,o67)::(nat_lit 69,o69)::(nat_lit 70,o70)::(nat_lit 78,o78)::(nat_lit 79,o79 P)::(nat_lit 80,o80)::(nat_lit 81,o81)::(nat_lit 82,o82)::(nat_lit 85,o85)::(nat_lit 92,o92)::(nat_lit 94,o94)::(nat_lit 95,o95)::(nat_lit 97,o97)::(nat_lit 98,o98)::(nat_lit 99,o99)::(nat_lit 101,o101)::(nat_lit 102,o102)::(nat_lit 104,o104)::(nat_lit 105,o105)::(nat_lit 106,o106)::(nat_lit 108,o108)::(nat_lit 109,o109)::(nat_lit 111,o111)::(nat_lit 112,o112)::(nat_lit 113,o113)::(nat_lit 115,o115)::(nat_lit 116,o116)::(nat_lit 118,o118)::(nat_lit 119,o119)::(nat_lit 120,o120)::(nat_lit 121,o121 P)::(nat_lit 122,o122)::(nat_lit 125,o125)::(nat_lit 132,o132)::(nat_lit 134,o134)::(nat_lit 135,o135)::(nat_lit 137,o137)::(nat_lit 138,o138)::(nat_lit 139,o139)::(nat_lit 141,o141)::(nat_lit 142,o142)::(nat_lit 144,o144)::(nat_lit 145,o145)::(nat_lit 146,o146)::(nat_lit 148,o148)::(nat_lit 149,o149)::(nat_lit 151,o151)::(nat_lit 152,o152)::(nat_lit 153,o153)::(nat_lit 155,o155)::(nat_lit 156,o156)::(nat_lit 158,o158)::(nat_lit 159,o159)::(nat_lit 160,o160)::(nat_lit 162,o162)::(nat_lit 163,o163)::(nat_lit 165,o165)::(nat_lit 166,o166)::(nat_lit 167,o167)::(nat_lit 169,o169)::(nat_lit 170,o170)::(nat_lit 172,o172)::(nat_lit 173,o173)::(nat_lit 174,o174)::(nat_lit 176,o176)::(nat_lit 177,o177)::(nat_lit 179,o179)::(nat_lit 180,o180)::(nat_lit 181,o181)::(nat_lit 183,o183)::(nat_lit 184,o184)::(nat_lit 186,o186)::(nat_lit 187,o187)::(nat_lit 188,o188)::(nat_lit 189,o189 P)::(nat_lit 190,o190)::(nat_lit 193,o193)::(nat_lit 196,o196)::(nat_lit 197,o197)::(nat_lit 198,o198)::(nat_lit 201,o201)::(nat_lit 202,o202)::(nat_lit 203,o203)::(nat_lit 206,o206)::(nat_lit 207,o207)::(nat_lit 208,o208)::(nat_lit 210,o210)::(nat_lit 211,o211)::(nat_lit 213,o213)::(nat_lit 214,o214)::(nat_lit 215,o215)::(nat_lit 218,o218)::(nat_lit 219,o219)::(nat_lit 220,o220)::(nat_lit 223,o223)::(nat_lit 224,o224)::(nat_lit 225,o225)::(nat_lit 228,o228)::(nat_lit 229,o229)::(nat_lit 230,o230)::(nat_lit 232,o232)::(nat_lit 233,o233)::(nat_lit 235,o235)::(nat_lit 236,o236)::(nat_lit 237,o237)::(nat_lit 240,o240)::(nat_lit 241,o241)::(nat_lit 242,o242)::(nat_lit 245,o245)::(nat_lit 246,o246)::(nat_lit 247,o247)::(nat_lit 249,o249)::(nat_lit 250,o250)::(nat_lit 252,o252)::(nat_lit 253,o253)::(nat_lit 254,o254)::(nat_lit 256,o256)::(nat_lit 257,o257)::(nat_lit 259,o259)::(nat_lit 260,o260)::(nat_lit 261,o261)::(nat_lit 263,o263)::(nat_lit 264,o264)::(nat_lit 266,o266)::(nat_lit 267,o267)::(nat_lit 268,o268)::(nat_lit 270,o270)::(nat_lit 271,o271)::(nat_lit 273,o273)::(nat_lit 274,o274)::(nat_lit 275,o275)::(nat_lit 278,o278)::(nat_lit 279,o279)::(nat_lit 280,o280)::(nat_lit 283,o283)::(nat_lit 284,o284)::(nat_lit 285,o285)::(nat_lit 288,o288)::(nat_lit 289,o289)::(nat_lit 290,o290)::(nat_lit 293,o293)::(nat_lit 294,o294)::(nat_lit 295,o295)::(nat_lit 298,o298)::(nat_lit 299,o299)::(nat_lit 300,o300)::(nat_lit 302,o302)::(nat_lit 303,o303)::(nat_lit 305,o305)::(nat_lit 306,o306)::(nat_lit 307,o307)::(nat_lit 310,o310)::(nat_lit 311,o311)::(nat_lit 312,o312)::(nat_lit 315,o315)::(nat_lit 316,o316)::(nat_lit 317,o317)::(nat_lit 319,o319)::(nat_lit 320,o320)::(nat_lit 322,o322)::(nat_lit 323,o323)::(nat_lit 324,o324)::(nat_lit 327,o327)::(nat_lit 328,o328)::(nat_lit 329,o329)::(nat_lit 332,o332)::(nat_lit 333,o333)::(nat_lit 334,o334)::(nat_lit 337,o337)::(nat_lit 338,o338)::(nat_lit 339,o339)::(nat_lit 341,o341)::(nat_lit 342,o342)::(nat_lit 344,o344)::(nat_lit 345,o345)::(nat_lit 346,o346)::(nat_lit 348,o348)::(nat_lit 349,o349)::(nat_lit 351,o351)::(nat_lit 352,o352)::(nat_lit 353,o353)::(nat_lit 355,o355)::(nat_lit 356,o356)::(nat_lit 358,o358)::(nat_lit 359,o359)::[]
def KA:List Addr:=[2,3,15,17,18,20,21,22,29,30,31,32,35,42,43,44,47,54,55,56,59,62,63,64,66,67,69,70,78,79,80,81,82,85,92,94,95,97,98,99,101,102,104,105,106,108,109,111,112,113,115,116,118,119,120,121,122,125,132,134,135,137,138,139,141,142,144,145,146,148,149,151,152,153,155,156,158,159,160,162,163,165,166,167,169,170,172,173,174,176,177,179,180,181,183,184,186,187,188,189,190,193,196,197,198,201,202,203,206,207,208,210,211,213,214,215,218,219,220,223,224,225,228,229,230,232,233,235,236,237,240,241,242,245,246,247,249,250,252,253,254,256,257,259,260,261,263,264,266,267,268,270,271,273,274,275,278,279,280,283,284,285,288,289,290,293,294,295,298,299,300,302,303,305,306,307,310,311,312,315,316,317,319,320,322,323,324,327,328,329,332,333,334,337,338,339,341,342,344,345,346,348,349,351,352,353,355,356,358,359]
theorem KA_eq(P:Params):KA=(K P).map (·.1):=by kernel_rfl
def topO(i:Nat):Stmt:=PySem.Challenge.pw_weighwalk_k63_whole_least_sure.main.body.getD i (.Pass ⟨0,0,0,0⟩)
theorem top_eq:topT=topO:=by unfold topT topO;rw[Fast.te9344343857138323208]
def qT:Program:={ Fast.tw9344343857138323208 with main:={ Fast.tw9344343857138323208.main with body:=[topT 0,topT 2,topT 3,topT 4,topT 6,topT 8,topT 9,topT 10,topT 11,topT 13,topT 14,topT 15,topT 16,topT 17,topT 18,topT 19,topT 20,topT 21,topT 22,topT 23,topT 25,topT 26,topT 27,topT 28,topT 29,topT 30,topT 31,topT 32,topT 33,topT 34,topT 35,topT 36,topT 37,topT 38,topT 39,topT 40,topT 41,topT 42,topT 43] } }
def qO:Program:={ PySem.Challenge.pw_weighwalk_k63_whole_least_sure with main:={ PySem.Challenge.pw_weighwalk_k63_whole_least_sure.main with body:=[topO 0,topO 2,topO 3,topO 4,topO 6,topO 8,topO 9,topO 10,topO 11,topO 13,topO 14,topO 15,topO 16,topO 17,topO 18,topO 19,topO 20,topO 21,topO 22,topO 23,topO 25,topO 26,topO 27,topO 28,topO 29,topO 30,topO 31,topO 32,topO 33,topO 34,topO 35,topO 36,topO 37,topO 38,topO 39,topO 40,topO 41,topO 42,topO 43] } }
theorem q_eq:qO=qT:=by unfold qO qT;rw[top_eq,Fast.te9344343857138323208]
def recs:=RowW.records (OpenRow.toRowW (OpenLaw.row PySem.Challenge.rw_weighwalk_k63_whole_least_sure))
abbrev Xt(q:Program)(s:Shared):Bool:=xlAt q [] s && recOk recs s
abbrev hook:Hook:=kHook K KA KA_eq
theorem size_(w:World):((boot_heap w.params).isNs mainGlobals && (⟨[]⟩:Array GenState).size == 0,(boot_heap w.params).objs.size,(boot_heap w.params).nsMap mainGlobals "__annotations__")=(true,11,(some (r 6))):=by(try rw[Fast.te15667345088766844465]);(try rw[Fast.te14082659384304107361]);(try rw[Fast.te14374325043358763698]);(try rw[Fast.te10110043849684766642]);(try rw[Fast.te14364793385576792824]);(try rw[Fast.te11892475500146522536]);(try rw[Fast.te4187177175401517315]);(try rw[Fast.te5923862056798008813]);(try rw[Fast.te8920871248978507458]);kernel_rfl
theorem open_:∀w:World,(fencedOpening treeTable Fast.tw9344343857138323208 w 5308).map (fun s=>(s.heap,s.gens,s.drawn,s.toks))=some (boot_heap w.params,⟨[]⟩,boot_drawn,boot_toks):=boot_open (by kernel_rfl) (by decide) (fun s=>by(try rw[Fast.te15667345088766844465]);(try rw[Fast.te14082659384304107361]);(try rw[Fast.te14374325043358763698]);(try rw[Fast.te10110043849684766642]);(try rw[Fast.te14364793385576792824]);(try rw[Fast.te11892475500146522536]);(try rw[Fast.te4187177175401517315]);(try rw[Fast.te5923862056798008813]);(try rw[Fast.te8920871248978507458]);kernel_rfl)
theorem look1(w:World)(os:OsState):(staticsOk (importedModules Fast.tw9344343857138323208.main.body) (boot_heap w.params) (Hf w.params) && namesBound Fast.tw9344343857138323208 (Hf w.params) && gensDone (Sf w os) && laidKept (boot_heap w.params) (Hf w.params))=true:=by(try rw[Fast.te15667345088766844465]);(try rw[Fast.te14082659384304107361]);(try rw[Fast.te14374325043358763698]);(try rw[Fast.te10110043849684766642]);(try rw[Fast.te14364793385576792824]);(try rw[Fast.te11892475500146522536]);(try rw[Fast.te4187177175401517315]);(try rw[Fast.te5923862056798008813]);(try rw[Fast.te8920871248978507458]);kernel_rfl
theorem look2(w:World)(os:OsState):openSeen qT [] (importedModules Fast.tw9344343857138323208.main.body) (Xt qT) true (Sf w os)=openGood qT []:=by(try rw[Fast.te15667345088766844465]);(try rw[Fast.te14082659384304107361]);(try rw[Fast.te14374325043358763698]);(try rw[Fast.te10110043849684766642]);(try rw[Fast.te14364793385576792824]);(try rw[Fast.te11892475500146522536]);(try rw[Fast.te4187177175401517315]);(try rw[Fast.te5923862056798008813]);(try rw[Fast.te8920871248978507458]);kernel_rfl
theorem look3(w:World)(os:OsState):hook.obs (Sf w os)=hook.val w:=by kernel_rfl
theorem leftT:LeftO Fast.tw9344343857138323208 qT [] (Xt qT) hook.obs hook.val 5308:=LeftO.of_pieces (H₁:=Hf) open_ size_ run_ (by decide) (fun w=>funext fun os=>looks_pair (look1 w os) (looks_pair (look2 w os) (look3 w os)))
theorem left:LeftO PySem.Challenge.pw_weighwalk_k63_whole_least_sure qO [] (Xt qO) hook.obs hook.val 5308:=by have h:=leftT;rw[← q_eq,← Fast.te9344343857138323208]at h;exact h
def dO:DefRec:=⟨PySem.Str.ofString "law",L2.defArgs (topO 43),L2.defBody (topO 43),L2.defScope (topO 43),⟨259,0,265,116⟩⟩
theorem holds_(said:(OpenLaw.row PySem.Challenge.rw_weighwalk_k63_whole_least_sure).wellSaid=true)(hw:(OpenLaw.row PySem.Challenge.rw_weighwalk_k63_whole_least_sure).toRowW.promised)(hc:WalkO qO [] (XL qO []) (Hook.says hook) (OpenLaw.row PySem.Challenge.rw_weighwalk_k63_whole_least_sure).toRowW dO [] (fun f vs=>PySem.call f vs)):(OpenLaw.row PySem.Challenge.rw_weighwalk_k63_whole_least_sure).Holds:=
  holds_open (r:=(OpenLaw.row PySem.Challenge.rw_weighwalk_k63_whole_least_sure)) (q:=qO) (loose:=[]) (Xt:=Xt qO) (XP:=XL qO []) (Yf:=hook.obs) (Ya:=hook.val) (YP:=hook.says) (d:=dO) (kwd:=[]) (N:=5308) left hook.of hook.keeps (fun s e=>xl_of s (Bool.and_eq_true_iff.mp e).1) XL.keeps (by kernel_rfl) (by kernel_rfl) (by kernel_rfl) (fun s e=>recFacts_of (Bool.and_eq_true_iff.mp e).2) (by kernel_rfl) said (by decide +kernel) ⟨rfl,rfl,rfl,rfl,rfl,by decide +kernel⟩ hw hc
abbrev fO(n q:String)(s:Stmt)(m c:Value):Obj:=⟨.type SL.s7174869446012820540x8,none,.func (fnOf (PySem.Str.ofString n) (PySem.Str.ofString q) (L2.defArgs s) (L2.defBody s) (L2.defScope s) .none .none .none m none c .none),#[]⟩
theorem lk_unit(P:Params):(K P).lookup 63=some (fO "unit" "unit" (topO 6) (.str s59 246) (r 62)):=by rw[← top_eq];kernel_rfl
theorem lk_Truths_nought(P:Params):(K P).lookup 145=some (fO "nought" "Truths.nought" (L2.inClass (topO 11) 1) (.str s61 254) (r 144)):=by rw[← top_eq];kernel_rfl
theorem lk_Truths_one(P:Params):(K P).lookup 152=some (fO "one" "Truths.one" (L2.inClass (topO 11) 2) (.str s61 254) (r 151)):=by rw[← top_eq];kernel_rfl
theorem lk_first_set(P:Params):(K P).lookup 197=some (fO "first_set" "first_set" (topO 14) (.str s91 408) (r 196)):=by rw[← top_eq];kernel_rfl
theorem lk_next_set(P:Params):(K P).lookup 202=some (fO "next_set" "next_set" (topO 15) (.str s91 408) (r 201)):=by rw[← top_eq];kernel_rfl
theorem lk_ends_within(P:Params):(K P).lookup 207=some (fO "ends_within" "ends_within" (topO 16) (.str s91 408) (r 206)):=by rw[← top_eq];kernel_rfl
theorem lk_sets_of(P:Params):(K P).lookup 214=some (fO "sets_of" "sets_of" (topO 17) (.str s91 408) (r 213)):=by rw[← top_eq];kernel_rfl
theorem lk_steps_of(P:Params):(K P).lookup 219=some (fO "steps_of" "steps_of" (topO 18) (.str s91 408) (r 218)):=by rw[← top_eq];kernel_rfl
theorem lk_ends_of(P:Params):(K P).lookup 224=some (fO "ends_of" "ends_of" (topO 19) (.str s91 408) (r 223)):=by rw[← top_eq];kernel_rfl
theorem lk_sure_machine(P:Params):(K P).lookup 229=some (fO "sure_machine" "sure_machine" (topO 20) (.str s91 408) (r 228)):=by rw[← top_eq];kernel_rfl
theorem lk_numbered(P:Params):(K P).lookup 236=some (fO "numbered" "numbered" (topO 21) (.str s91 408) (r 235)):=by rw[← top_eq];kernel_rfl
theorem lk_sorts_of(P:Params):(K P).lookup 241=some (fO "sorts_of" "sorts_of" (topO 22) (.str s91 408) (r 240)):=by rw[← top_eq];kernel_rfl
theorem lk_least_sure(P:Params):(K P).lookup 246=some (fO "least_sure" "least_sure" (topO 23) (.str s91 408) (r 245)):=by rw[← top_eq];kernel_rfl
theorem lk__law_state(P:Params):(K P).lookup 253=some (fO "_law_state" "_law_state" (topO 25) (.str s4 481) (r 252)):=by rw[← top_eq];kernel_rfl
theorem lk__law_next(P:Params):(K P).lookup 260=some (fO "_law_next" "_law_next" (topO 26) (.str s4 481) (r 259)):=by rw[← top_eq];kernel_rfl
theorem lk__law_rooms(P:Params):(K P).lookup 267=some (fO "_law_rooms" "_law_rooms" (topO 27) (.str s4 481) (r 266)):=by rw[← top_eq];kernel_rfl
theorem lk__law_letters(P:Params):(K P).lookup 274=some (fO "_law_letters" "_law_letters" (topO 28) (.str s4 481) (r 273)):=by rw[← top_eq];kernel_rfl
theorem lk__law_truths(P:Params):(K P).lookup 279=some (fO "_law_truths" "_law_truths" (topO 29) (.str s4 481) (r 278)):=by rw[← top_eq];kernel_rfl
theorem lk__law_machine(P:Params):(K P).lookup 284=some (fO "_law_machine" "_law_machine" (topO 30) (.str s4 481) (r 283)):=by rw[← top_eq];kernel_rfl
theorem lk__law_first(P:Params):(K P).lookup 289=some (fO "_law_first" "_law_first" (topO 31) (.str s4 481) (r 288)):=by rw[← top_eq];kernel_rfl
theorem lk__law_after(P:Params):(K P).lookup 294=some (fO "_law_after" "_law_after" (topO 32) (.str s4 481) (r 293)):=by rw[← top_eq];kernel_rfl
theorem lk__law_good(P:Params):(K P).lookup 299=some (fO "_law_good" "_law_good" (topO 33) (.str s4 481) (r 298)):=by rw[← top_eq];kernel_rfl
theorem lk__law_all_sets(P:Params):(K P).lookup 306=some (fO "_law_all_sets" "_law_all_sets" (topO 34) (.str s4 481) (r 305)):=by rw[← top_eq];kernel_rfl
theorem lk__law_row(P:Params):(K P).lookup 311=some (fO "_law_row" "_law_row" (topO 35) (.str s4 481) (r 310)):=by rw[← top_eq];kernel_rfl
theorem lk__law_steps(P:Params):(K P).lookup 316=some (fO "_law_steps" "_law_steps" (topO 36) (.str s4 481) (r 315)):=by rw[← top_eq];kernel_rfl
theorem lk__law_in_order(P:Params):(K P).lookup 323=some (fO "_law_in_order" "_law_in_order" (topO 37) (.str s4 481) (r 322)):=by rw[← top_eq];kernel_rfl
theorem lk__law_spread(P:Params):(K P).lookup 328=some (fO "_law_spread" "_law_spread" (topO 38) (.str s4 481) (r 327)):=by rw[← top_eq];kernel_rfl
theorem lk__law_doubled(P:Params):(K P).lookup 333=some (fO "_law_doubled" "_law_doubled" (topO 39) (.str s4 481) (r 332)):=by rw[← top_eq];kernel_rfl
theorem lk__law_all_parted(P:Params):(K P).lookup 338=some (fO "_law_all_parted" "_law_all_parted" (topO 40) (.str s4 481) (r 337)):=by rw[← top_eq];kernel_rfl
theorem lk__law_beside(P:Params):(K P).lookup 345=some (fO "_law_beside" "_law_beside" (topO 41) (.str s4 481) (r 344)):=by rw[← top_eq];kernel_rfl
theorem lk__law_told(P:Params):(K P).lookup 352=some (fO "_law_told" "_law_told" (topO 42) (.str s4 481) (r 351)):=by rw[← top_eq];kernel_rfl
theorem lk_law(P:Params):(K P).lookup 359=some (fO "law" "law" (topO 43) (.str s4 481) (r 358)):=by rw[← top_eq];kernel_rfl
end
end H63
set_option maxHeartbeats 4000000
namespace K63
open PySem L2 Mine PyProof.Rows PySem.SeqAt
abbrev Pr:Program:=PySem.Challenge.pw_weighwalk_k63_whole_least_sure
def top(i:Nat):Stmt:=PySem.Challenge.pw_weighwalk_k63_whole_least_sure.main.body.getD i (.Pass ⟨0,0,0,0⟩)
abbrev s_Truths_nought:Stmt:=inClass (top 11) 1
abbrev s_Truths_one:Stmt:=inClass (top 11) 2
abbrev s_unit:Stmt:=top 6
abbrev s_first_set:Stmt:=top 14
abbrev s_next_set:Stmt:=top 15
abbrev s_ends_within:Stmt:=top 16
abbrev s_sets_of:Stmt:=top 17
abbrev s_steps_of:Stmt:=top 18
abbrev s_ends_of:Stmt:=top 19
abbrev s_sure_machine:Stmt:=top 20
abbrev s_numbered:Stmt:=top 21
abbrev s_sorts_of:Stmt:=top 22
abbrev s_least_sure:Stmt:=top 23
abbrev s_law_state:Stmt:=top 25
abbrev s_law_next:Stmt:=top 26
abbrev s_law_rooms:Stmt:=top 27
abbrev s_law_letters:Stmt:=top 28
abbrev s_law_truths:Stmt:=top 29
abbrev s_law_machine:Stmt:=top 30
abbrev s_law_first:Stmt:=top 31
abbrev s_law_after:Stmt:=top 32
abbrev s_law_good:Stmt:=top 33
abbrev s_law_all_sets:Stmt:=top 34
abbrev s_law_row:Stmt:=top 35
abbrev s_law_steps:Stmt:=top 36
abbrev s_law_in_order:Stmt:=top 37
abbrev s_law_spread:Stmt:=top 38
abbrev s_law_doubled:Stmt:=top 39
abbrev s_law_all_parted:Stmt:=top 40
abbrev s_law_beside:Stmt:=top 41
abbrev s_law_told:Stmt:=top 42
abbrev s_law:Stmt:=top 43
theorem _root_.L2.Room.m{j k:Nat}{A:Around}(r:Room k A)(h:j≤k:=by decide):Room j A:=r.mono h
theorem sc_mk{N P:List Str}{s:Scope}(a:s.kind=.function:=by rfl)(b:s.isCoroutine=false:=by rfl)(c:s.isGenerator=false:=by rfl)(d:N.Nodup:=by decide +kernel)(e:N.take P.length=P:=by rfl)(f:∀x∈P,s.names.lookup x=some .local∨s.names.lookup x=some .cell:=by decide +kernel)(g:∀y∈s.names,y.2≠.free:=by decide +kernel):FnScope N P s:=⟨a,b,c,d,e,f,g⟩
theorem sc_Truths_nought:FnScope ["self"] ["self"] (defScope s_Truths_nought):=sc_mk
theorem sc_Truths_one:FnScope ["self"] ["self"] (defScope s_Truths_one):=sc_mk
theorem sc_unit:FnScope ["kind","size","place"] ["kind","size","place"] (defScope s_unit):=sc_mk
theorem sc_first_set:FnScope ["machine"] ["machine"] (defScope s_first_set):=sc_mk
theorem sc_next_set:FnScope ["table","within"] ["table","within"] (defScope s_next_set):=sc_mk
theorem sc_ends_within:FnScope ["machine","within"] ["machine","within"] (defScope s_ends_within):=sc_mk
theorem sc_sets_of:FnScope ["machine","told","place","table","after"] ["machine"] (defScope s_sets_of):=sc_mk
theorem sc_steps_of:FnScope ["machine","found"] ["machine","found"] (defScope s_steps_of):=sc_mk
theorem sc_ends_of:FnScope ["machine","found"] ["machine","found"] (defScope s_ends_of):=sc_mk
theorem sc_sure_machine:FnScope ["letters","steps","ends","kind","size","tables"] ["letters","steps","ends"] (defScope s_sure_machine):=sc_mk
theorem sc_numbered:FnScope ["things","firsts","told","thing"] ["things"] (defScope s_numbered):=sc_mk
theorem sc_sorts_of:FnScope ["steps","ends","finer","told"] ["steps","ends"] (defScope s_sorts_of):=sc_mk
theorem sc_least_sure:FnScope ["machine","found","steps","ends","sorts","firsts","least_steps"] ["machine"] (defScope s_least_sure):=sc_mk
theorem sc_law_state:FnScope ["_law_script","_law_seed","_law_cell"] ["_law_script"] (defScope s_law_state):=sc_mk
theorem sc_law_next:FnScope ["_law_state_here","_law_many","_law_found"] ["_law_state_here","_law_many"] (defScope s_law_next):=sc_mk
theorem sc_law_rooms:FnScope ["_law_state_here","_law_few","_law_most"] ["_law_state_here","_law_few","_law_most"] (defScope s_law_rooms):=sc_mk
theorem sc_law_letters:FnScope ["_law_state_here","_law_some","_law_answer","_law_k","_law_letter"] ["_law_state_here"] (defScope s_law_letters):=sc_mk
theorem sc_law_truths:FnScope ["_law_state_here","_law_many","_law_thin"] ["_law_state_here","_law_many","_law_thin"] (defScope s_law_truths):=sc_mk
theorem sc_law_machine:FnScope ["_law_state_here","_law_letters_here","_law_many","_law_thin","_law_start","_law_tables","_law_letter"] ["_law_state_here","_law_letters_here","_law_many","_law_thin"] (defScope s_law_machine):=sc_mk
theorem sc_law_first:FnScope ["_law_machine_here"] ["_law_machine_here"] (defScope s_law_first):=sc_mk
theorem sc_law_after:FnScope ["_law_machine_here","_law_some","_law_at","_law_table"] ["_law_machine_here","_law_some","_law_at"] (defScope s_law_after):=sc_mk
theorem sc_law_good:FnScope ["_law_machine_here","_law_some"] ["_law_machine_here","_law_some"] (defScope s_law_good):=sc_mk
theorem sc_law_all_sets:FnScope ["_law_machine_here","_law_most","_law_some","_law_at","_law_k","_law_more"] ["_law_machine_here","_law_most"] (defScope s_law_all_sets):=sc_mk
theorem sc_law_row:FnScope ["_law_row_here","_law_many"] ["_law_row_here","_law_many"] (defScope s_law_row):=sc_mk
theorem sc_law_steps:FnScope ["_law_answer","_law_letters_here","_law_many","_law_steps_here","_law_table","_law_k"] ["_law_answer","_law_letters_here"] (defScope s_law_steps):=sc_mk
theorem sc_law_in_order:FnScope ["_law_steps_here","_law_met","_law_k","_law_other"] ["_law_steps_here"] (defScope s_law_in_order):=sc_mk
theorem sc_law_spread:FnScope ["_law_state_here","_law_owners","_law_line","_law_chosen","_law_k","_law_some","_law_row_here","_law_j","_law_also"] ["_law_state_here","_law_owners","_law_line"] (defScope s_law_spread):=sc_mk
theorem sc_law_doubled:FnScope ["_law_state_here","_law_machine_here","_law_owners","_law_k","_law_j","_law_tables","_law_table","_law_ends"] ["_law_state_here","_law_machine_here"] (defScope s_law_doubled):=sc_mk
theorem sc_law_all_parted:FnScope ["_law_steps_here","_law_ends","_law_marks","_law_turn","_law_keys"] ["_law_steps_here","_law_ends"] (defScope s_law_all_parted):=sc_mk
theorem sc_law_beside:FnScope ["_law_machine_here","_law_some","_law_answer","_law_steps_here","_law_places","_law_at","_law_k","_law_j","_law_other"] ["_law_machine_here","_law_some","_law_answer","_law_steps_here"] (defScope s_law_beside):=sc_mk
theorem sc_law_told:FnScope ["_law_machine_here","_law_refused","_law_answer","e","_law_some","_law_steps_here"] ["_law_machine_here"] (defScope s_law_told):=sc_mk
theorem sc_law:FnScope ["_law_script","_law_state_here","_law_letters_here","_law_machine_here","_law_good_here","_law_answer","_law_fine","_law_other"] ["_law_script"] (defScope s_law):=sc_mk
set_option genInjectivity false in
set_option genSizeOfSpec false in
structure Adr where
  Truths_nought:Addr
  d_Truths_nought:FuncData
  Truths_one:Addr
  d_Truths_one:FuncData
  unit:Addr
  d_unit:FuncData
  first_set:Addr
  d_first_set:FuncData
  next_set:Addr
  d_next_set:FuncData
  ends_within:Addr
  d_ends_within:FuncData
  sets_of:Addr
  d_sets_of:FuncData
  steps_of:Addr
  d_steps_of:FuncData
  ends_of:Addr
  d_ends_of:FuncData
  sure_machine:Addr
  d_sure_machine:FuncData
  numbered:Addr
  d_numbered:FuncData
  sorts_of:Addr
  d_sorts_of:FuncData
  least_sure:Addr
  d_least_sure:FuncData
  law_state:Addr
  d_law_state:FuncData
  law_next:Addr
  d_law_next:FuncData
  law_rooms:Addr
  d_law_rooms:FuncData
  law_letters:Addr
  d_law_letters:FuncData
  law_truths:Addr
  d_law_truths:FuncData
  law_machine:Addr
  d_law_machine:FuncData
  law_first:Addr
  d_law_first:FuncData
  law_after:Addr
  d_law_after:FuncData
  law_good:Addr
  d_law_good:FuncData
  law_all_sets:Addr
  d_law_all_sets:FuncData
  law_row:Addr
  d_law_row:FuncData
  law_steps:Addr
  d_law_steps:FuncData
  law_in_order:Addr
  d_law_in_order:FuncData
  law_spread:Addr
  d_law_spread:FuncData
  law_doubled:Addr
  d_law_doubled:FuncData
  law_all_parted:Addr
  d_law_all_parted:FuncData
  law_beside:Addr
  d_law_beside:FuncData
  law_told:Addr
  d_law_told:FuncData
  law:Addr
  d_law:FuncData
  Truths:Addr
  WeighError:Addr
  TooGreat:Addr
structure Txt(K:PySem.W.Frag)(mg:Str→Option Value)(t:Adr):Prop where
  F_Truths_nought:Fun K "nought" "Truths.nought" s_Truths_nought t.Truths_nought t.d_Truths_nought
  b_Truths_nought:Binds K t.d_Truths_nought ["self"] []
  t_Truths_nought:Meth K t.Truths "nought" t.Truths_nought
  F_Truths_one:Fun K "one" "Truths.one" s_Truths_one t.Truths_one t.d_Truths_one
  b_Truths_one:Binds K t.d_Truths_one ["self"] []
  t_Truths_one:Meth K t.Truths "one" t.Truths_one
  F_unit:Fun K "unit" "unit" s_unit t.unit t.d_unit
  b_unit:Binds K t.d_unit ["kind","size","place"] []
  m_unit:mg "unit"=some (.ref t.unit)
  F_first_set:Fun K "first_set" "first_set" s_first_set t.first_set t.d_first_set
  b_first_set:Binds K t.d_first_set ["machine"] []
  m_first_set:mg "first_set"=some (.ref t.first_set)
  F_next_set:Fun K "next_set" "next_set" s_next_set t.next_set t.d_next_set
  b_next_set:Binds K t.d_next_set ["table","within"] []
  m_next_set:mg "next_set"=some (.ref t.next_set)
  F_ends_within:Fun K "ends_within" "ends_within" s_ends_within t.ends_within t.d_ends_within
  b_ends_within:Binds K t.d_ends_within ["machine","within"] []
  m_ends_within:mg "ends_within"=some (.ref t.ends_within)
  F_sets_of:Fun K "sets_of" "sets_of" s_sets_of t.sets_of t.d_sets_of
  b_sets_of:Binds K t.d_sets_of ["machine"] []
  m_sets_of:mg "sets_of"=some (.ref t.sets_of)
  F_steps_of:Fun K "steps_of" "steps_of" s_steps_of t.steps_of t.d_steps_of
  b_steps_of:Binds K t.d_steps_of ["machine","found"] []
  m_steps_of:mg "steps_of"=some (.ref t.steps_of)
  F_ends_of:Fun K "ends_of" "ends_of" s_ends_of t.ends_of t.d_ends_of
  b_ends_of:Binds K t.d_ends_of ["machine","found"] []
  m_ends_of:mg "ends_of"=some (.ref t.ends_of)
  F_sure_machine:Fun K "sure_machine" "sure_machine" s_sure_machine t.sure_machine t.d_sure_machine
  b_sure_machine:Binds K t.d_sure_machine ["letters","steps","ends"] []
  m_sure_machine:mg "sure_machine"=some (.ref t.sure_machine)
  F_numbered:Fun K "numbered" "numbered" s_numbered t.numbered t.d_numbered
  b_numbered:Binds K t.d_numbered ["things"] []
  m_numbered:mg "numbered"=some (.ref t.numbered)
  F_sorts_of:Fun K "sorts_of" "sorts_of" s_sorts_of t.sorts_of t.d_sorts_of
  b_sorts_of:Binds K t.d_sorts_of ["steps","ends"] []
  m_sorts_of:mg "sorts_of"=some (.ref t.sorts_of)
  F_least_sure:Fun K "least_sure" "least_sure" s_least_sure t.least_sure t.d_least_sure
  b_least_sure:Binds K t.d_least_sure ["machine"] []
  m_least_sure:mg "least_sure"=some (.ref t.least_sure)
  F_law_state:Fun K "_law_state" "_law_state" s_law_state t.law_state t.d_law_state
  b_law_state:Binds K t.d_law_state ["_law_script"] []
  m_law_state:mg "_law_state"=some (.ref t.law_state)
  F_law_next:Fun K "_law_next" "_law_next" s_law_next t.law_next t.d_law_next
  b_law_next:Binds K t.d_law_next ["_law_state_here","_law_many"] []
  m_law_next:mg "_law_next"=some (.ref t.law_next)
  F_law_rooms:Fun K "_law_rooms" "_law_rooms" s_law_rooms t.law_rooms t.d_law_rooms
  b_law_rooms:Binds K t.d_law_rooms ["_law_state_here","_law_few","_law_most"] []
  m_law_rooms:mg "_law_rooms"=some (.ref t.law_rooms)
  F_law_letters:Fun K "_law_letters" "_law_letters" s_law_letters t.law_letters t.d_law_letters
  b_law_letters:Binds K t.d_law_letters ["_law_state_here"] []
  m_law_letters:mg "_law_letters"=some (.ref t.law_letters)
  F_law_truths:Fun K "_law_truths" "_law_truths" s_law_truths t.law_truths t.d_law_truths
  b_law_truths:Binds K t.d_law_truths ["_law_state_here","_law_many","_law_thin"] []
  m_law_truths:mg "_law_truths"=some (.ref t.law_truths)
  F_law_machine:Fun K "_law_machine" "_law_machine" s_law_machine t.law_machine t.d_law_machine
  b_law_machine:Binds K t.d_law_machine ["_law_state_here","_law_letters_here","_law_many","_law_thin"] []
  m_law_machine:mg "_law_machine"=some (.ref t.law_machine)
  F_law_first:Fun K "_law_first" "_law_first" s_law_first t.law_first t.d_law_first
  b_law_first:Binds K t.d_law_first ["_law_machine_here"] []
  m_law_first:mg "_law_first"=some (.ref t.law_first)
  F_law_after:Fun K "_law_after" "_law_after" s_law_after t.law_after t.d_law_after
  b_law_after:Binds K t.d_law_after ["_law_machine_here","_law_some","_law_at"] []
  m_law_after:mg "_law_after"=some (.ref t.law_after)
  F_law_good:Fun K "_law_good" "_law_good" s_law_good t.law_good t.d_law_good
  b_law_good:Binds K t.d_law_good ["_law_machine_here","_law_some"] []
  m_law_good:mg "_law_good"=some (.ref t.law_good)
  F_law_all_sets:Fun K "_law_all_sets" "_law_all_sets" s_law_all_sets t.law_all_sets t.d_law_all_sets
  b_law_all_sets:Binds K t.d_law_all_sets ["_law_machine_here","_law_most"] []
  m_law_all_sets:mg "_law_all_sets"=some (.ref t.law_all_sets)
  F_law_row:Fun K "_law_row" "_law_row" s_law_row t.law_row t.d_law_row
  b_law_row:Binds K t.d_law_row ["_law_row_here","_law_many"] []
  m_law_row:mg "_law_row"=some (.ref t.law_row)
  F_law_steps:Fun K "_law_steps" "_law_steps" s_law_steps t.law_steps t.d_law_steps
  b_law_steps:Binds K t.d_law_steps ["_law_answer","_law_letters_here"] []
  m_law_steps:mg "_law_steps"=some (.ref t.law_steps)
  F_law_in_order:Fun K "_law_in_order" "_law_in_order" s_law_in_order t.law_in_order t.d_law_in_order
  b_law_in_order:Binds K t.d_law_in_order ["_law_steps_here"] []
  m_law_in_order:mg "_law_in_order"=some (.ref t.law_in_order)
  F_law_spread:Fun K "_law_spread" "_law_spread" s_law_spread t.law_spread t.d_law_spread
  b_law_spread:Binds K t.d_law_spread ["_law_state_here","_law_owners","_law_line"] []
  m_law_spread:mg "_law_spread"=some (.ref t.law_spread)
  F_law_doubled:Fun K "_law_doubled" "_law_doubled" s_law_doubled t.law_doubled t.d_law_doubled
  b_law_doubled:Binds K t.d_law_doubled ["_law_state_here","_law_machine_here"] []
  m_law_doubled:mg "_law_doubled"=some (.ref t.law_doubled)
  F_law_all_parted:Fun K "_law_all_parted" "_law_all_parted" s_law_all_parted t.law_all_parted t.d_law_all_parted
  b_law_all_parted:Binds K t.d_law_all_parted ["_law_steps_here","_law_ends"] []
  m_law_all_parted:mg "_law_all_parted"=some (.ref t.law_all_parted)
  F_law_beside:Fun K "_law_beside" "_law_beside" s_law_beside t.law_beside t.d_law_beside
  b_law_beside:Binds K t.d_law_beside ["_law_machine_here","_law_some","_law_answer","_law_steps_here"] []
  m_law_beside:mg "_law_beside"=some (.ref t.law_beside)
  F_law_told:Fun K "_law_told" "_law_told" s_law_told t.law_told t.d_law_told
  b_law_told:Binds K t.d_law_told ["_law_machine_here"] []
  m_law_told:mg "_law_told"=some (.ref t.law_told)
  F_law:Fun K "law" "law" s_law t.law t.d_law
  b_law:Binds K t.d_law ["_law_script"] []
  m_law:mg "law"=some (.ref t.law)
  C_Truths:Cls K t.Truths
  m_Truths:mg "Truths"=some (.ref t.Truths)
  M_Truths:MkO K t.Truths
  m_WeighError:mg "WeighError"=some (.ref t.WeighError)
  x_WeighError:ExcK K t.WeighError
  m_TooGreat:mg "TooGreat"=some (.ref t.TooGreat)
  x_TooGreat:ExcK K t.TooGreat
  z_tuple:mg "tuple"=none
  z_range:mg "range"=none
  z_enumerate:mg "enumerate"=none
  z_len:mg "len"=none
  z_any:mg "any"=none
  c_MOST_SETS:∃tk,mg "MOST_SETS"=some (Value.int 20 tk)
  z_max:mg "max"=none
  z_isinstance:mg "isinstance"=none
  z_all:mg "all"=none
  z_bool:mg "bool"=none
  z_list:mg "list"=none
  z_int:mg "int"=none
  z_sorted:mg "sorted"=none
  z_set:mg "set"=none
  z_ValueError:mg "ValueError"=none
  k_tt:PySem.W.kitOne K (.type "tuple") (.type "tuple")=some true
  k_ll:PySem.W.kitOne K (.type "list") (.type "list")=some true
  e_G:PySem.W.exmOne K (.ref t.TooGreat) (.ref t.TooGreat)=some true
  k_GV:PySem.W.kitOne K (.ref t.TooGreat) (.type "ValueError")=some true
  k_GW:PySem.W.kitOne K (.ref t.TooGreat) (.ref t.WeighError)=some true
  k_bb:PySem.W.kitOne K (.type "bool") (.type "bool")=some true
seal L2.PSs L2.PS L2.PE L2.PT L2.PW L2.PA L2.PG L2.PGs L2.PI
section
variable{w:World}{K:PySem.W.Frag}{mg:Str→Option Value}{base:Heap}{t:Adr}
theorem cut_take(xs:List V)(k:Nat):cutV xs none (some (k:Int))=xs.take k:=by
  unfold cutV
  rw[HT.sIx_none,HT.sIx_nat,List.drop_zero,Nat.sub_zero]
  by_cases h:k≤xs.length
  · rw[Nat.min_eq_left h]
  · rw[Nat.min_eq_right (by omega),List.take_length,List.take_of_length_le (by omega)]
def Dr(H:Hp)(a:Addr):Prop:=∃x:Int,H a=some (.lst [.int x])∨∃d:Int,H a=some (.lst [.int d,.int x])
def SameX(a:Addr)(H H':Hp):Prop:=∀b o,b≠a→H b=some o→H' b=some o
theorem SameX.refl(a:Addr)(H:Hp):SameX a H H:=fun _ _ _ h=>h
theorem SameX.trans{a:Addr}{H H1 H2:Hp}(x:SameX a H H1)(y:SameX a H1 H2):SameX a H H2:=fun b o n h=>y b o n (x b o n h)
theorem SameX.upd{a:Addr}{H:Hp}{o:HO}:SameX a H (upd H a o):=fun b u n h=>by rw[upd_ne n];exact h
theorem SameX.of{a:Addr}{H H':Hp}(x:Same H H'):SameX a H H':=fun b o _ h=>x b o h
def sp_next:Sp:=fun vs H Q _=>∃(a:Addr) (m:Int),vs=[.ref a,.int m]∧(Dr H a∧0 < m∧m≤1000000000000000)∧∀(r:Int) H',SameX a H H'→Dr H' a→0≤r→r < m→Q (.int r) H'
def sp_state(K:PySem.W.Frag):Sp:=fun vs H Q _=>∃(a:Addr) (ns:List Int),vs=[.ref a]∧SqL K H a (ns.map V.int)∧ns.length≤63∧∀b H',H b=none→Same H H'→Dr H' b→Q (.ref b) H'
theorem small_div{m:Int}(h:0 < m)(h':m≤1000000000000000)(x:Int):CDivB x m:=by
  refine⟨by omega,?_⟩
  have:m.natAbs≤2 ^ 50:=by
    have e:(2:Nat) ^ 50=1125899906842624:=by decide
    omega
  by_cases e:m.natAbs=0
  · rw[e];decide
  · rw[Nat.log2_lt e]
    exact Nat.lt_of_le_of_lt this (Nat.pow_lt_pow_right (by decide) (by decide))
theorem ok_law_next(T:Txt K mg t):FnOk Pr w K mg base CX0 1 t.law_next t.d_law_next ["_law_state_here","_law_many"] sp_next:=by
  refine T.F_law_next.ok sc_law_next (fun vs H Q E h=>?_) (fun cdv A outer s H vs Q E hr h=>?_)
  · obtain⟨a,m,rfl,_⟩:=h
    rfl
  · obtain⟨a,m,rfl,⟨⟨x,hD⟩,m0,m1⟩,k⟩:=h
    refine⟨_,(pss_cons (ps_if (pt_cmpR op_eq (pe_callB call_len (by rfl) T.z_len PySem.boot_len (pa_cons (pv 0) pa_nil)) pe_int (nomark _)) (pss_cons (ps_set (i:=2) sc_law_next.nd rfl (Or.inl rfl) (pe_op op_modN (pe_ix ix_list (pv 0) pe_int (fun _ _=>rfl)) (pv 1))) (pss_cons (ps_asg (pe_op op_fdivB (pe_ix ix_list (pv 0) pe_int (fun _ _=>rfl)) (pv 1)) (pg_sub (pv 0) pe_int set_list)) (pss_cons (ps_if (pt_cmpR op_eq (pe_ix ix_list (pv 0) pe_int (fun _ _=>rfl)) pe_int (nomark _)) (pss_one (ps_expr (pe_bm PySem.F.plainAttrs_list PySem.F.slot_list_pop PySem.F.type_list_pop mt_popAt (pv 0) (pa_cons pe_int pa_nil)))) pss_nil) (pss_one (ps_ret (pv 2)))))) pss_nil) (pss_cons (ps_asg (pe_op op_modN (pe_op op_add (pe_op op_mul (pe_ix ix_list (pv 0) pe_int (fun _ _=>rfl)) pe_int) pe_int) pe_int) (pg_sub (pv 0) pe_int set_list)) (pss_one (ps_ret (pe_op op_modN (pe_op op_fdivB (pe_ix ix_list (pv 0) pe_int (fun _ _=>rfl)) pe_int) (pv 1)))))),?_⟩
    rcases hD with hD | ⟨d,hD⟩
    · have lc:LenV K (.ref a) H 1:=.inl ⟨_,SqL.of hD,rfl⟩
      refine⟨_,rfl,_,_,rfl,lc,rfl,_,rfl,?_⟩
      refine iteI (fun h=>absurd h (by decide)) (fun _=>?_)
      refine⟨_,rfl,_,_,_,_,rfl,rfl,SqL.of hD,rfl,_,_,rfl,rfl,.inr ⟨by decide,by decide⟩,_,_,rfl,rfl,_,_,rfl,rfl,(show(2305843009213693951:Int)≠0 by decide),?_⟩
      refine⟨_,rfl,_,_,_,_,rfl,rfl,hD,rfl,?_⟩
      refine⟨_,rfl,_,_,_,_,rfl,rfl,SqL.of upd_same,rfl,_,_,rfl,rfl,⟨by decide,by decide⟩,_,rfl,_,_,rfl,rfl,(show m≠0 by omega),?_⟩
      exact k _ _ SameX.upd ⟨_,.inl upd_same⟩ (Int.fmod_nonneg_of_pos _ m0) (Int.fmod_lt_of_pos _ m0)
    · have lc:LenV K (.ref a) H 2:=.inl ⟨_,SqL.of hD,rfl⟩
      refine⟨_,rfl,_,_,rfl,lc,rfl,_,rfl,?_⟩
      refine iteI (fun _=>?_) (fun h=>absurd rfl h)
      refine⟨_,rfl,_,_,_,_,rfl,rfl,SqL.of hD,rfl,_,rfl,_,_,rfl,rfl,(show m≠0 by omega),?_⟩
      refine⟨_,rfl,_,_,_,_,rfl,rfl,SqL.of hD,rfl,_,rfl,_,_,rfl,rfl,small_div m0 m1 _,?_⟩
      refine⟨_,rfl,_,_,_,_,rfl,rfl,hD,rfl,?_⟩
      refine⟨_,rfl,_,_,_,_,rfl,rfl,SqL.of upd_same,rfl,rfl,_,rfl,?_⟩
      refine iteI (fun _=>?_) (fun _=>?_)
      · refine⟨_,rfl,.inl ⟨rfl,_,SqL.of upd_same⟩,_,_,_,_,_,rfl,rfl,upd_same,(by decide),(by decide),rfl,rfl,?_⟩
        refine⟨_,rfl,?_⟩
        exact k _ _ (SameX.upd.trans SameX.upd) ⟨x,.inl upd_same⟩ (Int.fmod_nonneg_of_pos _ m0) (Int.fmod_lt_of_pos _ m0)
      · refine⟨_,rfl,?_⟩
        exact k _ _ SameX.upd ⟨x,.inr ⟨_,upd_same⟩⟩ (Int.fmod_nonneg_of_pos _ m0) (Int.fmod_lt_of_pos _ m0)
theorem ok_law_state(T:Txt K mg t):FnOk Pr w K mg base CX0 1 t.law_state t.d_law_state ["_law_script"] (sp_state K):=by
  refine T.F_law_state.ok sc_law_state (fun vs H Q E h=>?_) (fun cdv A outer s H vs Q E hr h=>?_)
  · obtain⟨a,ns,rfl,_⟩:=h
    rfl
  · obtain⟨a,ns,rfl,hS,hlen,k⟩:=h
    refine⟨_,(pss_cons (ps_set (i:=1) sc_law_state.nd rfl (Or.inl rfl) pe_int) (pss_cons (ps_for PassesOwn.never rfl (pi_list (pe_slice sl_list (pv 0) po_none (po_some pe_int))) (pg_name (i:=2) sc_law_state.nd rfl (Or.inl rfl)) (pss_one (ps_set (i:=1) sc_law_state.nd rfl (Or.inl rfl) (pe_op op_modN (pe_op op_add (pe_op op_add (pe_op op_mul (pv 1) pe_int) (pe_op op_modN (pv 2) (pe_op op_pow pe_int pe_int))) pe_int) pe_int)))) (pss_cons (ps_if (PW.pt (pw_and (pt_cmpR op_gt (pe_callB call_len (by rfl) T.z_len PySem.boot_len (pa_cons (pv 0) pa_nil)) pe_int (nomark _)) (pw_and (pt_cmpR op_gt (pe_ix ix_list (pv 0) pe_int (fun _ _=>rfl)) pe_int (nomark _)) (pw_and1 (pt_cmpR op_eq (pe_op op_modN (pe_ix ix_list (pv 0) pe_int (fun _ _=>rfl)) pe_int) pe_int (nomark _)))))) (pss_one (ps_ret (pe_lst (pa_cons (pe_op op_fdivB (pe_ix ix_list (pv 0) pe_int (fun _ _=>rfl)) pe_int) (pa_cons (pv 1) pa_nil))))) pss_nil) (pss_one (ps_ret (pe_lst (pa_cons (pv 1) pa_nil))))))),?_⟩
    refine⟨_,rfl,_,rfl,_,_,rfl,hS,fun c1 hc1=>?_⟩
    have ec:cutV (ns.map V.int) none (some 200)=(ns.take 200).map V.int:=by
      rw[show(200:Int)=((200:Nat):Int)from rfl,cut_take,List.map_take]
    have s1:=same_upd (o:=.lst (cutV (ns.map V.int) none (some 200))) hc1
    have k1:=upd_same (H:=H) (a:=c1) (o:=.lst (cutV (ns.map V.int) none (some 200)))
    have hS1:=s1.seq hS
    clear hc1
    revert s1 k1 hS1
    generalize upd H c1 (.lst (cutV (ns.map V.int) none (some 200)))=H1
    intro s1 k1 hS1
    rw[ec]at k1
    refine⟨c1,rfl,⟨_,SqL.of k1⟩,for_list (K:=K) (a:=c1) (xs:=(ns.take 200).map V.int) (fun i σ H'=>∃(x:Int) (v:Option V),σ=[some (.ref a),some (.int x),v]∧H'=H1) ⟨_,_,rfl,rfl⟩ (fun i σ H' _ ⟨_,_,_,e⟩=>e▸SqL.of k1) ?_ ?_⟩
    · rintro i y σ H' hi ⟨x,v,rfl,rfl⟩
      obtain⟨z,rfl⟩:∃z,y=V.int z:=by
        rw[List.getElem?_map]at hi
        cases e:(ns.take 200)[i]? with
        | none=>rw[e]at hi;cases hi
        | some z=>rw[e]at hi;exact⟨z,(Option.some.inj hi).symm⟩
      refine⟨_,rfl,_,_,rfl,rfl,.inr ⟨by decide,by decide⟩,_,rfl,_,_,rfl,rfl,⟨by decide,by decide,by decide⟩,_,_,rfl,rfl,(show((10:Int) ^ (30:Int).toNat)≠0 by decide),_,_,rfl,rfl,_,_,rfl,rfl,_,_,rfl,rfl,(show(2305843009213693951:Int)≠0 by decide),?_⟩
      exact⟨_,_,rfl,rfl⟩
    · rintro σ H' ⟨x,v,rfl,rfl⟩
      have lc:LenV K (.ref a) H' (ns.map V.int).length:=.inl ⟨_,hS1,rfl⟩
      rw[List.length_map]at lc
      have last:tSeq tNext (tRet (tLst (tCons (tVar 1) tNil))) { nx:=fun _ H''=>Q .non H'',rt:=Q } [some (.ref a),some (.int x),v] H':=by
        refine⟨_,rfl,(by show 1≤sizeLine;decide),fun b hb=>?_⟩
        exact k b _ (s1.free hb) (s1.trans (same_upd hb)) ⟨x,.inl upd_same⟩
      refine⟨_,rfl,_,_,rfl,lc,_,_,rfl,rfl,_,rfl,?_⟩
      refine iteP (fun h0=>?_) (fun _=>?_)
      · obtain⟨n0,g0⟩:∃n,ns[0]? = some n:=⟨ns[0]'(by omega),by simp⟩
        have a0:atI (ns.map V.int) 0=some (V.int n0):=atI_nat (j:=0) (by rw[List.getElem?_map,g0];rfl)
        refine⟨_,rfl,_,_,_,_,rfl,rfl,hS1,a0,_,_,rfl,rfl,_,rfl,?_⟩
        refine iteP (fun _=>?_) (fun _=>?_)
        · refine⟨_,rfl,_,_,_,_,rfl,rfl,hS1,a0,_,_,rfl,rfl,(show(2:Int)≠0 by decide),rfl,_,rfl,?_⟩
          refine iteI (fun _=>?_) (fun _=>?_)
          · refine⟨_,rfl,_,_,_,_,rfl,rfl,hS1,a0,_,_,rfl,rfl,⟨by decide,by decide⟩,_,rfl,(by show 2≤sizeLine;decide),fun b hb=>?_⟩
            exact k b _ (s1.free hb) (s1.trans (same_upd hb)) ⟨x,.inr ⟨_,upd_same⟩⟩
          · exact last
        · exact last
      · exact last
theorem Dr.same{H H':Hp}{a:Addr}(e:Same H H')(h:Dr H a):Dr H' a:=by
  obtain⟨x,h | ⟨d,h⟩⟩:=h
  · exact⟨x,.inl (e _ _ h)⟩
  · exact⟨x,.inr ⟨d,e _ _ h⟩⟩
theorem Dr.lst{H:Hp}{a:Addr}(h:Dr H a):∃xs,H a=some (.lst xs):=by
  obtain⟨x,h | ⟨d,h⟩⟩:=h
  · exact⟨_,h⟩
  · exact⟨_,h⟩
theorem SameX.tt{a:Addr}{H H':Hp}(s:SameX a H H')(d:Dr H a):SameT H H':=fun p vs h=>s p _ (by
  rintro rfl
  obtain⟨xs,e⟩:=d.lst
  rw[h]at e;cases e) h
theorem SameX.tup{a p:Addr}{H:Hp}{o:HO}(n:H p=none)(d:Dr H a):SameX a H (L2.upd H p o)∧Dr (L2.upd H p o) a:=⟨.of (same_upd n),d.same (same_upd n)⟩
def tx(l:List Nat):Str:=⟨l.toArray⟩
def vT(l:List Nat):V:=.str (tx l)
theorem tx_app(a b:List Nat):tx a++tx b=tx (a++b):=by
  show(⟨a.toArray++b.toArray⟩:Str)=⟨(a++b).toArray⟩
  simp
theorem tx_len(a:List Nat):(tx a).length=a.length:=by
  show a.toArray.size=a.length
  simp
structure LOk(l:List Nat):Prop where
  h1:1≤l.length
  h3:l.length≤3
  nd:l.Nodup
  as:∀c∈l,c < 128
structure Pool(p l:List Nat)(i:Nat):Prop where
  nd:(p++l).Nodup
  pl:p.length=26 - i
  ll:l.length=i
  az:∀c∈p++l,97≤c∧c≤122
def azs:List Nat:=[97,98,99,100,101,102,103,104,105,106,107,108,109,110,111,112,113,114,115,116,117,118,119,120,121,122]
theorem az_is:(Str.ofString "abcdefghijklmnopqrstuvwxyz")=tx azs:=by decide +kernel
theorem em_is:(Str.ofString "")=tx []:=by decide +kernel
theorem Pool.start:Pool azs [] 0:=⟨by decide,by decide,rfl,by decide⟩
theorem Pool.turn{p l:List Nat}{i j:Nat}{c:Nat}(h:Pool p l i)(hi:i≤20)(hc:p[j]? = some c):Pool (p.take j++p.drop (j+1)) (l++[c]) (i+1):=by
  have hj:j < p.length:=(List.getElem?_eq_some_iff.mp hc).1
  have e:p=p.take j++c::p.drop (j+1):=by
    have:p[j]=c:=(List.getElem?_eq_some_iff.mp hc).2
    rw[← this,List.getElem_cons_drop_succ_eq_drop hj,List.take_append_drop]
  have pm:((p.take j++p.drop (j+1))++(l++[c])).Perm (p++l):=by
    conv=>rhs;rw[e]
    have h1:((p.take j++p.drop (j+1))++(l++[c])).Perm ((l++[c])++(p.take j++p.drop (j+1))):=List.perm_append_comm
    have h2:(p.take j++c::p.drop (j+1)).Perm (c::(p.take j++p.drop (j+1))):=List.perm_middle
    have h3:(p.take j++c::p.drop (j+1)++l).Perm (c::(p.take j++p.drop (j+1))++l):=h2.append_right l
    have h4:(c::(p.take j++p.drop (j+1))++l).Perm (l++c::(p.take j++p.drop (j+1))):=List.perm_append_comm
    have h5:(l++[c])++(p.take j++p.drop (j+1))=l++c::(p.take j++p.drop (j+1)):=by simp
    rw[h5]at h1
    exact h1.trans (h4.symm.trans h3.symm)
  refine⟨pm.nodup_iff.mpr h.nd,?_,?_,fun x hx=>h.az x (pm.mem_iff.mp hx)⟩
  · rw[List.length_append,List.length_take,List.length_drop]
    have:=h.pl
    omega
  · rw[List.length_append,h.ll];rfl
def sp_letters:Sp:=fun vs H Q _=>∃(a:Addr),vs=[.ref a]∧Dr H a∧∀(p l:List Nat) (i:Nat) H',SameX a H H'→Dr H' a→Pool p l i→1≤i→i≤3→Q (vT l) H'
theorem strike{p:List Nat}{j c:Nat}(hd:p.Nodup)(hc:p[j]? = some c):p.filter (· != c)=p.take j++p.drop (j+1):=by
  induction p generalizing j with
  | nil=>cases hc
  | cons a p ih=>
    rw[List.nodup_cons]at hd
    cases j with
    | zero=>
      have e:a=c:=by simpa using hc
      subst e
      rw[List.filter_cons_of_neg (p:=fun x=>x != a) (by simp),PyProof.Rows.filter_free a p hd.1]
      rfl
    | succ j=>
      have hc':p[j]? = some c:=by simpa using hc
      have ne:(a != c)=true:=by
        simp only[bne_iff_ne]
        intro e
        subst e
        exact hd.1 (List.mem_of_getElem? hc')
      rw[List.filter_cons_of_pos (p:=fun x=>x != c) ne,ih hd.2 hc']
      rfl
theorem Pool.nodup{p l:List Nat}{i:Nat}(G:Pool p l i):p.Nodup:=(List.nodup_append.mp G.nd).1
theorem ok_law_letters(T:Txt K mg t):FnOk Pr w K mg base CX0 2 t.law_letters t.d_law_letters ["_law_state_here"] sp_letters:=by
  refine T.F_law_letters.ok sc_law_letters (fun vs H Q E h=>?_) (fun cdv A outer s H vs Q E hr h=>?_)
  · obtain⟨a,rfl,_⟩:=h
    rfl
  · obtain⟨a,rfl,hD,k⟩:=h
    have szl:(1000:Nat) < sizeLine:=by decide
    refine⟨_,(pss_fl (i:=1) sc_law_letters.nd rfl rfl pe_str (pssn_cons (PS.fl (ps_set (i:=2) sc_law_letters.nd rfl (Or.inl rfl) pe_str)) (pssn_cons (ps_forn PassesOwn.never rfl (pi_range1 rfl T.z_range (pa_cons (pe_op op_add pe_int (pe_call (ok_law_next T) hr.m rfl T.m_law_next T.F_law_next.kp T.b_law_next .nil pass0 (pa_cons (pv 0) (pa_cons pe_int pa_nil)))) pa_nil)) (pg_name (i:=3) sc_law_letters.nd rfl (Or.inl rfl)) (pssn_letter (il:=4) (ia:=1) (iw:=2) sc_law_letters.nd rfl rfl rfl rfl rfl rfl (by decide) (by decide) (by decide) (pe_call (ok_law_next T) hr.m rfl T.m_law_next T.F_law_next.kp T.b_law_next .nil pass0 (pa_cons (pv 0) (pa_cons (pe_callB call_len (by rfl) T.z_len PySem.boot_len (pa_cons (pv 1) pa_nil)) pa_nil))) (fun _ _=>rfl))) (PSs.fl (pss_one (ps_ret (pv 2))))))),?_⟩
    refine⟨_,rfl,_,_,rfl,⟨hD,by decide,by decide⟩,fun r H1 s1 D1 r0 r3=>?_⟩
    refine⟨_,_,rfl,rfl,_,rfl,(by omega),(by omega),for_range (lo:=0) (n:=(1+r).toNat)
      (fun i σ H'=>∃p l v3 v4,σ=[some (.ref a),some (vT p),some (vT l),v3,v4]∧SameX a H H'∧Dr H' a∧Pool p l i)
      ⟨azs,[],_,_,(by rw[vT,vT,← az_is,← em_is];rfl),s1,D1,Pool.start⟩ ?_ ?_⟩
    · rintro i σ H' hi ⟨p,l,v3,v4,rfl,q,D,G⟩
      have hp:=G.pl
      have hll:=G.ll
      have lp:LenV K (vT p) H' (tx p).length:=⟨by rw[tx_len];omega,rfl⟩
      rw[tx_len]at lp
      refine⟨tx p,tx l,rfl,rfl,by rw[tx_len];omega,by rw[tx_len];omega,?_⟩
      refine⟨_,rfl,_,rfl,_,_,rfl,lp,_,_,rfl,⟨D,by omega,by omega⟩,fun z H2 s2 D2 z0 z1=>?_⟩
      obtain⟨c,hc⟩:∃c,p[z.toNat]? = some c:=⟨p[z.toNat]'(by omega),by simp⟩
      have ac:atI (tx p).cps.toList z=some c:=by
        have e:z=((z.toNat:Nat):Int):=by omega
        rw[e]
        exact atI_nat (by show p.toArray.toList[z.toNat]? = some c;simpa using hc)
      refine⟨z,c,rfl,ac,?_⟩
      have e1:tx l++(⟨#[c]⟩:Str)=tx (l++[c]):=tx_app l [c]
      have e3:Txt.replace (tx p) ⟨#[c]⟩ (Str.ofString "")=tx (p.take z.toNat++p.drop (z.toNat+1)):=by
        have:=PyProof.Rows.replace_strikes (tx p) c
        rw[show(tx p).cps.toList=p by simp[tx],strike G.nodup hc]at this
        show(⟨_⟩:Str)=⟨_⟩
        rw[← this]
        rfl
      exact⟨_,_,_,_,(by rw[e1,e3];rfl),q.trans s2,D2,G.turn (by omega) hc⟩
    · rintro σ H' ⟨p,l,v3,v4,rfl,q,D,G⟩
      refine⟨_,rfl,?_⟩
      exact k p l _ H' q D G (by omega) (by omega)
theorem Pool.ok{p l:List Nat}{i:Nat}(G:Pool p l i)(h1:1≤i)(h3:i≤3):LOk l:=by
  have e:=G.ll
  refine⟨by omega,by omega,(List.nodup_append.mp G.nd).2.1,fun c hc=>?_⟩
  have:=(G.az c (List.mem_append_right _ hc)).2
  omega
theorem LOk.asc{l:List Nat}(L:LOk l):(tx l).cps.all (· < 128)=true:=by
  show l.toArray.all (· < 128)=true
  simp only[List.all_toArray,List.all_eq_true,decide_eq_true_eq]
  exact fun c hc=>L.as c hc
def BR(r:List Bool)(v:V)(H:Hp):Prop:=∃p,v=.ref p∧H p=some (.tup (r.map V.bl))
theorem BR.same{r:List Bool}{v:V}{H H':Hp}(s:SameT H H')(h:BR r v H):BR r v H':=by
  obtain⟨p,rfl,h⟩:=h
  exact⟨p,rfl,s _ _ h⟩
def LT{α:Type}(Pd:α→V→Hp→Prop)(m:List α)(v:V)(H:Hp):Prop:=∃p vs,v=.ref p∧H p=some (.tup vs)∧Ents (fun i u H=>∃r,m[i]? = some r∧Pd r u H) vs m.length H
def BT(m:List (List Bool))(v:V)(H:Hp):Prop:=LT BR m v H
theorem LT.same{α:Type}{Pd:α→V→Hp→Prop}{m:List α}{v:V}{H H':Hp}(hp:∀r u,Pd r u H→Pd r u H')(s:SameT H H')(h:LT Pd m v H):LT Pd m v H':=by
  obtain⟨p,vs,rfl,h,e⟩:=h
  exact⟨p,vs,rfl,s _ _ h,e.mono fun j u _ ⟨r,e1,e2⟩=>⟨r,e1,hp r u e2⟩⟩
theorem BT.same{m:List (List Bool)}{v:V}{H H':Hp}(s:SameT H H')(h:BT m v H):BT m v H':=LT.same (fun _ _=>BR.same s) s h
theorem ents_snoc{α:Type}{Pd:α→V→Hp→Prop}{m:List α}{ys:List V}{H H':Hp}{r:α}{u:V}(e:Ents (fun i u H=>∃r,m[i]? = some r∧Pd r u H) ys m.length H)(hp:∀r u,Pd r u H→Pd r u H')(h:Pd r u H') :
    Ents (fun i u H=>∃q,(m++[r])[i]? = some q∧Pd q u H) (ys++[u]) (m++[r]).length H':=by
  rw[List.length_append,List.length_singleton]
  refine(e.mono fun j v hj ⟨q,e1,e2⟩=>⟨q,by rw[List.getElem?_append_left hj];exact e1,hp q v e2⟩).snoc ⟨r,by simp,h⟩
structure BMok(l:List Nat)(n:Nat)(st:List Bool)(ts:List (List (List Bool)))(en:List Bool):Prop where
  lk:LOk l
  n20:n≤20
  sl:st.length=n
  tl:ts.length=l.length
  tb:∀m∈ts,m.length=n∧∀r∈m,r.length=n
  el:en.length=n
def BM(l:List Nat)(st:List Bool)(ts:List (List (List Bool)))(en:List Bool)(v:V)(H:Hp):Prop:=∃p s tv e,v=.ref p∧H p=some (.tup [vT l,s,tv,e])∧BR st s H∧LT BT ts tv H∧BR en e H
theorem BM.same{l:List Nat}{st:List Bool}{ts:List (List (List Bool))}{en:List Bool}{v:V}{H H':Hp}(s:SameT H H')(h:BM l st ts en v H):BM l st ts en v H':=by
  obtain⟨p,a,b,c,rfl,h,h1,h2,h3⟩:=h
  exact⟨p,a,b,c,rfl,s _ _ h,h1.same s,h2.same (fun _ _=>BT.same s) s,h3.same s⟩
def sp_lrooms:Sp:=fun vs H Q _=>∃(a:Addr) (f m:Int),vs=[.ref a,.int f,.int m]∧(Dr H a∧0 < f∧f≤20∧0 < m∧m≤20)∧∀(r:Int) H',SameX a H H'→Dr H' a→0≤r→(r < f∨r < m)→Q (.int r) H'
theorem ok_law_rooms(T:Txt K mg t):FnOk Pr w K mg base CX0 2 t.law_rooms t.d_law_rooms ["_law_state_here","_law_few","_law_most"] sp_lrooms:=by
  refine T.F_law_rooms.ok sc_law_rooms (fun vs H Q E h=>?_) (fun cdv A outer s H vs Q E hr h=>?_)
  · obtain⟨a,f,m,rfl,_⟩:=h
    rfl
  · obtain⟨a,f,m,rfl,⟨hD,f0,f1,m0,m1⟩,k⟩:=h
    refine⟨_,(pss_cons (ps_if (pt_cmpR op_eq (pe_call (ok_law_next T) hr.m rfl T.m_law_next T.F_law_next.kp T.b_law_next .nil pass0 (pa_cons (pv 0) (pa_cons pe_int pa_nil))) pe_int (nomark _)) (pss_one (ps_ret (pe_call (ok_law_next T) hr.m rfl T.m_law_next T.F_law_next.kp T.b_law_next .nil pass0 (pa_cons (pv 0) (pa_cons (pv 2) pa_nil))))) pss_nil) (pss_one (ps_ret (pe_call (ok_law_next T) hr.m rfl T.m_law_next T.F_law_next.kp T.b_law_next .nil pass0 (pa_cons (pv 0) (pa_cons (pv 1) pa_nil)))))),?_⟩
    refine⟨_,rfl,_,_,rfl,⟨hD,by decide,by decide⟩,fun r H1 s1 D1 r0 r3=>?_⟩
    refine⟨rfl,_,rfl,?_⟩
    refine iteI (fun _=>?_) (fun _=>?_)
    · refine⟨_,rfl,_,rfl,_,_,rfl,⟨D1,by omega,by omega⟩,fun r H2 s2 D2 r0 r3=>?_⟩
      exact k r H2 (s1.trans s2) D2 r0 (by omega)
    · refine⟨_,rfl,_,rfl,_,_,rfl,⟨D1,by omega,by omega⟩,fun r H2 s2 D2 r0 r3=>?_⟩
      exact k r H2 (s1.trans s2) D2 r0 (by omega)
def sp_truths:Sp:=fun vs H Q _=>∃(a:Addr) (n:Nat) (z m:Int),vs=[.ref a,.int z,.int m]∧(Dr H a∧z=n∧n≤20∧0 < m∧m≤20)∧∀r v H',SameX a H H'→Dr H' a→r.length=n→BR r v H'→Q v H'
theorem ok_law_truths(T:Txt K mg t):FnOk Pr w K mg base CX0 3 t.law_truths t.d_law_truths ["_law_state_here","_law_many","_law_thin"] sp_truths:=by
  refine T.F_law_truths.ok sc_law_truths (fun vs H Q E h=>?_) (fun cdv A outer s H vs Q E hr h=>?_)
  · obtain⟨a,n,z,m,rfl,_⟩:=h
    rfl
  · obtain⟨a,n,z,m,rfl,⟨hD,rfl,hn,m0,m1⟩,k⟩:=h
    refine⟨_,(pss_one (ps_ret (pe_callTy call_tuple_of (by rfl) T.z_tuple boot_tuple (pa_cons (pe_comp (xs:=["_law_k"]) rfl (show CompOk ["_law_state_here","_law_many","_law_thin"] (defScope s_law_truths) _ from⟨rfl,by decide +kernel,by decide +kernel,by decide +kernel,by decide +kernel,by decide +kernel⟩) (pi_range1 rfl T.z_range (pa_cons (pv 1) pa_nil)) (fun _ _ _ _ _=>(pg_name (i:=3) (by show List.Nodup (["_law_state_here","_law_many","_law_thin","_law_k"]:List Str);decide +kernel) rfl (Or.inl rfl))) (fun _ _ _ _ _=>(pe_cmpR op_eq (pe_call (ok_law_next (w:=w) (base:=base) T) hr.m rfl T.m_law_next T.F_law_next.kp T.b_law_next .nil pass0 (pa_cons (pv 0) (pa_cons (pv 2) pa_nil))) pe_int (nomark _)))) pa_nil)))),?_⟩
    refine⟨_,rfl,_,rfl,(by omega),(by omega),comp_go (n:=n) (fun j ys H2=>∃bs:List Bool,SameX a H H2∧Dr H2 a∧ys=bs.map V.bl∧bs.length=j) (by omega) ⟨[],SameX.refl _ _,hD,rfl,rfl⟩ (fun j ys H2 ⟨bs,_,_,q,e⟩=>by rw[q,List.length_map,e]) ?_ ?_ ?_⟩
    · rintro j ys H2 hj ⟨bs,q,d2,rfl,e⟩
      refine⟨(show j < (n:Int).toNat by omega),fun y H' hy=>?_⟩
      obtain⟨rfl,rfl⟩:=hy
      refine⟨⟨[some _],rfl,rfl⟩,_,rfl,_,rfl,_,_,rfl,⟨d2,by omega,by omega⟩,fun r H3 s3 d3 r0 r1=>?_⟩
      refine⟨rfl,bs++[decide (V.int r=V.int 0)],q.trans s3,d3,?_,by simp[e]⟩
      simp
    · rintro ys H2 ⟨bs,q,d2,rfl,e⟩
      show(n:Int).toNat≤n
      omega
    · rintro ys H2 l ⟨bs,q,d2,rfl,e⟩ nl
      have s1:=same_upd (o:=.lst (bs.map V.bl)) nl
      refine⟨l,_,rfl,.inl ⟨SqL.of upd_same,fun l2 n2=>?_⟩⟩
      have s2:=same_upd (o:=.tup (bs.map V.bl)) n2
      have s12:=s1.trans s2
      exact k _ _ _ (q.trans (.of s12)) (d2.same s12) e ⟨l2,rfl,upd_same⟩
def sp_bmachine:Sp:=fun vs H Q _=>∃(a:Addr) (l:List Nat) (n:Nat) (z m:Int),vs=[.ref a,vT l,.int z,.int m]∧(Dr H a∧LOk l∧z=n∧n≤20∧0 < m∧m≤20)∧∀st ts en v H',SameX a H H'→Dr H' a→BMok l n st ts en→BM l st ts en v H'→Q v H'
theorem ok_law_machine(T:Txt K mg t):FnOk Pr w K mg base CX0 4 t.law_machine t.d_law_machine ["_law_state_here","_law_letters_here","_law_many","_law_thin"] sp_bmachine:=by
  refine T.F_law_machine.ok sc_law_machine (fun vs H Q E h=>?_) (fun cdv A outer s H vs Q E hr h=>?_)
  · obtain⟨a,l,n,z,m,rfl,_⟩:=h
    rfl
  · obtain⟨a,l,n,z,m,rfl,⟨hD,L,rfl,hn,m0,m1⟩,k⟩:=h
    have l3:=L.h3
    have z20:20 < sizeLine:=by decide
    refine⟨_,(pss_cons (ps_set (i:=4) sc_law_machine.nd rfl (Or.inl rfl) (pe_call (ok_law_truths T) hr.m rfl T.m_law_truths T.F_law_truths.kp T.b_law_truths .nil pass0 (pa_cons (pv 0) (pa_cons (pv 2) (pa_cons pe_int pa_nil))))) (pss_cons (ps_set (i:=5) sc_law_machine.nd rfl (Or.inl rfl) (pe_lst pa_nil)) (pss_cons (ps_for PassesOwn.never rfl (pi_str (pv 1)) (pg_name (i:=6) sc_law_machine.nd rfl (Or.inl rfl)) (pss_one (ps_expr (pe_bm PySem.F.plainAttrs_list PySem.F.slot_list_append PySem.F.type_list_append mt_append (pv 5) (pa_cons (pe_callTy call_tuple_of (by rfl) T.z_tuple boot_tuple (pa_cons (pe_comp (xs:=["_law_k"]) rfl (show CompOk ["_law_state_here","_law_letters_here","_law_many","_law_thin","_law_start","_law_tables","_law_letter"] (defScope s_law_machine) _ from⟨rfl,by decide +kernel,by decide +kernel,by decide +kernel,by decide +kernel,by decide +kernel⟩) (pi_range1 rfl T.z_range (pa_cons (pv 2) pa_nil)) (fun _ _ _ _ _=>(pg_name (i:=7) (by show List.Nodup (["_law_state_here","_law_letters_here","_law_many","_law_thin","_law_start","_law_tables","_law_letter","_law_k"]:List Str);decide +kernel) rfl (Or.inl rfl))) (fun _ _ _ _ _=>(pe_call (ok_law_truths (w:=w) (base:=base) T) hr.m rfl T.m_law_truths T.F_law_truths.kp T.b_law_truths .nil pass0 (pa_cons (pv 0) (pa_cons (pv 2) (pa_cons (pv 3) pa_nil)))))) pa_nil)) pa_nil))))) (pss_one (ps_ret (pe_tup (pa_cons (pv 1) (pa_cons (pv 4) (pa_cons (pe_callTy call_tuple_of (by rfl) T.z_tuple boot_tuple (pa_cons (pv 5) pa_nil)) (pa_cons (pe_call (ok_law_truths T) hr.m rfl T.m_law_truths T.F_law_truths.kp T.b_law_truths .nil pass0 (pa_cons (pv 0) (pa_cons (pv 2) (pa_cons pe_int pa_nil)))) pa_nil)))))))))),?_⟩
    refine⟨_,rfl,_,rfl,a,n,_,_,rfl,⟨hD,rfl,hn,by decide,by decide⟩,fun st sv H1 s1 d1 e1 r1=>?_⟩
    refine⟨Nat.zero_le _,fun tp ntp=>?_⟩
    have s2:=same_upd (o:=.lst []) ntp
    have k2:=upd_same (H:=H1) (a:=tp) (o:=.lst [])
    have d2:=d1.same s2
    have na:tp≠a:=fun q=>by
      subst q
      obtain⟨xs,e⟩:=d1.lst
      rw[ntp]at e;cases e
    revert s2 k2 d2
    generalize upd H1 tp (.lst [])=H2
    intro s2 k2 d2
    refine⟨_,rfl,_,rfl,L.asc,for_it (n:=l.length) (fun i σ H3=>∃v6 ys ts,σ=[some (.ref a),some (vT l),some (.int n),some (.int m),some sv,some (.ref tp),v6]∧SameX a H1 H3∧Dr H3 a∧H3 tp=some (.lst ys)∧
      Ents (fun i u H=>∃r,ts[i]? = some r∧BT r u H) ys ts.length H3∧ts.length=i∧∀m∈ts,m.length=n∧∀r∈m,r.length=n) ⟨_,[],[],rfl,.of s2,d2,k2,Ents.nil,rfl,fun _ h=>by cases h⟩ ?_ ?_⟩
    · rintro i σ H3 hi ⟨v6,ys,ts,rfl,s3,d3,k3,e3,t3,g3⟩
      refine⟨(by show i < l.toArray.size;simpa using hi),fun y G3 hy=>?_⟩
      obtain⟨rfl,c,hc,rfl⟩:=hy
      refine⟨_,rfl,.inl ⟨rfl,_,SqL.of k3⟩,?_⟩
      refine⟨_,rfl,_,rfl,(by omega),(by omega),comp_go (n:=n) (fun j zs H4=>∃b,SameX a G3 H4∧Dr H4 a∧Ents (fun i u H=>∃r,b[i]? = some r∧BR r u H) zs b.length H4∧b.length=j∧∀r∈b,r.length=n) (by omega)
        ⟨[],SameX.refl _ _,d3,Ents.nil,rfl,fun _ h=>by cases h⟩ (fun j zs H4 ⟨b,_,_,e,q,_⟩=>by rw[e.1,q]) ?_ ?_ ?_⟩
      · rintro j zs H4 hj ⟨b,s4,d4,e4,b4,g4⟩
        refine⟨(show j < (n:Int).toNat by omega),fun y H' hy=>?_⟩
        obtain⟨rfl,rfl⟩:=hy
        refine⟨⟨[some _],rfl,rfl⟩,_,rfl,_,rfl,_,rfl,a,n,_,_,rfl,⟨d4,rfl,hn,m0,m1⟩,fun r rv H5 s5 d5 e5 r5=>?_⟩
        refine⟨b++[r],s4.trans s5,d5,ents_snoc e4 (fun _ _=>BR.same (s5.tt d4)) r5,by simp[b4],fun x hx=>?_⟩
        rcases List.mem_append.mp hx with hx | hx
        · exact g4 x hx
        · rw[List.mem_singleton.mp hx];exact e5
      · rintro zs H4 ⟨b,s4,d4,e4,b4,g4⟩
        show(n:Int).toNat≤n
        omega
      · rintro zs H4 lp ⟨b,s4,d4,e4,b4,g4⟩ nl
        have t1:=same_upd (o:=.lst zs) nl
        refine⟨lp,_,rfl,.inl ⟨SqL.of upd_same,fun l2 n2=>?_⟩⟩
        have t2:=same_upd (o:=.tup zs) n2
        have t12:=t1.trans t2
        have k4:=t12 _ _ (s4 tp _ na k3)
        have ht:BT b (.ref l2) (upd (upd H4 lp (.lst zs)) l2 (.tup zs)):=⟨l2,zs,rfl,upd_same,e4.mono fun _ _ _ ⟨r,q1,q2⟩=>⟨r,q1,q2.same t12.t⟩⟩
        have d4':=d4.same t12
        have s4':SameX a G3 (upd (upd H4 lp (.lst zs)) l2 (.tup zs)):=s4.trans (.of t12)
        clear t1 t2 t12 nl n2
        revert k4 ht d4' s4'
        generalize upd (upd H4 lp (.lst zs)) l2 (.tup zs)=H5
        intro k4 ht d4' s4'
        refine⟨tp,ys,_,rfl,rfl,k4,(by rw[e3.1,t3];omega),?_⟩
        have nx:∀o,SameT H5 (upd H5 tp (.lst o)):=fun o p vs hp=>by
          by_cases q:p=tp
          · subst q;rw[hp]at k4;cases k4
          · rw[upd_ne q];exact hp
        refine⟨_,ys++[.ref l2],ts++[b],rfl,fun c' o nc hc'=>?_,?_,upd_same,ents_snoc e3 (fun _ _ h=>(h.same (s4'.tt d3)).same (nx _)) (ht.same (nx _)),by simp[t3],fun x hx=>?_⟩
        · rw[upd_ne (ne_of_none hc' ntp)];exact s4' c' o nc (s3 c' o nc hc')
        · obtain⟨x,q⟩:=d4'
          exact⟨x,by rw[upd_ne (Ne.symm na)];exact q⟩
        · rcases List.mem_append.mp hx with hx | hx
          · exact g3 x hx
          · rw[List.mem_singleton.mp hx];exact⟨b4,g4⟩
    · rintro σ H3 ⟨v6,ys,ts,rfl,s3,d3,k3,e3,t3,g3⟩
      refine⟨(by show l.toArray.size≤_;simp),?_⟩
      refine⟨_,rfl,_,rfl,_,rfl,tp,ys,rfl,.inl ⟨SqL.of k3,fun l2 n2=>?_⟩⟩
      have t1:=same_upd (o:=.tup ys) n2
      have ht:LT BT ts (.ref l2) (upd H3 l2 (.tup ys)):=⟨l2,ys,rfl,upd_same,e3.mono fun _ _ _ ⟨r,q1,q2⟩=>⟨r,q1,q2.same t1.t⟩⟩
      have d4:=d3.same t1
      have s4:SameX a H1 (upd H3 l2 (.tup ys)):=s3.trans (.of t1)
      clear t1 n2
      revert ht d4 s4
      generalize upd H3 l2 (.tup ys)=H4
      intro ht d4 s4
      refine⟨_,rfl,_,rfl,a,n,_,_,rfl,⟨d4,rfl,hn,by decide,by decide⟩,fun en ev H5 s5 d5 e5 r5=>?_⟩
      refine⟨(by show 4≤sizeLine;decide),fun p6 n6=>?_⟩
      have t6:=same_upd (o:=.tup [vT l,sv,V.ref l2,ev]) n6
      have u5:=(s5.tt d4).trans t6.t
      exact k st ts en _ _ (((s1.trans s4).trans s5).trans (.of t6)) (d5.same t6) ⟨L,hn,e1,t3,g3,e5⟩ ⟨p6,_,_,_,rfl,upd_same,r1.same ((s4.tt d1).trans u5),ht.same (fun _ _=>BT.same u5) u5,r5.same t6.t⟩
theorem comp_goI{J:It}{n k:Nat}{g:TG}{tc:TT}{te:TE}{σ:L2.St}{Q:VK}{H1:Hp}(Pv:Nat→List V→Hp→Prop)(hn:n≤10000)(h0:Pv 0 [] H1)(hl:∀i ys H,Pv i ys H→ys.length≤i)
    (hgo:∀i ys H,i < n→Pv i ys H→J.go i H∧∀x H',J.yld i H x H'→g x (σ++List.replicate k none) H' fun σ2 H2=>(∃zs,σ2=σ++zs∧zs.length=k)∧tc σ2 H2 fun b H3=>if b=true then te σ2 H3 fun v H4=>Pv (i+1) (ys++[v]) H4 else Pv (i+1) ys H3)
    (hstop:∀ys H,Pv n ys H→J.stop n H) (hend:∀ys H p,Pv n ys H→H p=none→Q (.ref p) (upd H p (.lst ys))) :
    CTailI J k g tc te σ Q H1:=by
  have z:10000 < sizeLine:=by decide
  refine⟨fun i m ys H=>m=n - i∧i≤n∧Pv i ys H,⟨n,rfl,Nat.zero_le _,h0⟩,?_⟩
  rintro i m ys H ⟨rfl,hi,p⟩
  have yl:=hl i ys H p
  by_cases hlt:i < n
  · obtain⟨a,b⟩:=hgo i ys H hlt p
    refine .inr ⟨a,by omega,fun x H' y=>?_⟩
    have c:=b x H' y
    have e1:∀ys H3,(∃m',m' < n - i∧m'=n - (i+1)∧i+1≤n∧Pv (i+1) ys H3)=Pv (i+1) ys H3:=fun ys H3=>propext ⟨fun⟨_,_,_,_,q⟩=>q,fun q=>⟨_,by omega,rfl,hlt,q⟩⟩
    simp only[e1]
    exact c
  · have e:i=n:=by omega
    subst e
    exact .inl ⟨hstop ys H p,by omega,fun q nq=>hend ys H q p nq⟩
def bit(r:List Bool)(j:Nat):Bool:=r.getD j false
def fstS(st:List Bool):List Nat:=(List.range st.length).filter (bit st)
def nxtS(m:List (List Bool))(S:List Nat):List Nat:=(List.range m.length).filter fun j=>S.any fun o=>bit (m.getD o []) j
def vS(S:List Nat):List V:=S.map fun i:Nat=>V.int (i:Int)
def ST(S:List Nat)(v:V)(H:Hp):Prop:=∃p,v=.ref p∧H p=some (.tup (vS S))
theorem ST.same{S:List Nat}{v:V}{H H':Hp}(s:SameT H H')(h:ST S v H):ST S v H':=by
  obtain⟨p,rfl,h⟩:=h
  exact⟨p,rfl,s _ _ h⟩
structure SOk(n:Nat)(S:List Nat):Prop where
  lt:∀o∈S,o < n
  len:S.length≤n
theorem SOk.filter(n:Nat)(P:Nat→Bool):SOk n ((List.range n).filter P):=⟨fun o h=>List.mem_range.mp (List.mem_filter.mp h).1,by
  have:=List.length_filter_le P (List.range n)
  rw[List.length_range]at this
  exact this⟩
theorem filt_succ(P:Nat→Bool)(i:Nat):vS ((List.range (i+1)).filter P)=if P i=true then vS ((List.range i).filter P)++[.int (i:Int)]else vS ((List.range i).filter P):=by
  rw[List.range_succ,List.filter_append]
  by_cases h:P i=true
  · rw[if_pos h,List.filter_cons_of_pos h]
    simp[vS]
  · rw[if_neg h,List.filter_cons_of_neg h]
    simp
theorem filt_len(P:Nat→Bool)(i:Nat):(vS ((List.range i).filter P)).length≤i:=by
  rw[vS,List.length_map]
  exact(SOk.filter i P).len
theorem bit_at{r:List Bool}{j:Nat}(h:j < r.length):atI (r.map V.bl) (j:Int)=some (.bl (bit r j)):=by
  refine atI_nat ?_
  rw[List.getElem?_map,List.getElem?_eq_getElem h]
  simp[bit,h]
def sp_nextset:Sp:=fun vs H Q _=>∃tv wv m S n,vs=[tv,wv]∧(BT m tv H∧ST S wv H∧m.length=n∧n≤20∧(∀r∈m,r.length=n)∧SOk n S)∧∀v H',Same H H'→ST (nxtS m S) v H'→Q v H'
theorem ok_next_set(T:Txt K mg t):FnOk Pr w K mg base CX0 1 t.next_set t.d_next_set ["table","within"] sp_nextset:=by
  refine T.F_next_set.ok sc_next_set (fun vs H Q E h=>?_) (fun cdv A outer s H vs Q E hr h=>?_)
  · obtain⟨tv,wv,m,S,n,rfl,_⟩:=h
    rfl
  · obtain⟨tv,wv,m,S,n,rfl,⟨⟨tp,tvs,rfl,htp,et⟩,⟨wp,rfl,hwp⟩,rfl,hn,hm,hS⟩,k⟩:=h
    have lt:LenV K (.ref tp) H m.length:=.inr ⟨_,SqT.of htp,et.1.symm⟩
    have sl:=hS.len
    have z20:20 < sizeLine:=by decide
    refine⟨_,(pss_one (ps_ret (pe_callTy call_tuple_of (by rfl) T.z_tuple boot_tuple (pa_cons (pe_compif (xs:=["room"]) rfl (show CompOk ["table","within"] (defScope s_next_set) _ from⟨rfl,by decide +kernel,by decide +kernel,by decide +kernel,by decide +kernel,by decide +kernel⟩) (pi_range1 rfl T.z_range (pa_cons (pe_callB call_len (by rfl) T.z_len PySem.boot_len (pa_cons (pv 0) pa_nil)) pa_nil)) (fun _ _ _ _ _=>(pg_name (i:=2) (by show List.Nodup (["table","within","room"]:List Str);decide +kernel) rfl (Or.inr rfl))) (fun _ _ _ _ _=>(pt_val (pe_callB (show CallR _ (.builtin "any") (rAll K fun bs=>bs.any id)from call_any rfl) (by rfl) T.z_any boot_any (pa_cons (pe_comp (xs:=["other"]) rfl (show CompOk ["table","within","room"] (rlS (defScope s_next_set) _) _ from⟨rfl,by decide +kernel,by decide +kernel,by decide +kernel,by decide +kernel,by decide +kernel⟩) (show PI _ _ _ (iTup K _)from pi_tup (pv 1)) (fun _ _ _ _ _=>(pg_name (i:=3) (by show List.Nodup (["table","within","room","other"]:List Str);decide +kernel) rfl (Or.inl rfl))) (fun _ _ _ _ _=>(pe_ix (show IxR _ (rIxT K)from ix_tup) (pe_ix (show IxR _ (rIxT K)from ix_tup) (pv 0) (pv 3) (fun _ _=>rfl)) (pv 2) (fun _ _=>rfl)))) pa_nil)))) (fun _ _ _ _ _=>(pv 2))) pa_nil)))),?_⟩
    refine⟨_,rfl,_,_,rfl,lt,_,rfl,(by omega),(by omega),comp_goI (n:=m.length) (fun i ys H2=>Same H H2∧ys=vS ((List.range i).filter fun j=>S.any fun o=>bit (m.getD o []) j)) (by omega) ⟨Same.refl _,rfl⟩ (fun i ys H2 q=>by rw[q.2];exact filt_len _ _) ?_ ?_ ?_⟩
    · rintro i ys H2 hi ⟨s2,rfl⟩
      refine⟨(show i < (m.length:Int).toNat by omega),fun y G2 hy=>?_⟩
      obtain⟨rfl,rfl⟩:=hy
      refine⟨⟨[some _],rfl,rfl⟩,?_⟩
      refine⟨_,rfl,wp,rfl,⟨_,SqT.of (s2 _ _ hwp)⟩,comp_go (n:=S.length) (fun j zs H3=>(Same G2 H3∧zs=((S.take j).map fun o=>bit (m.getD o []) i).map V.bl)∧zs.length=j) (by omega) ⟨⟨Same.refl _,rfl⟩,rfl⟩ (fun j zs H3 q=>q.2) ?_ ?_ ?_⟩
      · rintro j zs H3 hj ⟨⟨s3,rfl⟩,lz⟩
        have hwp3:=s3 _ _ (s2 _ _ hwp)
        have eu:(vS S)[j]? = some (.int ((S[j]:Nat):Int)):=by rw[vS,List.getElem?_map,List.getElem?_eq_getElem hj];rfl
        refine⟨⟨_,_,SqT.of hwp3,eu⟩,fun y G3 hy=>?_⟩
        obtain⟨rfl,hy⟩:=hy
        have:=hy _ (SqT.of hwp3)
        rw[eu]at this
        cases this
        have ho:S[j] < m.length:=hS.lt _ (List.getElem_mem hj)
        obtain⟨u,eu2,r,er,rp,rfl,hr2⟩:=et.2 S[j] ho
        have lr:r.length=m.length:=hm r (List.mem_of_getElem? er)
        have gr:m.getD S[j] []=r:=by rw[List.getD_eq_getElem?_getD,er];rfl
        refine⟨⟨[some _],rfl,rfl⟩,_,rfl,_,rfl,_,_,_,_,rfl,rfl,SqT.of (s3 _ _ (s2 _ _ htp)),atI_nat eu2,_,rfl,_,_,_,_,rfl,rfl,SqT.of (s3 _ _ (s2 _ _ hr2)),(by rw[show(0:Int)+(i:Int)=(i:Int) by omega];exact bit_at (by omega)),⟨s3,?_⟩,by rw[List.length_append,lz];rfl⟩
        rw[List.take_succ,List.getElem?_eq_getElem hj,List.map_append,List.map_append]
        simp[er]
      · rintro zs H3 ⟨⟨s3,rfl⟩,_⟩
        exact⟨_,SqT.of (s3 _ _ (s2 _ _ hwp)),by rw[vS,List.length_map];exact Nat.le_refl _⟩
      · rintro zs H3 lp ⟨⟨s3,rfl⟩,_⟩ nl
        have t3:=same_upd (o:=.lst (((S.take S.length).map fun o=>bit (m.getD o []) i).map V.bl)) nl
        refine⟨lp,_,rfl,SqL.of upd_same,_,rfl,?_⟩
        have ea:((S.take S.length).map fun o=>bit (m.getD o []) i).any id=(S.any fun o=>bit (m.getD o []) i):=by
          rw[List.take_length,List.any_map];rfl
        dsimp only
        rw[ea]
        have fs:=filt_succ (fun j=>S.any fun o=>bit (m.getD o []) j) i
        have s4:=s2.trans (s3.trans t3)
        by_cases hb:(S.any fun o=>bit (m.getD o []) i)=true
        · rw[if_pos hb]
          refine⟨_,rfl,s4,?_⟩
          rw[fs,if_pos hb,show(0:Int)+(i:Int)=(i:Int) by omega]
        · rw[if_neg hb]
          exact⟨s4,by rw[fs,if_neg hb]⟩
    · rintro ys H2 ⟨s2,rfl⟩
      show(m.length:Int).toNat≤m.length
      omega
    · rintro ys H2 lp ⟨s2,rfl⟩ nl
      have t1:=same_upd (o:=.lst (vS ((List.range m.length).filter fun j=>S.any fun o=>bit (m.getD o []) j))) nl
      refine⟨lp,_,rfl,.inl ⟨SqL.of upd_same,fun l2 n2=>?_⟩⟩
      have t2:=same_upd (o:=.tup (vS ((List.range m.length).filter fun j=>S.any fun o=>bit (m.getD o []) j))) n2
      exact k _ _ ((s2.trans t1).trans t2) ⟨l2,rfl,upd_same⟩
def sp_bfirst:Sp:=fun vs H Q _=>∃mv l n st ts en,vs=[mv]∧(BM l st ts en mv H∧BMok l n st ts en)∧∀v H',Same H H'→ST (fstS st) v H'→Q v H'
theorem ok_first_set(T:Txt K mg t):FnOk Pr w K mg base CX0 1 t.first_set t.d_first_set ["machine"] sp_bfirst:=by
  refine T.F_first_set.ok sc_first_set (fun vs H Q E h=>?_) (fun cdv A outer s H vs Q E hr h=>?_)
  · obtain⟨mv,l,n,st,ts,en,rfl,_⟩:=h
    rfl
  · obtain⟨mv,l,n,st,ts,en,rfl,⟨⟨p,sv,tv,ev,rfl,hp,⟨sp,rfl,hs⟩,_,_⟩,O⟩,k⟩:=h
    have sl:=O.sl
    have n20:=O.n20
    have z20:20 < sizeLine:=by decide
    refine⟨_,(pss_one (ps_ret (pe_callTy call_tuple_of (by rfl) T.z_tuple boot_tuple (pa_cons (pe_compif (xs:=["room","x"]) rfl (show CompOk ["machine"] (defScope s_first_set) _ from⟨rfl,by decide +kernel,by decide +kernel,by decide +kernel,by decide +kernel,by decide +kernel⟩) (pi_enum rfl T.z_enumerate (pa_cons (pe_ix ix_tup (pv 0) pe_int (fun _ _=>rfl)) pa_nil)) (fun _ _ _ _ _=>(show PG _ _ (gTup K 2 _)from(pg_tup rfl (pgs_cons (pg_name (i:=1) (by show List.Nodup (["machine","room","x"]:List Str);decide +kernel) rfl (Or.inl rfl)) (pgs_cons (pg_name (i:=2) (by show List.Nodup (["machine","room","x"]:List Str);decide +kernel) rfl (Or.inl rfl)) pgs_nil))))) (fun _ _ _ _ _=>(pt_val (pv 2))) (fun _ _ _ _ _=>(pv 1))) pa_nil)))),?_⟩
    refine⟨_,rfl,_,_,_,_,rfl,rfl,SqT.of hp,rfl,.tup sp,_,_,rfl,rfl,SqT.of hs,comp_goI (n:=st.length) (fun i ys H2=>Same H H2∧ys=vS ((List.range i).filter (bit st))) (by omega) ⟨Same.refl _,rfl⟩ (fun i ys H2 q=>by rw[q.2];exact filt_len _ _) ?_ ?_ ?_⟩
    · rintro i ys H2 hi ⟨s2,rfl⟩
      have hs2:=s2 _ _ hs
      have eu:(st.map V.bl)[i]? = some (.bl (bit st i)):=by rw[List.getElem?_map,List.getElem?_eq_getElem hi];simp[bit,hi]
      refine⟨⟨_,_,SqT.of hs2,eu⟩,fun y G2 hy=>?_⟩
      obtain⟨q,x,rfl,nq,rfl,hy⟩:=hy
      have:=hy _ (SqT.of hs2)
      rw[eu]at this
      cases this
      have t2:=same_upd (o:=.tup [.int (i:Int),.bl (bit st i)]) nq
      refine⟨q,_,rfl,SqT.of upd_same,rfl,_,_,rfl,_,_,rfl,rfl,⟨[some _,some _],rfl,rfl⟩,_,rfl,_,rfl,?_⟩
      have fs:=filt_succ (bit st) i
      have s4:=s2.trans t2
      dsimp only
      by_cases hb:bit st i=true
      · rw[if_pos hb]
        refine⟨_,rfl,s4,?_⟩
        rw[fs,if_pos hb]
      · rw[if_neg hb]
        exact⟨s4,by rw[fs,if_neg hb]⟩
    · rintro ys H2 ⟨s2,rfl⟩
      exact⟨_,SqT.of (s2 _ _ hs),by rw[List.length_map]⟩
    · rintro ys H2 lp ⟨s2,rfl⟩ nl
      have t1:=same_upd (o:=.lst (vS ((List.range st.length).filter (bit st)))) nl
      refine⟨lp,_,rfl,.inl ⟨SqL.of upd_same,fun l2 n2=>?_⟩⟩
      have t2:=same_upd (o:=.tup (vS ((List.range st.length).filter (bit st)))) n2
      exact k _ _ ((s2.trans t1).trans t2) ⟨l2,rfl,upd_same⟩
theorem ok_law_first(T:Txt K mg t):FnOk Pr w K mg base CX0 1 t.law_first t.d_law_first ["_law_machine_here"] sp_bfirst:=by
  refine T.F_law_first.ok sc_law_first (fun vs H Q E h=>?_) (fun cdv A outer s H vs Q E hr h=>?_)
  · obtain⟨mv,l,n,st,ts,en,rfl,_⟩:=h
    rfl
  · obtain⟨mv,l,n,st,ts,en,rfl,⟨⟨p,sv,tv,ev,rfl,hp,⟨sp,rfl,hs⟩,_,_⟩,O⟩,k⟩:=h
    have sl:=O.sl
    have n20:=O.n20
    have z20:20 < sizeLine:=by decide
    have lt:LenV K (.ref sp) H st.length:=.inr ⟨_,SqT.of hs,by rw[List.length_map]⟩
    refine⟨_,(pss_one (ps_ret (pe_callTy call_tuple_of (by rfl) T.z_tuple boot_tuple (pa_cons (pe_compif (xs:=["_law_k"]) rfl (show CompOk ["_law_machine_here"] (defScope s_law_first) _ from⟨rfl,by decide +kernel,by decide +kernel,by decide +kernel,by decide +kernel,by decide +kernel⟩) (pi_range1 rfl T.z_range (pa_cons (pe_callB call_len (by rfl) T.z_len PySem.boot_len (pa_cons (pe_ix ix_tup (pv 0) pe_int (fun _ _=>rfl)) pa_nil)) pa_nil)) (fun _ _ _ _ _=>(pg_name (i:=1) (by show List.Nodup (["_law_machine_here","_law_k"]:List Str);decide +kernel) rfl (Or.inl rfl))) (fun _ _ _ _ _=>(pt_val (pe_ix (show IxR _ (rIxT K)from ix_tup) (pe_ix (show IxR _ (rIxT K)from ix_tup) (pv 0) pe_int (fun _ _=>rfl)) (pv 1) (fun _ _=>rfl)))) (fun _ _ _ _ _=>(pv 1))) pa_nil)))),?_⟩
    refine⟨_,rfl,_,_,_,_,rfl,rfl,SqT.of hp,rfl,_,_,rfl,lt,_,rfl,(by omega),(by omega),comp_goI (n:=st.length) (fun i ys H2=>Same H H2∧ys=vS ((List.range i).filter (bit st))) (by omega) ⟨Same.refl _,rfl⟩ (fun i ys H2 q=>by rw[q.2];exact filt_len _ _) ?_ ?_ ?_⟩
    · rintro i ys H2 hi ⟨s2,rfl⟩
      refine⟨(show i < (st.length:Int).toNat by omega),fun y G2 hy=>?_⟩
      obtain⟨rfl,rfl⟩:=hy
      refine⟨⟨[some _],rfl,rfl⟩,?_⟩
      refine⟨_,rfl,_,_,_,_,rfl,rfl,SqT.of (s2 _ _ hp),rfl,_,rfl,_,_,_,_,rfl,rfl,SqT.of (s2 _ _ hs),(by rw[show(0:Int)+(i:Int)=(i:Int) by omega];exact bit_at hi),_,rfl,?_⟩
      have fs:=filt_succ (bit st) i
      dsimp only
      by_cases hb:bit st i=true
      · rw[if_pos hb]
        refine⟨_,rfl,s2,?_⟩
        rw[fs,if_pos hb,show(0:Int)+(i:Int)=(i:Int) by omega]
      · rw[if_neg hb]
        exact⟨s2,by rw[fs,if_neg hb]⟩
    · rintro ys H2 ⟨s2,rfl⟩
      show(st.length:Int).toNat≤st.length
      omega
    · rintro ys H2 lp ⟨s2,rfl⟩ nl
      have t1:=same_upd (o:=.lst (vS ((List.range st.length).filter (bit st)))) nl
      refine⟨lp,_,rfl,.inl ⟨SqL.of upd_same,fun l2 n2=>?_⟩⟩
      have t2:=same_upd (o:=.tup (vS ((List.range st.length).filter (bit st)))) n2
      exact k _ _ ((s2.trans t1).trans t2) ⟨l2,rfl,upd_same⟩
def sp_bafter:Sp:=fun vs H Q _=>∃mv wv,∃q:Nat,∃l n st ts en m S,vs=[mv,wv,.int (q:Int)]∧(BM l st ts en mv H∧BMok l n st ts en∧ST S wv H∧ts[q]? = some m∧SOk n S)∧∀v H',Same H H'→ST (nxtS m S) v H'→Q v H'
theorem ok_law_after(T:Txt K mg t):FnOk Pr w K mg base CX0 1 t.law_after t.d_law_after ["_law_machine_here","_law_some","_law_at"] sp_bafter:=by
  refine T.F_law_after.ok sc_law_after (fun vs H Q E h=>?_) (fun cdv A outer s H vs Q E hr h=>?_)
  · obtain⟨mv,wv,q,l,n,st,ts,en,m,S,rfl,_⟩:=h
    rfl
  · obtain⟨mv,wv,q,l,n,st,ts,en,m,S,rfl,⟨⟨p,sv,tv,ev,rfl,hp,⟨sp,rfl,hs⟩,⟨ap,avs,rfl,hap,ea0⟩,_⟩,O,⟨wp,rfl,hwp⟩,hq,hS⟩,k⟩:=h
    obtain⟨u0,eu0,m',em,⟨tp,tvs,rfl,htp,et⟩⟩:=ea0.2 q (List.getElem?_eq_some_iff.mp hq).1
    rw[hq]at em
    cases em
    obtain⟨rfl,hm⟩:=O.tb m (List.mem_of_getElem? hq)
    have hn:=O.n20
    have lt:LenV K (.ref sp) H m.length:=.inr ⟨_,SqT.of hs,by rw[List.length_map];exact O.sl.symm⟩
    have sl:=hS.len
    have z20:20 < sizeLine:=by decide
    refine⟨_,(pss_cons (ps_set (i:=3) sc_law_after.nd rfl (Or.inr rfl) (pe_ix ix_tup (pe_ix ix_tup (pv 0) pe_int (fun _ _=>rfl)) (pv 2) (fun _ _=>rfl))) (pss_one (ps_ret (pe_callTy call_tuple_of (by rfl) T.z_tuple boot_tuple (pa_cons (pe_compif (xs:=["_law_k"]) rfl (show CompOk ["_law_machine_here","_law_some","_law_at","_law_table"] (defScope s_law_after) _ from⟨rfl,by decide +kernel,by decide +kernel,by decide +kernel,by decide +kernel,by decide +kernel⟩) (pi_range1 rfl T.z_range (pa_cons (pe_callB call_len (by rfl) T.z_len PySem.boot_len (pa_cons (pe_ix ix_tup (pv 0) pe_int (fun _ _=>rfl)) pa_nil)) pa_nil)) (fun _ _ _ _ _=>(pg_name (i:=4) (by show List.Nodup (["_law_machine_here","_law_some","_law_at","_law_table","_law_k"]:List Str);decide +kernel) rfl (Or.inr rfl))) (fun _ _ _ _ _=>(pt_val (pe_callB (show CallR _ (.builtin "any") (rAll K fun bs=>bs.any id)from call_any rfl) (by rfl) T.z_any boot_any (pa_cons (pe_comp (xs:=["_law_j"]) rfl (show CompOk ["_law_machine_here","_law_some","_law_at","_law_table","_law_k"] (rlS (defScope s_law_after) _) _ from⟨rfl,by decide +kernel,by decide +kernel,by decide +kernel,by decide +kernel,by decide +kernel⟩) (show PI _ _ _ (iTup K _)from pi_tup (pv 1)) (fun _ _ _ _ _=>(pg_name (i:=5) (by show List.Nodup (["_law_machine_here","_law_some","_law_at","_law_table","_law_k","_law_j"]:List Str);decide +kernel) rfl (Or.inl rfl))) (fun _ _ _ _ _=>(pe_ix (show IxR _ (rIxT K)from ix_tup) (pe_ix (show IxR _ (rIxT K)from ix_tup) (pv 3) (pv 5) (fun _ _=>rfl)) (pv 4) (fun _ _=>rfl)))) pa_nil)))) (fun _ _ _ _ _=>(pv 4))) pa_nil))))),?_⟩
    refine⟨_,rfl,_,_,_,_,rfl,rfl,SqT.of hp,rfl,_,rfl,_,_,_,_,rfl,rfl,SqT.of hap,atI_nat eu0,?_⟩
    refine⟨_,rfl,_,_,_,_,rfl,rfl,SqT.of hp,rfl,_,_,rfl,lt,_,rfl,(by omega),(by omega),comp_goI (n:=m.length) (fun i ys H2=>Same H H2∧ys=vS ((List.range i).filter fun j=>S.any fun o=>bit (m.getD o []) j)) (by omega) ⟨Same.refl _,rfl⟩ (fun i ys H2 q=>by rw[q.2];exact filt_len _ _) ?_ ?_ ?_⟩
    · rintro i ys H2 hi ⟨s2,rfl⟩
      refine⟨(show i < (m.length:Int).toNat by omega),fun y G2 hy=>?_⟩
      obtain⟨rfl,rfl⟩:=hy
      refine⟨⟨[some _],rfl,rfl⟩,?_⟩
      refine⟨_,rfl,wp,rfl,⟨_,SqT.of (s2 _ _ hwp)⟩,comp_go (n:=S.length) (fun j zs H3=>(Same G2 H3∧zs=((S.take j).map fun o=>bit (m.getD o []) i).map V.bl)∧zs.length=j) (by omega) ⟨⟨Same.refl _,rfl⟩,rfl⟩ (fun j zs H3 q=>q.2) ?_ ?_ ?_⟩
      · rintro j zs H3 hj ⟨⟨s3,rfl⟩,lz⟩
        have hwp3:=s3 _ _ (s2 _ _ hwp)
        have eu:(vS S)[j]? = some (.int ((S[j]:Nat):Int)):=by rw[vS,List.getElem?_map,List.getElem?_eq_getElem hj];rfl
        refine⟨⟨_,_,SqT.of hwp3,eu⟩,fun y G3 hy=>?_⟩
        obtain⟨rfl,hy⟩:=hy
        have:=hy _ (SqT.of hwp3)
        rw[eu]at this
        cases this
        have ho:S[j] < m.length:=hS.lt _ (List.getElem_mem hj)
        obtain⟨u,eu2,r,er,rp,rfl,hr2⟩:=et.2 S[j] ho
        have lr:r.length=m.length:=hm r (List.mem_of_getElem? er)
        have gr:m.getD S[j] []=r:=by rw[List.getD_eq_getElem?_getD,er];rfl
        refine⟨⟨[some _],rfl,rfl⟩,_,rfl,_,rfl,_,_,_,_,rfl,rfl,SqT.of (s3 _ _ (s2 _ _ htp)),atI_nat eu2,_,rfl,_,_,_,_,rfl,rfl,SqT.of (s3 _ _ (s2 _ _ hr2)),(by rw[show(0:Int)+(i:Int)=(i:Int) by omega];exact bit_at (by omega)),⟨s3,?_⟩,by rw[List.length_append,lz];rfl⟩
        rw[List.take_succ,List.getElem?_eq_getElem hj,List.map_append,List.map_append]
        simp[er]
      · rintro zs H3 ⟨⟨s3,rfl⟩,_⟩
        exact⟨_,SqT.of (s3 _ _ (s2 _ _ hwp)),by rw[vS,List.length_map];exact Nat.le_refl _⟩
      · rintro zs H3 lp ⟨⟨s3,rfl⟩,_⟩ nl
        have t3:=same_upd (o:=.lst (((S.take S.length).map fun o=>bit (m.getD o []) i).map V.bl)) nl
        refine⟨lp,_,rfl,SqL.of upd_same,_,rfl,?_⟩
        have ea:((S.take S.length).map fun o=>bit (m.getD o []) i).any id=(S.any fun o=>bit (m.getD o []) i):=by
          rw[List.take_length,List.any_map];rfl
        dsimp only
        rw[ea]
        have fs:=filt_succ (fun j=>S.any fun o=>bit (m.getD o []) j) i
        have s4:=s2.trans (s3.trans t3)
        by_cases hb:(S.any fun o=>bit (m.getD o []) i)=true
        · rw[if_pos hb]
          refine⟨_,rfl,s4,?_⟩
          rw[fs,if_pos hb,show(0:Int)+(i:Int)=(i:Int) by omega]
        · rw[if_neg hb]
          exact⟨s4,by rw[fs,if_neg hb]⟩
    · rintro ys H2 ⟨s2,rfl⟩
      show(m.length:Int).toNat≤m.length
      omega
    · rintro ys H2 lp ⟨s2,rfl⟩ nl
      have t1:=same_upd (o:=.lst (vS ((List.range m.length).filter fun j=>S.any fun o=>bit (m.getD o []) j))) nl
      refine⟨lp,_,rfl,.inl ⟨SqL.of upd_same,fun l2 n2=>?_⟩⟩
      have t2:=same_upd (o:=.tup (vS ((List.range m.length).filter fun j=>S.any fun o=>bit (m.getD o []) j))) n2
      exact k _ _ ((s2.trans t1).trans t2) ⟨l2,rfl,upd_same⟩
def addS(Ts:List (List Nat))(S:List Nat):List (List Nat):=if S∈Ts then Ts else Ts++[S]
def growS(ts:List (List (List Bool)))(Ts:List (List Nat))(S:List Nat):List (List Nat):=ts.foldl (fun acc m=>addS acc (nxtS m S)) Ts
def bfs(st:List Bool)(ts:List (List (List Bool))):Nat→List (List Nat)
  | 0=>[fstS st]
  | i+1=>match (bfs st ts i)[i]? with
    | some S=>growS ts (bfs st ts i) S
    | none=>bfs st ts i
theorem bfs_succ{st:List Bool}{ts:List (List (List Bool))}{i:Nat}{S:List Nat}(h:(bfs st ts i)[i]? = some S):bfs st ts (i+1)=growS ts (bfs st ts i) S:=by rw[bfs,h]
structure Run(st:List Bool)(ts:List (List (List Bool)))(i:Nat):Prop where
  go:∀j,j < i→j < (bfs st ts j).length∧(bfs st ts j).length≤20
theorem Run.zero{st:List Bool}{ts:List (List (List Bool))}:Run st ts 0:=⟨fun j h=>absurd h (Nat.not_lt_zero j)⟩
theorem Run.succ{st:List Bool}{ts:List (List (List Bool))}{i:Nat}(h:Run st ts i)(h1:i < (bfs st ts i).length)(h2:(bfs st ts i).length≤20):Run st ts (i+1):=⟨fun j hj=>by
  by_cases e:j=i
  · subst e;exact⟨h1,h2⟩
  · exact h.go j (by omega)⟩
theorem Run.uniq{st:List Bool}{ts:List (List (List Bool))}{i j:Nat}(h:Run st ts i)(h':Run st ts j)(e:(bfs st ts i).length≤i∨20 < (bfs st ts i).length)(e':(bfs st ts j).length≤j∨20 < (bfs st ts j).length):i=j:=by
  rcases Nat.lt_trichotomy i j with q | q | q
  · have:=h'.go i q;omega
  · exact q
  · have:=h.go j q;omega
theorem addS_mem{Ts:List (List Nat)}{S x:List Nat}(h:x∈addS Ts S):x∈Ts∨x=S:=by
  unfold addS at h
  split at h
  · exact .inl h
  · rcases List.mem_append.mp h with h | h
    · exact .inl h
    · exact .inr (List.mem_singleton.mp h)
theorem addS_get{Ts:List (List Nat)}{S x:List Nat}{i:Nat}(h:Ts[i]? = some x):(addS Ts S)[i]? = some x:=by
  unfold addS
  split
  · exact h
  · rw[List.getElem?_append_left (List.getElem?_eq_some_iff.mp h).1];exact h
theorem addS_len{Ts:List (List Nat)}{S:List Nat}:Ts.length≤(addS Ts S).length∧(addS Ts S).length≤Ts.length+1:=by
  unfold addS
  split
  · omega
  · simp
def dS(S:List Nat):PyData:=.tuple ((S.map fun i:Nat=>(i:Int)).map PyData.int)
theorem vS_eq(S:List Nat):vS S=(S.map fun i:Nat=>(i:Int)).map V.int:=by rw[vS,List.map_map];rfl
theorem ST.is{S:List Nat}{v:V}{H:Hp}(h:ST S v H):Is K H v (dS S):=by
  obtain⟨p,rfl,h⟩:=h
  rw[vS_eq]at h
  exact .tup (SqT.of h) (isAll_ints _)
theorem dS_cl(S:List Nat):(dS S).canLay0=true:=by rw[dS,PyData.canLay0];exact cl_ints _
theorem dS_dp(S:List Nat):(dS S).depth≤1:=by have:=dp_ints (S.map fun i:Nat=>(i:Int));rw[dS,PyData.depth];omega
theorem dS_sh(S:List Nat):shaped (dS S)=true:=by
  have:=dS_dp S
  simp[shaped,dS_cl];omega
theorem dS_nm(S S':List Nat):noMix (dS S) (dS S')=true:=by rw[dS,dS,noMix];exact nma_ints _ _
theorem dS_inj{S S':List Nat}(h:dS S=dS S'):S=S':=by
  unfold dS at h
  injection h with h
  have:=(List.map_inj_right (fun _ _ z=>by injection z)).mp h
  exact(List.map_inj_right (fun _ _ z=>by exact Int.ofNat.inj z)).mp this
def SL(Ts:List (List Nat))(a:Addr)(H:Hp):Prop:=∃vs,H a=some (.lst vs)∧Ents (fun i u H=>∃S,Ts[i]? = some S∧ST S u H) vs Ts.length H
theorem dl_cl:∀Ts:List (List Nat),PyData.canLayAll0 (Ts.map dS)=true
  | []=>by simp[PyData.canLayAll0]
  | S::Ts=>by simp[PyData.canLayAll0,dS_cl,dl_cl Ts]
theorem dl_dp:∀Ts:List (List Nat),PyData.depthAll (Ts.map dS)≤1
  | []=>by simp[PyData.depthAll]
  | S::Ts=>by have:=dl_dp Ts;have:=dS_dp S;simp[PyData.depthAll];omega
theorem dl_sh(Ts:List (List Nat)):shaped (.list (Ts.map dS))=true:=by
  have:=dl_dp Ts
  simp[shaped,PyData.canLay0,dl_cl Ts,PyData.depth];omega
theorem dl_nm(Ts:List (List Nat))(S:List Nat):∀e∈Ts.map dS,noMix e (dS S)=true:=fun e he=>by
  obtain⟨S',_,rfl⟩:=List.mem_map.mp he
  exact dS_nm S' S
theorem isAll_of{Ts:List (List Nat)}:∀{vs:List V} {H:Hp},Ents (fun i u H=>∃S,Ts[i]? = some S∧ST S u H) vs Ts.length H→IsAll K H vs (Ts.map dS):=by
  induction Ts with
  | nil=>
    intro vs H e
    have:=e.1
    cases vs with
    | nil=>exact .nil
    | cons _ _=>simp at this
  | cons S Ts ih=>
    intro vs H e
    cases vs with
    | nil=>have:=e.1;simp at this
    | cons v vs=>
      obtain⟨u,e1,S',e2,e3⟩:=e.2 0 (by simp)
      have q1:v=u:=by simpa using e1
      have q2:S=S':=by simpa using e2
      subst q1 q2
      refine .cons e3.is (ih ⟨by have:=e.1;simpa using this,fun j hj=>?_⟩)
      obtain⟨u,f1,S',f2,f3⟩:=e.2 (j+1) (by simpa using hj)
      exact⟨u,by simpa using f1,S',by simpa using f2,f3⟩
theorem SL.is{Ts:List (List Nat)}{a:Addr}{H:Hp}(h:SL Ts a H):Is K H (.ref a) (.list (Ts.map dS)):=by
  obtain⟨vs,h,e⟩:=h
  exact .lst (SqL.of h) (isAll_of e)
theorem any_S(Ts:List (List Nat))(S:List Nat):((Ts.map dS).any fun y=>PySem.Spec.same y (dS S))=decide (S∈Ts):=by
  rw[List.any_map]
  by_cases h:S∈Ts
  · rw[decide_eq_true h,List.any_eq_true]
    exact⟨S,h,same_refl _⟩
  · rw[decide_eq_false h,List.any_eq_false]
    intro x hx q
    exact h (dS_inj (eq_of_same _ _ q)▸hx)
theorem SL.at{Ts:List (List Nat)}{a:Addr}{H:Hp}(h:SL Ts a H){i:Nat}{S:List Nat}(e:Ts[i]? = some S):∃vs u,H a=some (.lst vs)∧vs[i]? = some u∧ST S u H:=by
  obtain⟨vs,h,en⟩:=h
  obtain⟨u,e1,S',e2,e3⟩:=en.2 i (List.getElem?_eq_some_iff.mp e).1
  rw[e]at e2
  cases e2
  exact⟨vs,u,h,e1,e3⟩
theorem SL.len{Ts:List (List Nat)}{a:Addr}{H:Hp}(h:SL Ts a H):LenV K (.ref a) H Ts.length:=by
  obtain⟨vs,h,en⟩:=h
  exact .inl ⟨_,SqL.of h,en.1.symm⟩
theorem SL.push{Ts:List (List Nat)}{a:Addr}{H:Hp}{S:List Nat}{u:V}{vs:List V}(h:H a=some (.lst vs))(e:Ents (fun i u H=>∃S,Ts[i]? = some S∧ST S u H) vs Ts.length H)(q:ST S u H):SL (Ts++[S]) a (upd H a (.lst (vs++[u]))):=by
  have nx:SameT H (upd H a (.lst (vs++[u]))):=fun p ws hp=>by
    by_cases z:p=a
    · subst z;rw[hp]at h;cases h
    · rw[upd_ne z];exact hp
  exact⟨_,upd_same,ents_snoc e (fun _ _=>ST.same nx) (q.same nx)⟩
theorem grow_take{ts:List (List (List Bool))}{Ts:List (List Nat)}{S:List Nat}{q:Nat}{m:List (List Bool)}(h:ts[q]? = some m):growS (ts.take (q+1)) Ts S=addS (growS (ts.take q) Ts S) (nxtS m S):=by
  rw[growS,List.take_succ,h,List.foldl_append]
  rfl
def spx_sets(t:Adr):Sp:=fun vs H Q E=>∃mv l n st ts en,vs=[mv]∧(BM l st ts en mv H∧BMok l n st ts en)∧
  (∀i a H',Same H H'→SL (bfs st ts i) a H'→Run st ts i→(bfs st ts i).length≤i→(bfs st ts i).length≤20→(∀S∈bfs st ts i,SOk n S)→Q (.ref a) H')∧
  (∀i H',Same H H'→Run st ts i→20 < (bfs st ts i).length→E (.ref t.TooGreat) none H')
theorem okx_sets_of(T:Txt K mg t):FnOk Pr w K mg base (CX1 Pr w) 2 t.sets_of t.d_sets_of ["machine"] (spx_sets t):=by
  refine T.F_sets_of.okx sc_sets_of (fun vs H Q E h=>?_) (fun cdv A outer s H vs Q E hr h=>?_)
  · obtain⟨mv,l,n,st,ts,en,rfl,_⟩:=h
    rfl
  · obtain⟨mv,l,n,st,ts,en,rfl,⟨hM,O⟩,k0,k1⟩:=h
    have n20:=O.n20
    have z40:40 < sizeLine:=by decide
    have l3:=O.lk.h3
    have tl:=O.tl
    refine⟨_,(pss_cons (ps_set (i:=1) sc_sets_of.nd rfl (Or.inl rfl) (pe_lst (pa_cons (pe_call (ok_first_set T) hr.m rfl T.m_first_set T.F_first_set.kp T.b_first_set .nil pass0 (pa_cons (pv 0) pa_nil)) pa_nil))) (pss_cons (ps_set (i:=2) sc_sets_of.nd rfl (Or.inl rfl) pe_int) (pss_cons (ps_while thru_cx.own (pt_cmpR op_lt (pv 2) (pe_callB call_len (by rfl) T.z_len PySem.boot_len (pa_cons (pv 1) pa_nil)) (nomark _)) (pss_cons (PS.nox (ps_for PassesOwn.never rfl (pi_tup (pe_ix ix_tup (pv 0) pe_int (fun _ _=>rfl))) (pg_name (i:=3) sc_sets_of.nd rfl (Or.inl rfl)) (pss_cons (ps_set (i:=4) sc_sets_of.nd rfl (Or.inl rfl) (pe_call (ok_next_set T) hr.m rfl T.m_next_set T.F_next_set.kp T.b_next_set .nil pass0 (pa_cons (pv 3) (pa_cons (pe_ix ix_list (pv 1) (pv 2) (fun _ _=>rfl)) pa_nil)))) (pss_one (ps_if (pt_cmpR (op_notInD hr.units1) (pv 4) (pv 1) (by with_unfolding_all rfl)) (pss_one (ps_expr (pe_bm PySem.F.plainAttrs_list PySem.F.slot_list_append PySem.F.type_list_append mt_append (pv 1) (pa_cons (pv 4) pa_nil)))) pss_nil))))) (pss_cons (ps_if (pt_cmpR op_gt (pe_callB call_len (by rfl) T.z_len PySem.boot_len (pa_cons (pv 1) pa_nil)) (pe_glob (v:=.int 20) rfl T.c_MOST_SETS.choose_spec ⟨_,rfl⟩) (nomark _)) (pss_one (ps_raise thru_cx rfl T.x_TooGreat.ex rfl T.m_TooGreat (pa_cons pe_str pa_nil))) pss_nil) (pss_one (ps_set (i:=2) sc_sets_of.nd rfl (Or.inl rfl) (pe_op op_add (pv 2) pe_int)))))) (pss_one (ps_ret (pv 1)))))),?_⟩
    refine⟨_,rfl,mv,l,n,st,ts,en,rfl,⟨hM,O⟩,fun v H1 s1 q1=>⟨(by show 1≤sizeLine;decide),fun ap nap=>?_⟩⟩
    have t1:=same_upd (o:=.lst [v]) nap
    have sl1:SL (bfs st ts 0) ap (upd H1 ap (.lst [v])):=⟨[v],upd_same,rfl,fun j hj=>by
      have e:j=0:=by have:j < 1:=hj;omega
      subst e
      exact⟨v,rfl,fstS st,rfl,q1.same t1.t⟩⟩
    have nap0:H ap=none:=by
      cases e:H ap with
      | none=>rfl
      | some o=>rw[s1 _ _ e]at nap;cases nap
    have s2:=s1.trans t1
    clear t1 nap s1 q1
    revert sl1 s2
    generalize upd H1 ap (.lst [v])=H2
    intro sl1 s2
    refine⟨fun m σ H'=>∃i v3 v4,σ=[some mv,some (.ref ap),some (.int ((i:Nat):Int)),v3,v4]∧m=21 - i∧Same H H'∧SL (bfs st ts i) ap H'∧Run st ts i∧(bfs st ts i).length≤20∧∀S∈bfs st ts i,SOk n S,
      ⟨_,0,_,_,rfl,rfl,s2,sl1,Run.zero,by show 1≤20;decide,fun S hS=>by
        rw[List.mem_singleton.mp hS,← O.sl];exact SOk.filter _ _⟩,?_⟩
    rintro m σ H' ⟨i,v3,v4,rfl,rfl,s3,sl3,run,l20,ok3⟩
    refine⟨_,rfl,_,rfl,_,_,rfl,sl3.len,_,_,rfl,rfl,_,rfl,?_⟩
    refine iteP (fun h0=>?_) (fun h0=>?_)
    · have hi:i < (bfs st ts i).length:=by omega
      obtain⟨S,eS⟩:∃S,(bfs st ts i)[i]? = some S:=⟨_,List.getElem?_eq_getElem hi⟩
      refine⟨fun σ' H''=>∃m',m' < 21 - i∧∃i v3 v4,σ'=[some mv,some (.ref ap),some (.int ((i:Nat):Int)),v3,v4]∧m'=21 - i∧Same H H''∧SL (bfs st ts i) ap H''∧Run st ts i∧(bfs st ts i).length≤20∧∀S∈bfs st ts i,SOk n S,fun σ' H'' q=>q,?_⟩
      have hM3:=hM.same s3.t
      obtain⟨p,sv,tv,ev,rfl,hp,_,⟨tp,tvs,rfl,htp,et⟩,_⟩:=id hM3
      have hM0:=hM
      refine⟨_,rfl,_,_,_,_,rfl,rfl,SqT.of hp,rfl,tp,rfl,⟨_,SqT.of htp⟩,for_it (n:=ts.length) (fun q σ H4=>∃v3 v4,σ=[some (.ref p),some (.ref ap),some (.int ((i:Nat):Int)),v3,v4]∧Same H H4∧SameT H' H4∧SL (growS (ts.take q) (bfs st ts i) S) ap H4∧
        (growS (ts.take q) (bfs st ts i) S).length≤20+q∧(growS (ts.take q) (bfs st ts i) S)[i]? = some S∧∀S'∈growS (ts.take q) (bfs st ts i) S,SOk n S') ⟨_,_,rfl,s3,SameT.refl _,sl3,l20,eS,ok3⟩ ?_ ?_⟩
      · rintro q σ H4 hq ⟨w3,w4,rfl,s4,u4,sl4,l4,e4,ok4⟩
        obtain⟨u,eu,mt,em,hu⟩:=et.2 q hq
        refine⟨⟨_,_,SqT.of (u4 _ _ htp),eu⟩,fun y G4 hy=>?_⟩
        obtain⟨rfl,hy⟩:=hy
        have:=hy _ (SqT.of (u4 _ _ htp))
        rw[eu]at this
        cases this
        obtain⟨vs4,u5,h4,e5,st5⟩:=sl4.at e4
        have ob:=O.tb mt (List.mem_of_getElem? em)
        refine⟨_,rfl,_,rfl,_,rfl,_,_,_,_,rfl,rfl,SqL.of h4,atI_nat e5,u,u5,mt,S,n,rfl,⟨hu.same u4,st5,ob.1,n20,ob.2,ok4 _ (List.mem_of_getElem? e4)⟩,fun av H5 s5 q5=>?_⟩
        have sl5:SL (growS (ts.take q) (bfs st ts i) S) ap H5:=by
          obtain⟨vs,h,e⟩:=sl4
          exact⟨vs,s5 _ _ h,e.mono fun _ _ _ ⟨r,a1,a2⟩=>⟨r,a1,a2.same s5.t⟩⟩
        refine⟨_,rfl,_,rfl,_,_,q5.is,sl5.is,dS_sh _,dl_sh _,dl_nm _ _,_,rfl,?_⟩
        rw[any_S]
        have gt:=grow_take (Ts:=bfs st ts i) (S:=S) em
        have al:=@addS_len (growS (ts.take q) (bfs st ts i) S) (nxtS mt S)
        have oks:∀S'∈addS (growS (ts.take q) (bfs st ts i) S) (nxtS mt S),SOk n S':=fun S' hS'=>by
          rcases addS_mem hS' with z | z
          · exact ok4 _ z
          · rw[z,← ob.1];exact SOk.filter _ _
        have eg:=addS_get (S:=nxtS mt S) e4
        dsimp only
        by_cases hin:nxtS mt S∈growS (ts.take q) (bfs st ts i) S
        · rw[decide_eq_true hin]
          (try refine iteF ?_)
          have ad:addS (growS (ts.take q) (bfs st ts i) S) (nxtS mt S)=growS (ts.take q) (bfs st ts i) S:=if_pos hin
          refine⟨_,_,rfl,s4.trans s5,u4.trans s5.t,?_,?_,?_,?_⟩
          · rw[gt,ad];exact sl5
          · rw[gt];omega
          · rw[gt];exact eg
          · rw[gt];exact oks
        · rw[decide_eq_false hin]
          (try refine iteT ?_)
          have ad:addS (growS (ts.take q) (bfs st ts i) S) (nxtS mt S)=growS (ts.take q) (bfs st ts i) S++[nxtS mt S]:=if_neg hin
          obtain⟨vs5,h5,e5'⟩:=sl5
          refine⟨_,rfl,.inl ⟨rfl,_,SqL.of h5⟩,_,rfl,ap,vs5,av,rfl,rfl,h5,(by rw[e5'.1];omega),?_⟩
          refine⟨_,_,rfl,fun c o hc=>?_,fun c ws hc=>?_,?_,?_,?_,?_⟩
          · rw[upd_ne (ne_of_none hc nap0)];exact s5 _ _ (s4 _ _ hc)
          · have q0:=s5.t _ _ (u4 _ _ hc)
            by_cases z:c=ap
            · subst z;rw[q0]at h5;cases h5
            · rw[upd_ne z];exact q0
          · rw[gt,ad];exact SL.push h5 e5' q5
          · rw[gt];omega
          · rw[gt];exact eg
          · rw[gt];exact oks
      · rintro σ H4 ⟨w3,w4,rfl,s4,u4,sl4,l4,e4,ok4⟩
        rw[List.take_length]at sl4 l4 e4 ok4
        rw[← bfs_succ eS]at sl4 l4 e4 ok4
        have run':=run.succ hi l20
        refine⟨⟨_,SqT.of (u4 _ _ htp),by rw[et.1];exact Nat.le_refl _⟩,?_⟩
        refine⟨_,rfl,_,_,rfl,sl4.len,_,_,rfl,rfl,_,rfl,?_⟩
        refine iteP (fun h1=>?_) (fun h1=>?_)
        · exact⟨(by show 1≤sizeLine;decide),k1 (i+1) H4 s4 run' (by omega)⟩
        · refine⟨_,rfl,_,_,rfl,rfl,21 - (i+1),by omega,i+1,w3,w4,?_,rfl,s4,sl4,run',by omega,ok4⟩
          rw[show((i+1:Nat):Int)=(i:Int)+1 by omega]
          rfl
    · refine⟨_,rfl,?_⟩
      exact k0 i ap H' s3 sl3 run (by omega) l20 ok3
def sp_allsets:Sp:=fun vs H Q _=>∃mv l n st ts en,vs=[mv,.int 20]∧(BM l st ts en mv H∧BMok l n st ts en)∧
  ∀i a H',Same H H'→SL (bfs st ts i) a H'→Run st ts i→(bfs st ts i).length≤i∨20 < (bfs st ts i).length→Q (.ref a) H'
theorem ok_law_all_sets(T:Txt K mg t):FnOk Pr w K mg base CX0 2 t.law_all_sets t.d_law_all_sets ["_law_machine_here","_law_most"] sp_allsets:=by
  refine T.F_law_all_sets.ok sc_law_all_sets (fun vs H Q E h=>?_) (fun cdv A outer s H vs Q E hr h=>?_)
  · obtain⟨mv,l,n,st,ts,en,rfl,_⟩:=h
    rfl
  · obtain⟨mv,l,n,st,ts,en,rfl,⟨hM,O⟩,k0⟩:=h
    have n20:=O.n20
    have z40:40 < sizeLine:=by decide
    have l3:=O.lk.h3
    have tl:=O.tl
    refine⟨_,(pss_cons (ps_set (i:=2) sc_law_all_sets.nd rfl (Or.inl rfl) (pe_lst (pa_cons (pe_call (ok_law_first T) hr.m rfl T.m_law_first T.F_law_first.kp T.b_law_first .nil pass0 (pa_cons (pv 0) pa_nil)) pa_nil))) (pss_cons (ps_set (i:=3) sc_law_all_sets.nd rfl (Or.inl rfl) pe_int) (pss_cons (ps_while PassesOwn.never (PW.pt (pw_and (pt_cmpR op_lt (pv 3) (pe_callB call_len (by rfl) T.z_len PySem.boot_len (pa_cons (pv 2) pa_nil)) (nomark _)) (pw_and1 (pt_cmpR op_le (pe_callB call_len (by rfl) T.z_len PySem.boot_len (pa_cons (pv 2) pa_nil)) (pv 1) (nomark _))))) (pss_cons (ps_for PassesOwn.never rfl (pi_range1 rfl T.z_range (pa_cons (pe_callB call_len (by rfl) T.z_len PySem.boot_len (pa_cons (pe_ix ix_tup (pv 0) pe_int (fun _ _=>rfl)) pa_nil)) pa_nil)) (pg_name (i:=4) sc_law_all_sets.nd rfl (Or.inl rfl)) (pss_cons (ps_set (i:=5) sc_law_all_sets.nd rfl (Or.inl rfl) (pe_call (ok_law_after T) hr.m rfl T.m_law_after T.F_law_after.kp T.b_law_after .nil pass0 (pa_cons (pv 0) (pa_cons (pe_ix ix_list (pv 2) (pv 3) (fun _ _=>rfl)) (pa_cons (pv 4) pa_nil))))) (pss_one (ps_if (pt_cmpR (op_notInD hr.units1) (pv 5) (pv 2) (by with_unfolding_all rfl)) (pss_one (ps_expr (pe_bm PySem.F.plainAttrs_list PySem.F.slot_list_append PySem.F.type_list_append mt_append (pv 2) (pa_cons (pv 5) pa_nil)))) pss_nil)))) (pss_one (ps_aug (i:=3) sc_law_all_sets.nd rfl (Or.inl rfl) pe_int ip_add)))) (pss_one (ps_ret (pv 2)))))),?_⟩
    refine⟨_,rfl,mv,l,n,st,ts,en,rfl,⟨hM,O⟩,fun v H1 s1 q1=>⟨(by show 1≤sizeLine;decide),fun ap nap=>?_⟩⟩
    have t1:=same_upd (o:=.lst [v]) nap
    have sl1:SL (bfs st ts 0) ap (upd H1 ap (.lst [v])):=⟨[v],upd_same,rfl,fun j hj=>by
      have e:j=0:=by have:j < 1:=hj;omega
      subst e
      exact⟨v,rfl,fstS st,rfl,q1.same t1.t⟩⟩
    have nap0:H ap=none:=by
      cases e:H ap with
      | none=>rfl
      | some o=>rw[s1 _ _ e]at nap;cases nap
    have s2:=s1.trans t1
    clear t1 nap s1 q1
    revert sl1 s2
    generalize upd H1 ap (.lst [v])=H2
    intro sl1 s2
    refine⟨fun m σ H'=>∃i v3 v4,σ=[some mv,some (.int 20),some (.ref ap),some (.int ((i:Nat):Int)),v3,v4]∧m=21 - i∧Same H H'∧SL (bfs st ts i) ap H'∧Run st ts i∧(bfs st ts i).length≤23∧∀S∈bfs st ts i,SOk n S,
      ⟨_,0,_,_,rfl,rfl,s2,sl1,Run.zero,by show 1≤23;decide,fun S hS=>by
        rw[List.mem_singleton.mp hS,← O.sl];exact SOk.filter _ _⟩,?_⟩
    rintro m σ H' ⟨i,v3,v4,rfl,rfl,s3,sl3,run,l23,ok3⟩
    refine⟨_,rfl,_,rfl,_,_,rfl,sl3.len,_,_,rfl,rfl,_,rfl,?_⟩
    refine iteP (fun h0=>?_) (fun h0=>?_)
    refine⟨_,rfl,_,_,rfl,sl3.len,_,rfl,_,_,rfl,rfl,_,rfl,?_⟩
    dsimp only
    refine iteP (fun h9=>?_) (fun h9=>?_)
    · have l20:(bfs st ts i).length≤20:=by omega
      have hi:i < (bfs st ts i).length:=by omega
      obtain⟨S,eS⟩:∃S,(bfs st ts i)[i]? = some S:=⟨_,List.getElem?_eq_getElem hi⟩
      refine⟨fun σ' H''=>∃m',m' < 21 - i∧∃i v3 v4,σ'=[some mv,some (.int 20),some (.ref ap),some (.int ((i:Nat):Int)),v3,v4]∧m'=21 - i∧Same H H''∧SL (bfs st ts i) ap H''∧Run st ts i∧(bfs st ts i).length≤23∧∀S∈bfs st ts i,SOk n S,fun σ' H'' q=>q,?_⟩
      have hM3:=hM.same s3.t
      obtain⟨p,sv,tv,ev,rfl,hp,_,⟨tp,tvs,rfl,htp,et⟩,_⟩:=id hM3
      have ll:LenV K (vT l) H' (tx l).length:=⟨by rw[tx_len];omega,rfl⟩
      rw[tx_len]at ll
      refine⟨_,rfl,_,_,_,_,rfl,rfl,SqT.of hp,rfl,_,_,rfl,ll,_,rfl,(by omega),(by omega),for_it (n:=ts.length) (fun q σ H4=>∃v3 v4,σ=[some (.ref p),some (.int 20),some (.ref ap),some (.int ((i:Nat):Int)),v3,v4]∧Same H H4∧SameT H' H4∧SL (growS (ts.take q) (bfs st ts i) S) ap H4∧
        (growS (ts.take q) (bfs st ts i) S).length≤20+q∧(growS (ts.take q) (bfs st ts i) S)[i]? = some S∧∀S'∈growS (ts.take q) (bfs st ts i) S,SOk n S') ⟨_,_,rfl,s3,SameT.refl _,sl3,l20,eS,ok3⟩ ?_ ?_⟩
      · rintro q σ H4 hq ⟨w3,w4,rfl,s4,u4,sl4,l4,e4,ok4⟩
        obtain⟨u,eu,mt,em,hu⟩:=et.2 q hq
        refine⟨(show q < (l.length:Int).toNat by omega),fun y G4 hy=>?_⟩
        obtain⟨rfl,rfl⟩:=hy
        obtain⟨vs4,u5,h4,e5,st5⟩:=sl4.at e4
        have ob:=O.tb mt (List.mem_of_getElem? em)
        refine⟨_,rfl,_,rfl,_,rfl,_,_,_,_,rfl,rfl,SqL.of h4,atI_nat e5,_,rfl,.ref p,u5,q,l,n,st,ts,en,mt,S,(by rw[show(0:Int)+(q:Int)=(q:Int) by omega];rfl),⟨hM3.same u4,O,st5,em,ok4 _ (List.mem_of_getElem? e4)⟩,fun av H5 s5 q5=>?_⟩
        have sl5:SL (growS (ts.take q) (bfs st ts i) S) ap H5:=by
          obtain⟨vs,h,e⟩:=sl4
          exact⟨vs,s5 _ _ h,e.mono fun _ _ _ ⟨r,a1,a2⟩=>⟨r,a1,a2.same s5.t⟩⟩
        refine⟨_,rfl,_,rfl,_,_,q5.is,sl5.is,dS_sh _,dl_sh _,dl_nm _ _,_,rfl,?_⟩
        rw[any_S]
        have gt:=grow_take (Ts:=bfs st ts i) (S:=S) em
        have al:=@addS_len (growS (ts.take q) (bfs st ts i) S) (nxtS mt S)
        have oks:∀S'∈addS (growS (ts.take q) (bfs st ts i) S) (nxtS mt S),SOk n S':=fun S' hS'=>by
          rcases addS_mem hS' with z | z
          · exact ok4 _ z
          · rw[z,← ob.1];exact SOk.filter _ _
        have eg:=addS_get (S:=nxtS mt S) e4
        dsimp only
        by_cases hin:nxtS mt S∈growS (ts.take q) (bfs st ts i) S
        · rw[decide_eq_true hin]
          (try refine iteF ?_)
          have ad:addS (growS (ts.take q) (bfs st ts i) S) (nxtS mt S)=growS (ts.take q) (bfs st ts i) S:=if_pos hin
          refine⟨_,_,rfl,s4.trans s5,u4.trans s5.t,?_,?_,?_,?_⟩
          · rw[gt,ad];exact sl5
          · rw[gt];omega
          · rw[gt];exact eg
          · rw[gt];exact oks
        · rw[decide_eq_false hin]
          (try refine iteT ?_)
          have ad:addS (growS (ts.take q) (bfs st ts i) S) (nxtS mt S)=growS (ts.take q) (bfs st ts i) S++[nxtS mt S]:=if_neg hin
          obtain⟨vs5,h5,e5'⟩:=sl5
          refine⟨_,rfl,.inl ⟨rfl,_,SqL.of h5⟩,_,rfl,ap,vs5,av,rfl,rfl,h5,(by rw[e5'.1];omega),?_⟩
          refine⟨_,_,rfl,fun c o hc=>?_,fun c ws hc=>?_,?_,?_,?_,?_⟩
          · rw[upd_ne (ne_of_none hc nap0)];exact s5 _ _ (s4 _ _ hc)
          · have q0:=s5.t _ _ (u4 _ _ hc)
            by_cases z:c=ap
            · subst z;rw[q0]at h5;cases h5
            · rw[upd_ne z];exact q0
          · rw[gt,ad];exact SL.push h5 e5' q5
          · rw[gt];omega
          · rw[gt];exact eg
          · rw[gt];exact oks
      · rintro σ H4 ⟨w3,w4,rfl,s4,u4,sl4,l4,e4,ok4⟩
        rw[List.take_length]at sl4 l4 e4 ok4
        rw[← bfs_succ eS]at sl4 l4 e4 ok4
        have run':=run.succ hi l20
        refine⟨(show(l.length:Int).toNat≤ts.length by omega),?_⟩
        refine⟨_,rfl,_,_,rfl,rfl,21 - (i+1),by omega,i+1,w3,w4,?_,rfl,s4,sl4,run',by omega,ok4⟩
        rw[show((i+1:Nat):Int)=(i:Int)+1 by omega]
        rfl
    · refine⟨_,rfl,?_⟩
      exact k0 i ap H' s3 sl3 run (.inr (by omega))
    · refine⟨_,rfl,?_⟩
      exact k0 i ap H' s3 sl3 run (.inl (by omega))
def fS(ts:List (List (List Bool)))(k:Nat)(S:List Nat):List Nat:=nxtS (ts.getD k []) S
theorem fS_at{ts:List (List (List Bool))}{k:Nat}{m:List (List Bool)}(h:ts[k]? = some m)(S:List Nat):fS ts k S=nxtS m S:=by rw[fS,List.getD_eq_getElem?_getD,h];rfl
theorem grow_SI{st:List Bool}{ts:List (List (List Bool))}(hL:ts.length=1∨ts.length=2∨ts.length=3){i:Nat}{Ts:List (List Nat)}{S:List Nat}(hS:Ts[i]? = some S)(h:∃Ws,SI ts.length (fS ts) (fstS st) (i * ts.length) Ts Ws) :
    ∀q,q≤ts.length→(growS (ts.take q) Ts S)[i]? = some S∧∃Ws,SI ts.length (fS ts) (fstS st) (i * ts.length+q) (growS (ts.take q) Ts S) Ws
  | 0,_=>⟨hS,h⟩
  | q+1,hq=>by
    obtain⟨e,Ws,I⟩:=grow_SI hL hS h q (by omega)
    obtain⟨m,hm⟩:∃m,ts[q]? = some m:=⟨_,List.getElem?_eq_getElem (by omega)⟩
    obtain⟨d1,d2⟩:=dm2 hL i q (by omega)
    rw[grow_take hm]
    refine⟨addS_get e,?_⟩
    have hx:(growS (ts.take q) Ts S)[(i * ts.length+q) / ts.length]? = some S:=by rw[d1];exact e
    have hr:i < Ws.length:=by rw[I.len];exact(List.getElem?_eq_some_iff.mp e).1
    obtain⟨r,er⟩:∃r,Ws[i]? = some r:=⟨_,List.getElem?_eq_getElem hr⟩
    have ef:fS ts ((i * ts.length+q) % ts.length) S=nxtS m S:=by rw[d2];exact fS_at hm S
    unfold addS
    split
    · rename_i z
      exact⟨Ws,I.stay hL hx (show fS ts ((i * ts.length+q) % ts.length) S∈_ by rw[ef];exact z)⟩
    · rename_i z
      have:=I.more hL hx (r:=r) (by rw[d1];exact er) (show ¬fS ts ((i * ts.length+q) % ts.length) S∈_ by rw[ef];exact z)
      rw[ef]at this
      exact⟨_,this⟩
theorem bfs_SI{st:List Bool}{ts:List (List (List Bool))}(hL:ts.length=1∨ts.length=2∨ts.length=3):∀i,Run st ts i→∃Ws,SI ts.length (fS ts) (fstS st) (i * ts.length) (bfs st ts i) Ws
  | 0,_=>⟨[[]],by rw[Nat.zero_mul];exact SI.start hL⟩
  | i+1,h=>by
    have h':=bfs_SI hL i ⟨fun j hj=>h.go j (by omega)⟩
    obtain⟨S,eS⟩:∃S,(bfs st ts i)[i]? = some S:=⟨_,List.getElem?_eq_getElem (h.go i (by omega)).1⟩
    obtain⟨_,Ws,I⟩:=grow_SI hL eS h' ts.length (Nat.le_refl _)
    rw[List.take_length,← bfs_succ eS]at I
    exact⟨Ws,by rw[Nat.succ_mul];exact I⟩
def TK(C:Addr)(v:V)(H:Hp):Prop:=∃x dx,v=.ref x∧H x=some (.ins C dx [])
theorem TK.same{C:Addr}{v:V}{H H':Hp}(s:Same H H')(h:TK C v H):TK C v H':=by
  obtain⟨x,dx,rfl,h⟩:=h
  exact⟨x,dx,rfl,s _ _ h⟩
def sp_tconst(b:Bool):Sp:=fun vs H Q _=>∃v,vs=[v]∧Q (.bl b) H
theorem ok_Truths_one(T:Txt K mg t):FnOk Pr w K mg base CX0 1 t.Truths_one t.d_Truths_one ["self"] (sp_tconst true):=by
  refine T.F_Truths_one.ok sc_Truths_one (fun vs H Q E h=>?_) (fun cdv A outer s H vs Q E hr h=>?_)
  · obtain⟨v,rfl,_⟩:=h
    rfl
  · obtain⟨v,rfl,k⟩:=h
    refine⟨_,(pss_one (ps_ret pe_bl)),?_⟩
    exact k
theorem ok_Truths_nought(T:Txt K mg t):FnOk Pr w K mg base CX0 1 t.Truths_nought t.d_Truths_nought ["self"] (sp_tconst false):=by
  refine T.F_Truths_nought.ok sc_Truths_nought (fun vs H Q E h=>?_) (fun cdv A outer s H vs Q E hr h=>?_)
  · obtain⟨v,rfl,_⟩:=h
    rfl
  · obtain⟨v,rfl,k⟩:=h
    refine⟨_,(pss_one (ps_ret pe_bl)),?_⟩
    exact k
def unitB(n p:Nat):List Bool:=(List.range n).map fun i=>decide (i=p)
theorem unitB_len(n p:Nat):(unitB n p).length=n:=by simp[unitB]
theorem unitB_succ(n p:Nat):(unitB (n+1) p).map V.bl=(unitB n p).map V.bl++[.bl (decide (n=p))]:=by
  rw[unitB,List.range_succ,List.map_append,List.map_append];rfl
def sp_bunit(C:Addr):Sp:=fun vs H Q _=>∃kv,∃(z zp:Int),∃(n p:Nat),vs=[kv,.int z,.int zp]∧(TK C kv H∧n≤1000∧z=n∧zp=p)∧∀v H',Same H H'→BR (unitB n p) v H'→Q v H'
theorem ok_unit(T:Txt K mg t):FnOk Pr w K mg base CX0 2 t.unit t.d_unit ["kind","size","place"] (sp_bunit t.Truths):=by
  refine T.F_unit.ok sc_unit (fun vs H Q E h=>?_) (fun cdv A outer s H vs Q E hr h=>?_)
  · obtain⟨kv,z,zp,n,p,rfl,_⟩:=h
    rfl
  · obtain⟨kv,z,zp,n,p,rfl,⟨⟨kp,dx,rfl,hk⟩,hn,rfl,rfl⟩,k⟩:=h
    refine⟨_,(pss_one (ps_ret (pe_callTy call_tuple_of (by rfl) T.z_tuple boot_tuple (pa_cons (pe_comp (xs:=["other"]) rfl (show CompOk ["kind","size","place"] (defScope s_unit) _ from⟨rfl,by decide +kernel,by decide +kernel,by decide +kernel,by decide +kernel,by decide +kernel⟩) (pi_range1 rfl T.z_range (pa_cons (pv 1) pa_nil)) (fun _ _ _ _ _=>(pg_name (i:=3) (by show List.Nodup (["kind","size","place","other"]:List Str);decide +kernel) rfl (Or.inl rfl))) (fun _ _ _ _ _=>(pe_ifExp (pt_cmpR op_eq (pv 3) (pv 2) (nomark _)) (pe_meth0 (pv 0) T.C_Truths T.t_Truths_one (ok_Truths_one T) hr.m T.b_Truths_one .nil pass0) (pe_meth0 (pv 0) T.C_Truths T.t_Truths_nought (ok_Truths_nought T) hr.m T.b_Truths_nought .nil pass0)))) pa_nil)))),?_⟩
    refine⟨_,rfl,_,rfl,(by omega),(by omega),comp_go (n:=n) (fun j ys H2=>(H2=H∧ys=(unitB j p).map V.bl)∧ys.length=j) hn ⟨⟨rfl,rfl⟩,rfl⟩ (fun j ys H2 q=>q.2) ?_ ?_ ?_⟩
    · rintro j ys H2 hj ⟨⟨rfl,rfl⟩,e⟩
      refine⟨(show j < (n:Int).toNat by omega),fun y H' hy=>?_⟩
      obtain⟨rfl,rfl⟩:=hy
      refine⟨⟨[some _],rfl,rfl⟩,_,rfl,_,rfl,rfl,_,rfl,?_⟩
      refine iteI (fun e0=>?_) (fun e0=>?_)
      · refine⟨_,rfl,_,_,_,rfl,hk,rfl,_,rfl,⟨rfl,?_⟩,by rw[List.length_append,e];rfl⟩
        rw[unitB_succ,decide_eq_true (show j=p by omega)]
      · refine⟨_,rfl,_,_,_,rfl,hk,rfl,_,rfl,⟨rfl,?_⟩,by rw[List.length_append,e];rfl⟩
        rw[unitB_succ,decide_eq_false (show ¬j=p by omega)]
    · rintro ys H2 ⟨⟨rfl,rfl⟩,e⟩
      show(n:Int).toNat≤n
      omega
    · rintro ys H2 l ⟨⟨rfl,rfl⟩,e⟩ nl
      have s1':=same_upd (o:=.lst ((unitB n p).map V.bl)) nl
      refine⟨l,_,rfl,.inl ⟨SqL.of upd_same,fun l2 n2=>?_⟩⟩
      have s2:=same_upd (o:=.tup ((unitB n p).map V.bl)) n2
      exact k _ _ (s1'.trans s2) ⟨l2,rfl,upd_same⟩
def goodS(en:List Bool)(S:List Nat):Bool:=S.any (bit en)
def sp_good:Sp:=fun vs H Q _=>∃mv wv l n st ts en S,vs=[mv,wv]∧(BM l st ts en mv H∧BMok l n st ts en∧ST S wv H∧SOk n S)∧∀H',Same H H'→Q (.bl (goodS en S)) H'
theorem ok_ends_within(T:Txt K mg t):FnOk Pr w K mg base CX0 1 t.ends_within t.d_ends_within ["machine","within"] sp_good:=by
  refine T.F_ends_within.ok sc_ends_within (fun vs H Q E h=>?_) (fun cdv A outer s H vs Q E hr h=>?_)
  · obtain⟨mv,wv,l,n,st,ts,en,S,rfl,_⟩:=h
    rfl
  · obtain⟨mv,wv,l,n,st,ts,en,S,rfl,⟨⟨p,sv,tv,ev,rfl,hp,_,_,⟨ep,rfl,he⟩⟩,O,⟨wp,rfl,hwp⟩,hS⟩,k⟩:=h
    have n20:=O.n20
    have sl:=hS.len
    have el:=O.el
    refine⟨_,(pss_one (ps_ret (pe_callB (call_any rfl) (by rfl) T.z_any boot_any (pa_cons (pe_comp (xs:=["room"]) rfl (show CompOk ["machine","within"] (defScope s_ends_within) _ from⟨rfl,by decide +kernel,by decide +kernel,by decide +kernel,by decide +kernel,by decide +kernel⟩) (pi_tup (pv 1)) (fun _ _ _ _ _=>(pg_name (i:=2) (by show List.Nodup (["machine","within","room"]:List Str);decide +kernel) rfl (Or.inl rfl))) (fun _ _ _ _ _=>(pe_ix (show IxR _ (rIxT K)from ix_tup) (pe_ix (show IxR _ (rIxT K)from ix_tup) (pv 0) pe_int (fun _ _=>rfl)) (pv 2) (fun _ _=>rfl)))) pa_nil)))),?_⟩
    refine⟨_,rfl,wp,rfl,⟨_,SqT.of hwp⟩,comp_go (n:=S.length) (fun j zs H3=>(H3=H∧zs=((S.take j).map (bit en)).map V.bl)∧zs.length=j) (by omega) ⟨⟨rfl,rfl⟩,rfl⟩ (fun j zs H3 q=>q.2) ?_ ?_ ?_⟩
    · rintro j zs H3 hj ⟨⟨rfl,rfl⟩,lz⟩
      have eu:(vS S)[j]? = some (.int ((S[j]:Nat):Int)):=by rw[vS,List.getElem?_map,List.getElem?_eq_getElem hj];rfl
      refine⟨⟨_,_,SqT.of hwp,eu⟩,fun y G3 hy=>?_⟩
      obtain⟨rfl,hy⟩:=hy
      have:=hy _ (SqT.of hwp)
      rw[eu]at this
      cases this
      have ho:S[j] < n:=hS.lt _ (List.getElem_mem hj)
      refine⟨⟨[some _],rfl,rfl⟩,_,rfl,_,_,_,_,rfl,rfl,SqT.of hp,rfl,_,rfl,_,_,_,_,rfl,rfl,SqT.of he,bit_at (by omega),⟨rfl,?_⟩,by rw[List.length_append,lz];rfl⟩
      rw[List.take_succ,List.getElem?_eq_getElem hj,List.map_append,List.map_append]
      rfl
    · rintro zs H3 ⟨⟨rfl,rfl⟩,_⟩
      exact⟨_,SqT.of hwp,by rw[vS,List.length_map];exact Nat.le_refl _⟩
    · rintro zs H3 lp ⟨⟨rfl,rfl⟩,_⟩ nl
      refine⟨lp,_,rfl,SqL.of upd_same,?_⟩
      have ea:((S.take S.length).map (bit en)).any id=goodS en S:=by
        rw[List.take_length,List.any_map];rfl
      dsimp only
      rw[ea]
      exact k _ (same_upd nl)
theorem ok_law_good(T:Txt K mg t):FnOk Pr w K mg base CX0 1 t.law_good t.d_law_good ["_law_machine_here","_law_some"] sp_good:=by
  refine T.F_law_good.ok sc_law_good (fun vs H Q E h=>?_) (fun cdv A outer s H vs Q E hr h=>?_)
  · obtain⟨mv,wv,l,n,st,ts,en,S,rfl,_⟩:=h
    rfl
  · obtain⟨mv,wv,l,n,st,ts,en,S,rfl,⟨⟨p,sv,tv,ev,rfl,hp,_,_,⟨ep,rfl,he⟩⟩,O,⟨wp,rfl,hwp⟩,hS⟩,k⟩:=h
    have n20:=O.n20
    have sl:=hS.len
    have el:=O.el
    refine⟨_,(pss_one (ps_ret (pe_callB (call_any rfl) (by rfl) T.z_any boot_any (pa_cons (pe_comp (xs:=["_law_k"]) rfl (show CompOk ["_law_machine_here","_law_some"] (defScope s_law_good) _ from⟨rfl,by decide +kernel,by decide +kernel,by decide +kernel,by decide +kernel,by decide +kernel⟩) (pi_tup (pv 1)) (fun _ _ _ _ _=>(pg_name (i:=2) (by show List.Nodup (["_law_machine_here","_law_some","_law_k"]:List Str);decide +kernel) rfl (Or.inl rfl))) (fun _ _ _ _ _=>(pe_ix (show IxR _ (rIxT K)from ix_tup) (pe_ix (show IxR _ (rIxT K)from ix_tup) (pv 0) pe_int (fun _ _=>rfl)) (pv 2) (fun _ _=>rfl)))) pa_nil)))),?_⟩
    refine⟨_,rfl,wp,rfl,⟨_,SqT.of hwp⟩,comp_go (n:=S.length) (fun j zs H3=>(H3=H∧zs=((S.take j).map (bit en)).map V.bl)∧zs.length=j) (by omega) ⟨⟨rfl,rfl⟩,rfl⟩ (fun j zs H3 q=>q.2) ?_ ?_ ?_⟩
    · rintro j zs H3 hj ⟨⟨rfl,rfl⟩,lz⟩
      have eu:(vS S)[j]? = some (.int ((S[j]:Nat):Int)):=by rw[vS,List.getElem?_map,List.getElem?_eq_getElem hj];rfl
      refine⟨⟨_,_,SqT.of hwp,eu⟩,fun y G3 hy=>?_⟩
      obtain⟨rfl,hy⟩:=hy
      have:=hy _ (SqT.of hwp)
      rw[eu]at this
      cases this
      have ho:S[j] < n:=hS.lt _ (List.getElem_mem hj)
      refine⟨⟨[some _],rfl,rfl⟩,_,rfl,_,_,_,_,rfl,rfl,SqT.of hp,rfl,_,rfl,_,_,_,_,rfl,rfl,SqT.of he,bit_at (by omega),⟨rfl,?_⟩,by rw[List.length_append,lz];rfl⟩
      rw[List.take_succ,List.getElem?_eq_getElem hj,List.map_append,List.map_append]
      rfl
    · rintro zs H3 ⟨⟨rfl,rfl⟩,_⟩
      exact⟨_,SqT.of hwp,by rw[vS,List.length_map];exact Nat.le_refl _⟩
    · rintro zs H3 lp ⟨⟨rfl,rfl⟩,_⟩ nl
      refine⟨lp,_,rfl,SqL.of upd_same,?_⟩
      have ea:((S.take S.length).map (bit en)).any id=goodS en S:=by
        rw[List.take_length,List.any_map];rfl
      dsimp only
      rw[ea]
      exact k _ (same_upd nl)
def NL(c:List Nat)(u:V)(H:Hp):Prop:=∃b,u=.ref b∧H b=some (.lst (vS c))
theorem NL.same{c:List Nat}{u:V}{H H':Hp}(s:Same H H')(h:NL c u H):NL c u H':=by
  obtain⟨b,rfl,h⟩:=h
  exact⟨b,rfl,s _ _ h⟩
def LL(cs:List (List Nat))(v:V)(H:Hp):Prop:=∃a vs,v=.ref a∧H a=some (.lst vs)∧Ents (fun i u H=>∃c,cs[i]? = some c∧NL c u H) vs cs.length H
theorem LL.same{cs:List (List Nat)}{v:V}{H H':Hp}(s:Same H H')(h:LL cs v H):LL cs v H':=by
  obtain⟨a,vs,rfl,h,e⟩:=h
  exact⟨a,vs,rfl,s _ _ h,e.mono fun _ _ _ ⟨c,q1,q2⟩=>⟨c,q1,q2.same s⟩⟩
theorem SL.same{Ts:List (List Nat)}{a:Addr}{H H':Hp}(s:Same H H')(h:SL Ts a H):SL Ts a H':=by
  obtain⟨vs,h,e⟩:=h
  exact⟨vs,s _ _ h,e.mono fun _ _ _ ⟨S,a1,a2⟩=>⟨S,a1,a2.same s.t⟩⟩
theorem vS_app(a b:List Nat):vS (a++b)=vS a++vS b:=by simp[vS]
theorem vS_len(a:List Nat):(vS a).length=a.length:=by simp[vS]
theorem vS_at{a:List Nat}{j x:Nat}(h:a[j]? = some x):(vS a)[j]? = some (.int (x:Int)):=by rw[vS,List.getElem?_map,h];rfl
def colS(Ts:List (List Nat))(m:List (List Bool)):List Nat:=Ts.map fun S=>Ts.idxOf (nxtS m S)
structure TOk(ts:List (List (List Bool)))(n:Nat)(Ts:List (List Nat)):Prop where
  ok:∀S∈Ts,SOk n S
  cl:∀m∈ts,∀S∈Ts,nxtS m S∈Ts
  nd:Ts.Nodup
  l20:Ts.length≤20
theorem first_dS{Ts:List (List Nat)}{S:List Nat}(h:S∈Ts):FirstAt (dS S) (Ts.map dS) (Ts.idxOf S):=by
  have hl:=List.idxOf_lt_length_iff.mpr h
  refine⟨by rw[List.getElem?_map,List.getElem?_eq_getElem hl,List.getElem_idxOf];rfl,fun m hm e=>?_⟩
  rw[List.getElem?_map,List.getElem?_eq_getElem (by omega)]at e
  have e':=dS_inj (Option.some.inj e)
  have:=List.not_of_lt_findIdx (p:=(· == S)) (xs:=Ts) (i:=m) hm
  simp[e']at this
def sp_stepsof:Sp:=fun vs H Q _=>∃mv fa l n st ts en Ts,vs=[mv,.ref fa]∧(BM l st ts en mv H∧BMok l n st ts en∧SL Ts fa H∧TOk ts n Ts)∧∀v H',Same H H'→LL (ts.map (colS Ts)) v H'→Q v H'
theorem ok_steps_of(T:Txt K mg t):FnOk Pr w K mg base CX0 2 t.steps_of t.d_steps_of ["machine","found"] sp_stepsof:=by
  refine T.F_steps_of.ok sc_steps_of (fun vs H Q E h=>?_) (fun cdv A outer s H vs Q E hr h=>?_)
  · obtain⟨mv,fa,l,n,st,ts,en,Ts,rfl,_⟩:=h
    rfl
  · obtain⟨mv,fa,l,n,st,ts,en,Ts,rfl,⟨hM,O,hT,W⟩,k⟩:=h
    have l20:=W.l20
    have l3:=O.lk.h3
    have tl:=O.tl
    have z40:1000 < sizeLine:=by decide
    obtain⟨p,sv,tv,ev,rfl,hp,_,⟨tp,tvs,rfl,htp,et⟩,_⟩:=id hM
    obtain⟨fvs,hf,ef⟩:=id hT
    refine⟨_,(pss_one (ps_ret (pe_comp (xs:=["table"]) rfl (show CompOk ["machine","found"] (defScope s_steps_of) _ from⟨rfl,by decide +kernel,by decide +kernel,by decide +kernel,by decide +kernel,by decide +kernel⟩) (pi_tup (pe_ix ix_tup (pv 0) pe_int (fun _ _=>rfl))) (fun _ _ _ _ _=>(pg_name (i:=2) (by show List.Nodup (["machine","found","table"]:List Str);decide +kernel) rfl (Or.inr rfl))) (fun _ _ _ _ _=>(pe_comp (xs:=["within"]) rfl (show CompOk ["machine","found","table"] (rlS (defScope s_steps_of) _) _ from⟨rfl,by decide +kernel,by decide +kernel,by decide +kernel,by decide +kernel,by decide +kernel⟩) (show PI _ _ _ (iList K _)from pi_list (pv 1)) (fun _ _ _ _ _=>(pg_name (i:=3) (by show List.Nodup (["machine","found","table","within"]:List Str);decide +kernel) rfl (Or.inl rfl))) (fun _ _ _ _ _=>(show PE _ _ (tBM K "list" (rIdxL K) _ _)from(pe_bm PySem.F.plainAttrs_list PySem.F.slot_list_index PySem.F.type_list_index (mt_indexL hr.units1) (pv 1) (pa_cons (pe_call (ok_next_set (w:=w) (base:=base) T) hr.m rfl T.m_next_set T.F_next_set.kp T.b_next_set .nil pass0 (pa_cons (pv 2) (pa_cons (pv 3) pa_nil))) pa_nil))))))))),?_⟩
    refine⟨_,rfl,_,_,_,_,rfl,rfl,SqT.of hp,rfl,tp,rfl,⟨_,SqT.of htp⟩,comp_go (n:=ts.length) (fun j ys G=>Same H G∧Ents (fun i u H=>∃c,(ts.map (colS Ts))[i]? = some c∧NL c u H) ys j G) (by omega) ⟨Same.refl _,Ents.nil⟩ (fun j ys G q=>q.2.1) ?_ ?_ ?_⟩
    · rintro j ys G hj ⟨sG,eG⟩
      obtain⟨u,eu,m,em,hu⟩:=et.2 j hj
      refine⟨⟨_,_,SqT.of (sG _ _ htp),eu⟩,fun y G4 hy=>?_⟩
      obtain⟨rfl,hy⟩:=hy
      have:=hy _ (SqT.of (sG _ _ htp))
      rw[eu]at this
      cases this
      have ob:=O.tb m (List.mem_of_getElem? em)
      have mm:=List.mem_of_getElem? em
      refine⟨⟨[some _],rfl,rfl⟩,_,rfl,fa,rfl,⟨_,SqL.of (sG _ _ hf)⟩,comp_go (n:=Ts.length) (fun i zs F=>(Same G4 F∧zs=vS ((Ts.take i).map fun S=>Ts.idxOf (nxtS m S)))∧zs.length=i) (by omega) ⟨⟨Same.refl _,rfl⟩,rfl⟩ (fun i zs F q=>q.2) ?_ ?_ ?_⟩
      · rintro i zs F hi ⟨⟨sF,rfl⟩,lz⟩
        obtain⟨v,ev',S,eS,qS⟩:=ef.2 i hi
        have hfF:=sF _ _ (sG _ _ hf)
        refine⟨⟨_,_,SqL.of hfF,ev'⟩,fun y F4 hy=>?_⟩
        obtain⟨rfl,hy⟩:=hy
        have:=hy _ (SqL.of hfF)
        rw[ev']at this
        cases this
        have mS:=List.mem_of_getElem? eS
        refine⟨⟨[some _],rfl,rfl⟩,_,rfl,.inl ⟨rfl,_,SqL.of hfF⟩,_,rfl,_,rfl,u,v,m,S,n,rfl,⟨hu.same (sG.trans sF).t,qS.same (sG.trans sF).t,ob.1,O.n20,ob.2,W.ok _ mS⟩,fun av F5 s5 q5=>?_⟩
        refine⟨_,_,_,_,rfl,q5.is,(hT.same ((sG.trans sF).trans s5)).is,dS_sh _,dl_sh _,dl_nm _ _,by rw[List.length_map];omega,first_dS (W.cl m mm S mS),⟨sF.trans s5,?_⟩,by rw[List.length_append,lz];rfl⟩
        rw[List.take_succ,eS,List.map_append,vS_app]
        rfl
      · rintro zs F ⟨⟨sF,rfl⟩,lz⟩
        exact⟨_,SqL.of (sF _ _ (sG _ _ hf)),by rw[ef.1];exact Nat.le_refl _⟩
      · rintro zs F lp ⟨⟨sF,rfl⟩,lz⟩ nl
        rw[List.take_length]
        have t5:=same_upd (o:=.lst (vS (Ts.map fun S=>Ts.idxOf (nxtS m S)))) nl
        have s5:=sF.trans t5
        exact⟨sG.trans s5,(eG.mono fun _ _ _ ⟨c,q1,q2⟩=>⟨c,q1,q2.same s5⟩).snoc ⟨colS Ts m,by rw[List.getElem?_map,em];rfl,lp,rfl,upd_same⟩⟩
    · rintro ys G ⟨sG,eG⟩
      exact⟨_,SqT.of (sG _ _ htp),by rw[et.1];exact Nat.le_refl _⟩
    · rintro ys G lp ⟨sG,eG⟩ nl
      have t5:=same_upd (o:=.lst ys) nl
      exact k _ _ (sG.trans t5) ⟨lp,ys,rfl,upd_same,by rw[List.length_map];exact eG.mono fun _ _ _ ⟨c,q1,q2⟩=>⟨c,q1,q2.same t5⟩⟩
def sp_endsof:Sp:=fun vs H Q _=>∃mv fa l n st ts en Ts,vs=[mv,.ref fa]∧(BM l st ts en mv H∧BMok l n st ts en∧SL Ts fa H∧TOk ts n Ts)∧∀a H',Same H H'→H' a=some (.lst ((Ts.map (goodS en)).map V.bl))→Q (.ref a) H'
theorem ok_ends_of(T:Txt K mg t):FnOk Pr w K mg base CX0 2 t.ends_of t.d_ends_of ["machine","found"] sp_endsof:=by
  refine T.F_ends_of.ok sc_ends_of (fun vs H Q E h=>?_) (fun cdv A outer s H vs Q E hr h=>?_)
  · obtain⟨mv,fa,l,n,st,ts,en,Ts,rfl,_⟩:=h
    rfl
  · obtain⟨mv,fa,l,n,st,ts,en,Ts,rfl,⟨hM,O,hT,W⟩,k⟩:=h
    have l20:=W.l20
    obtain⟨fvs,hf,ef⟩:=id hT
    refine⟨_,(pss_one (ps_ret (pe_comp (xs:=["within"]) rfl (show CompOk ["machine","found"] (defScope s_ends_of) _ from⟨rfl,by decide +kernel,by decide +kernel,by decide +kernel,by decide +kernel,by decide +kernel⟩) (pi_list (pv 1)) (fun _ _ _ _ _=>(pg_name (i:=2) (by show List.Nodup (["machine","found","within"]:List Str);decide +kernel) rfl (Or.inl rfl))) (fun _ _ _ _ _=>(pe_call (ok_ends_within (w:=w) (base:=base) T) hr.m rfl T.m_ends_within T.F_ends_within.kp T.b_ends_within .nil pass0 (pa_cons (pv 0) (pa_cons (pv 2) pa_nil))))))),?_⟩
    refine⟨_,rfl,fa,rfl,⟨_,SqL.of hf⟩,comp_go (n:=Ts.length) (fun i zs F=>(Same H F∧zs=((Ts.take i).map (goodS en)).map V.bl)∧zs.length=i) (by omega) ⟨⟨Same.refl _,rfl⟩,rfl⟩ (fun i zs F q=>q.2) ?_ ?_ ?_⟩
    · rintro i zs F hi ⟨⟨sF,rfl⟩,lz⟩
      obtain⟨v,ev',S,eS,qS⟩:=ef.2 i hi
      have hfF:=sF _ _ hf
      refine⟨⟨_,_,SqL.of hfF,ev'⟩,fun y F4 hy=>?_⟩
      obtain⟨rfl,hy⟩:=hy
      have:=hy _ (SqL.of hfF)
      rw[ev']at this
      cases this
      have mS:=List.mem_of_getElem? eS
      refine⟨⟨[some _],rfl,rfl⟩,_,rfl,_,rfl,mv,v,l,n,st,ts,en,S,rfl,⟨hM.same sF.t,O,qS.same sF.t,W.ok _ mS⟩,fun F5 s5=>⟨⟨sF.trans s5,?_⟩,by rw[List.length_append,lz];rfl⟩⟩
      rw[List.take_succ,eS,List.map_append,List.map_append]
      rfl
    · rintro zs F ⟨⟨sF,rfl⟩,lz⟩
      exact⟨_,SqL.of (sF _ _ hf),by rw[ef.1];exact Nat.le_refl _⟩
    · rintro zs F lp ⟨⟨sF,rfl⟩,lz⟩ nl
      rw[List.take_length]
      exact k _ _ (sF.trans (same_upd nl)) upd_same
def sureT(n:Nat)(cs:List (List Nat)):List (List (List Bool)):=cs.map fun c=>c.map (unitB n)
def sp_suremach:Sp:=fun vs H Q _=>∃l sv ea cs es,vs=[vT l,sv,.ref ea]∧(LL cs sv H∧H ea=some (.lst (es.map V.bl))∧es.length≤20∧cs.length≤20∧∀c∈cs,c.length≤20)∧∀v H',Same H H'→BM l (unitB es.length 0) (sureT es.length cs) es v H'→Q v H'
theorem ok_sure_machine(T:Txt K mg t):FnOk Pr w K mg base CX0 3 t.sure_machine t.d_sure_machine ["letters","steps","ends"] sp_suremach:=by
  refine T.F_sure_machine.ok sc_sure_machine (fun vs H Q E h=>?_) (fun cdv A outer s H vs Q E hr h=>?_)
  · obtain⟨l,sv,ea,cs,es,rfl,_⟩:=h
    rfl
  · obtain⟨l,sv,ea,cs,es,rfl,⟨hC,hE,e20,c20,cc⟩,k⟩:=h
    have z40:1000 < sizeLine:=by decide
    refine⟨_,(pss_cons (ps_set (i:=3) sc_sure_machine.nd rfl (Or.inr rfl) (pe_makeO T.M_Truths rfl T.m_Truths)) (pss_cons (ps_set (i:=4) sc_sure_machine.nd rfl (Or.inr rfl) (pe_callB call_len (by rfl) T.z_len PySem.boot_len (pa_cons (pv 2) pa_nil))) (pss_cons (ps_setC (i₀:=5) (xs:=["column"]) sc_sure_machine.nd rfl (Or.inl rfl) rfl (show CompOk ["letters","steps","ends","kind","size","tables"] (defScope s_sure_machine) _ from⟨rfl,by decide +kernel,by decide +kernel,by decide +kernel,by decide +kernel,by decide +kernel⟩) (pi_list (pv 1)) (fun _ _ _ _ _=>(pg_name (i:=6) (by show List.Nodup (["letters","steps","ends","kind","size","tables","column"]:List Str);decide +kernel) rfl (Or.inl rfl))) (fun _ _ _ _ _=>(pe_callTy (show CallR _ (.type "tuple") (fun xs H Q=>∃p ys,xs=[.ref p]∧((SqL K H p ys∧∀l,H l=none→Q (.ref l) (upd H l (.tup ys)))∨(SqT K H p ys∧Q (.ref p) H)))from call_tuple_of) (by rfl) T.z_tuple boot_tuple (pa_cons (pe_comp (xs:=["room"]) rfl (show CompOk ["letters","steps","ends","kind","size","tables","column"] (rlS (defScope s_sure_machine) _) _ from⟨rfl,by decide +kernel,by decide +kernel,by decide +kernel,by decide +kernel,by decide +kernel⟩) (show PI _ _ _ (iList K _)from pi_list (pv 6)) (fun _ _ _ _ _=>(pg_name (i:=7) (by show List.Nodup (["letters","steps","ends","kind","size","tables","column","room"]:List Str);decide +kernel) rfl (Or.inl rfl))) (fun _ _ _ _ _=>(pe_call (ok_unit (w:=w) (base:=base) T) hr.m rfl T.m_unit T.F_unit.kp T.b_unit .nil pass0 (pa_cons (pv 3) (pa_cons (pv 4) (pa_cons (pv 7) pa_nil)))))) pa_nil)))) (pss_one (ps_ret (pe_tup (pa_cons (pv 0) (pa_cons (pe_call (ok_unit T) hr.m rfl T.m_unit T.F_unit.kp T.b_unit .nil pass0 (pa_cons (pv 3) (pa_cons (pv 4) (pa_cons pe_int pa_nil)))) (pa_cons (pe_callTy call_tuple_of (by rfl) T.z_tuple boot_tuple (pa_cons (pv 5) pa_nil)) (pa_cons (pe_callTy call_tuple_of (by rfl) T.z_tuple boot_tuple (pa_cons (pv 2) pa_nil)) pa_nil)))))))))),?_⟩
    refine fun x dx nx ndx ne=>?_
    have s1:Same H (upd (upd H dx (.own x)) x (.ins t.Truths dx [])):=(same_upd ndx).trans (same_upd (by rw[upd_ne (Ne.symm ne)];exact nx))
    have k1:TK t.Truths (.ref x) (upd (upd H dx (.own x)) x (.ins t.Truths dx [])):=⟨x,dx,rfl,upd_same⟩
    clear nx ndx ne
    revert s1 k1
    generalize upd (upd H dx (.own x)) x (.ins t.Truths dx [])=H1
    intro s1 k1
    have le:LenV K (.ref ea) H1 es.length:=.inl ⟨_,SqL.of (s1 _ _ hE),by rw[List.length_map]⟩
    refine⟨_,rfl,_,_,rfl,le,?_⟩
    obtain⟨sa,svs,rfl,hsa,esa⟩:=hC.same s1
    refine⟨_,rfl,sa,rfl,⟨_,SqL.of hsa⟩,comp_go (n:=cs.length) (fun j ys G=>Same H1 G∧Ents (fun i u H=>∃r,(sureT es.length cs)[i]? = some r∧BT r u H) ys j G) (by omega) ⟨Same.refl _,Ents.nil⟩ (fun j ys G q=>q.2.1) ?_ ?_ ?_⟩
    · rintro j ys G hj ⟨sG,eG⟩
      obtain⟨u,eu,c,ec,b,rfl,hb⟩:=esa.2 j hj
      refine⟨⟨_,_,SqL.of (sG _ _ hsa),eu⟩,fun y G4 hy=>?_⟩
      obtain⟨rfl,hy⟩:=hy
      have:=hy _ (SqL.of (sG _ _ hsa))
      rw[eu]at this
      cases this
      have c2:=cc c (List.mem_of_getElem? ec)
      refine⟨⟨[some _],rfl,rfl⟩,_,rfl,b,rfl,⟨_,SqL.of (sG _ _ hb)⟩,comp_go (n:=c.length) (fun i zs F=>Same G4 F∧Ents (fun i u H=>∃r,(c.map (unitB es.length))[i]? = some r∧BR r u H) zs i F) (by omega) ⟨Same.refl _,Ents.nil⟩ (fun i zs F q=>q.2.1) ?_ ?_ ?_⟩
      · rintro i zs F hi ⟨sF,eF⟩
        have ei:(vS c)[i]? = some (.int ((c[i]:Nat):Int)):=vS_at (List.getElem?_eq_getElem hi)
        have hbF:=sF _ _ (sG _ _ hb)
        refine⟨⟨_,_,SqL.of hbF,ei⟩,fun y F4 hy=>?_⟩
        obtain⟨rfl,hy⟩:=hy
        have:=hy _ (SqL.of hbF)
        rw[ei]at this
        cases this
        refine⟨⟨[some _],rfl,rfl⟩,_,rfl,_,rfl,_,rfl,.ref x,_,_,es.length,c[i],rfl,⟨k1.same (sG.trans sF),by omega,rfl,rfl⟩,fun v F5 s5 q5=>?_⟩
        exact⟨sF.trans s5,(eF.mono fun _ _ _ ⟨r,q1,q2⟩=>⟨r,q1,q2.same s5.t⟩).snoc ⟨_,by rw[List.getElem?_map,List.getElem?_eq_getElem hi];rfl,q5⟩⟩
      · rintro zs F ⟨sF,eF⟩
        exact⟨_,SqL.of (sF _ _ (sG _ _ hb)),by rw[vS_len];exact Nat.le_refl _⟩
      · rintro zs F lp ⟨sF,eF⟩ nl
        have t5:=same_upd (o:=.lst zs) nl
        refine⟨lp,_,rfl,.inl ⟨SqL.of upd_same,fun l2 n2=>?_⟩⟩
        have t6:=same_upd (o:=.tup zs) n2
        have s6:=t5.trans t6
        exact⟨(sG.trans sF).trans s6,(eG.mono fun _ _ _ ⟨r,q1,q2⟩=>⟨r,q1,q2.same (sF.trans s6).t⟩).snoc ⟨c.map (unitB es.length),by rw[sureT,List.getElem?_map,ec];rfl,l2,zs,rfl,upd_same,by rw[List.length_map];exact eF.mono fun _ _ _ ⟨r,q1,q2⟩=>⟨r,q1,q2.same s6.t⟩⟩⟩
    · rintro ys G ⟨sG,eG⟩
      exact⟨_,SqL.of (sG _ _ hsa),by rw[esa.1];exact Nat.le_refl _⟩
    · rintro ys G lp ⟨sG,eG⟩ nl
      have t5:=same_upd (o:=.lst ys) nl
      have kl:=upd_same (H:=G) (a:=lp) (o:=.lst ys)
      have s5:=sG.trans t5
      have e5:Ents (fun i u H=>∃r,(sureT es.length cs)[i]? = some r∧BT r u H) ys (sureT es.length cs).length (upd G lp (.lst ys)):=by
        rw[sureT,List.length_map]
        exact eG.mono fun _ _ _ ⟨r,q1,q2⟩=>⟨r,q1,q2.same t5.t⟩
      clear t5 nl sG eG
      revert kl s5 e5
      generalize upd G lp (.lst ys)=H2
      intro kl s5 e5
      refine⟨_,rfl,_,rfl,_,rfl,.ref x,_,0,es.length,0,rfl,⟨k1.same s5,by omega,rfl,rfl⟩,fun uv H3 s3 q3=>?_⟩
      refine⟨_,rfl,lp,ys,rfl,.inl ⟨SqL.of (s3 _ _ kl),fun p4 n4=>?_⟩⟩
      have t4:=same_upd (o:=.tup ys) n4
      have u4:LT BT (sureT es.length cs) (.ref p4) (upd H3 p4 (.tup ys)):=⟨p4,ys,rfl,upd_same,e5.mono fun _ _ _ ⟨r,q1,q2⟩=>⟨r,q1,q2.same (s3.trans t4).t⟩⟩
      have q4:=q3.same t4.t
      have hE4:=t4 _ _ (s3 _ _ (s5 _ _ (s1 _ _ hE)))
      have s04:=((s1.trans s5).trans s3).trans t4
      clear t4 n4
      revert u4 q4 hE4 s04
      generalize upd H3 p4 (.tup ys)=H4
      intro u4 q4 hE4 s04
      refine⟨_,rfl,ea,_,rfl,.inl ⟨SqL.of hE4,fun p6 n6=>?_⟩⟩
      have t6:=same_upd (o:=.tup (es.map V.bl)) n6
      have k6:=upd_same (H:=H4) (a:=p6) (o:=.tup (es.map V.bl))
      refine⟨(by show 4≤sizeLine;decide),fun p7 n7=>?_⟩
      have t7:=same_upd (o:=.tup [vT l,uv,.ref p4,.ref p6]) n7
      have t67:=t6.trans t7
      exact k _ _ (s04.trans t67) ⟨p7,uv,_,_,rfl,upd_same,q4.same t67.t,u4.same (fun _ _=>BT.same t67.t) t67.t,p6,rfl,t7 _ _ k6⟩
theorem all_true(n:Nat):(List.replicate n true).all id=true:=by rw[List.all_eq_true];exact fun b hb=>(List.mem_replicate.mp hb).2
theorem any_false(n:Nat):(List.replicate n false).any id=false:=by rw[List.any_eq_false];exact fun b hb=>by rw[(List.mem_replicate.mp hb).2];decide
theorem unitB_next(n p:Nat):unitB (n+1) p=unitB n p++[decide (n=p)]:=by rw[unitB,List.range_succ,List.map_append];rfl
theorem unitB_at{n p j:Nat}(h:j < n):(unitB n p)[j]? = some (decide (j=p)):=by rw[unitB,List.getElem?_map,List.getElem?_range h];rfl
theorem unitB_one(p:Nat):∀n,((unitB n p).filter id).length=if p < n then 1 else 0
  | 0=>by simp[unitB]
  | n+1=>by
    rw[unitB_next,List.filter_append,List.length_append,unitB_one p n]
    by_cases h:n=p
    · subst h;simp
    · rw[decide_eq_false h]
      by_cases h2:p < n
      · rw[if_pos h2,if_pos (by omega)];rfl
      · rw[if_neg h2,if_neg (by omega)];rfl
theorem isAll_bools{H:Hp}:∀bs:List Bool,IsAll K H (bs.map V.bl) (bs.map PyData.bool)
  | []=>.nil
  | b::bs=>.cons (.bl b) (isAll_bools bs)
theorem cl_bools:∀bs:List Bool,PyData.canLayAll0 (bs.map PyData.bool)=true
  | []=>by simp[PyData.canLayAll0]
  | b::bs=>by simp[PyData.canLayAll0,PyData.canLay0,cl_bools bs]
theorem dp_bools:∀bs:List Bool,PyData.depthAll (bs.map PyData.bool)≤0
  | []=>by simp[PyData.depthAll]
  | b::bs=>by have:=dp_bools bs;simp[PyData.depthAll,PyData.depth];omega
theorem sh_bools(bs:List Bool):shaped (.tuple (bs.map PyData.bool))=true:=by
  have:=dp_bools bs
  simp[shaped,PyData.canLay0,cl_bools bs,PyData.depth];omega
theorem nm_bools(bs:List Bool)(b:Bool):∀e∈bs.map PyData.bool,noMix e (.bool b)=true:=fun e he=>by
  obtain⟨c,_,rfl⟩:=List.mem_map.mp he
  rfl
theorem first_unit{n p:Nat}(h:p < n):FirstAt (.bool true) ((unitB n p).map PyData.bool) p:=by
  refine⟨by rw[List.getElem?_map,unitB_at h];simp,fun m hm e=>?_⟩
  rw[List.getElem?_map,unitB_at (by omega),decide_eq_false (by omega)]at e
  cases e
def sp_lrow:Sp:=fun vs H Q _=>∃rv n p,vs=[rv,.int ((n:Nat):Int)]∧(BR (unitB n p) rv H∧p < n∧n≤20)∧∀H',Same H H'→Q (.int ((p:Nat):Int)) H'
theorem ok_law_row(T:Txt K mg t):FnOk Pr w K mg base CX0 1 t.law_row t.d_law_row ["_law_row_here","_law_many"] sp_lrow:=by
  refine T.F_law_row.ok sc_law_row (fun vs H Q E h=>?_) (fun cdv A outer s H vs Q E hr h=>?_)
  · obtain⟨rv,n,p,rfl,_⟩:=h
    rfl
  · obtain⟨rv,n,p,rfl,⟨⟨rp,rfl,hrp⟩,hp,hn⟩,k⟩:=h
    have lr:LenV K (.ref rp) H n:=.inr ⟨_,SqT.of hrp,by rw[List.length_map,unitB_len]⟩
    refine⟨_,(pss_cons (ps_if (PW.pt (pw_or (pt_not (pt_val (pe_callB call_isi (by rfl) T.z_isinstance boot_isinstance (pa_cons (pv 0) (pa_cons (pe_bltn (v:=.ty "tuple") rfl T.z_tuple boot_tuple rfl) pa_nil))))) (pw_or1 (pt_cmpR op_ne (pe_callB call_len (by rfl) T.z_len PySem.boot_len (pa_cons (pv 0) pa_nil)) (pv 1) (nomark _))))) (pss_one (ps_ret (pe_un un_neg pe_int))) pss_nil) (pss_cons (ps_if (PW.pt (pw_or (pt_not (pt_val (pe_callB (call_all rfl) (by rfl) T.z_all boot_all (pa_cons (pe_comp (xs:=["_law_x"]) rfl (show CompOk ["_law_row_here","_law_many"] (defScope s_law_row) _ from⟨rfl,by decide +kernel,by decide +kernel,by decide +kernel,by decide +kernel,by decide +kernel⟩) (pi_tup (pv 0)) (fun _ _ _ _ _=>(pg_name (i:=2) (by show List.Nodup (["_law_row_here","_law_many","_law_x"]:List Str);decide +kernel) rfl (Or.inl rfl))) (fun _ _ _ _ _=>(pe_callB (show CallR _ (.builtin "isinstance") (rIsi K)from call_isi) (by rfl) T.z_isinstance boot_isinstance (pa_cons (pv 2) (pa_cons (pe_bltn (v:=.ty "bool") rfl T.z_bool boot_bool rfl) pa_nil))))) pa_nil)))) (pw_or1 (pt_cmpR op_ne (pe_callB call_len (by rfl) T.z_len PySem.boot_len (pa_cons (pe_compif (xs:=["_law_x"]) rfl (show CompOk ["_law_row_here","_law_many"] (defScope s_law_row) _ from⟨rfl,by decide +kernel,by decide +kernel,by decide +kernel,by decide +kernel,by decide +kernel⟩) (pi_tup (pv 0)) (fun _ _ _ _ _=>(pg_name (i:=2) (by show List.Nodup (["_law_row_here","_law_many","_law_x"]:List Str);decide +kernel) rfl (Or.inl rfl))) (fun _ _ _ _ _=>(pt_val (pv 2))) (fun _ _ _ _ _=>(pv 2))) pa_nil)) pe_int (nomark _))))) (pss_one (ps_ret (pe_un un_neg pe_int))) pss_nil) (pss_one (ps_ret (pe_bmT PySem.F.plainAttrs_tuple PySem.F.slot_tuple_index PySem.F.type_tuple_index (mt_indexT hr.units1) (pv 0) (pa_cons pe_bl pa_nil)))))),?_⟩
    refine⟨_,rfl,_,_,_,_,rfl,TyOf.tup hrp,T.k_tt,_,rfl,?_⟩
    (try refine iteF ?_)
    refine⟨_,rfl,_,_,rfl,lr,_,rfl,rfl,_,rfl,?_⟩
    dsimp only
    refine iteNI (fun z=>absurd rfl z) (fun _=>?_)
    refine⟨_,rfl,rp,rfl,⟨_,SqT.of hrp⟩,comp_go (n:=n) (fun j zs F=>F=H∧zs=(List.replicate j true).map V.bl) (by omega) ⟨rfl,rfl⟩ (fun j zs F q=>by rw[q.2];simp) ?_ ?_ ?_⟩
    · rintro j zs F hj ⟨rfl,rfl⟩
      have eu:((unitB n p).map V.bl)[j]? = some (.bl (decide (j=p))):=by rw[List.getElem?_map,unitB_at hj];rfl
      refine⟨⟨_,_,SqT.of hrp,eu⟩,fun y F' hy=>?_⟩
      obtain⟨rfl,hy⟩:=hy
      have:=hy _ (SqT.of hrp)
      rw[eu]at this
      cases this
      refine⟨⟨[some _],rfl,rfl⟩,_,rfl,_,_,_,_,rfl,TyOf.bl _,T.k_bb,rfl,?_⟩
      rw[List.replicate_succ',List.map_append]
      rfl
    · rintro zs F ⟨rfl,rfl⟩
      exact⟨_,SqT.of hrp,by rw[List.length_map,unitB_len];exact Nat.le_refl _⟩
    · rintro zs F l7 ⟨rfl,rfl⟩ n7
      have t7:=same_upd (o:=.lst ((List.replicate n true).map V.bl)) n7
      refine⟨l7,List.replicate n true,rfl,SqL.of upd_same,true,congrArg V.bl (all_true n),?_⟩
      (try refine iteF ?_)
      have hr7:=t7 _ _ hrp
      clear n7
      revert t7 hr7
      generalize upd F l7 (.lst ((List.replicate n true).map V.bl))=F7
      intro t7 hr7
      refine⟨_,rfl,rp,rfl,⟨_,SqT.of hr7⟩,comp_goI (n:=n) (fun i ys G=>G=F7∧ys=((unitB i p).filter id).map V.bl) (by omega) ⟨rfl,rfl⟩ (fun i ys G q=>by rw[q.2,List.length_map,unitB_one];split <;>omega) ?_ ?_ ?_⟩
      · rintro j zs G hj ⟨rfl,rfl⟩
        have eu:((unitB n p).map V.bl)[j]? = some (.bl (decide (j=p))):=by rw[List.getElem?_map,unitB_at hj];rfl
        refine⟨⟨_,_,SqT.of hr7,eu⟩,fun y F' hy=>?_⟩
        obtain⟨rfl,hy⟩:=hy
        have:=hy _ (SqT.of hr7)
        rw[eu]at this
        cases this
        refine⟨⟨[some _],rfl,rfl⟩,_,rfl,_,rfl,?_⟩
        rw[unitB_next,List.filter_append,List.map_append]
        by_cases h:j=p
        · rw[decide_eq_true h]
          dsimp only
          rw[if_pos rfl]
          exact⟨_,rfl,rfl,rfl⟩
        · rw[decide_eq_false h]
          dsimp only
          rw[if_neg Bool.false_ne_true]
          exact⟨rfl,by simp⟩
      · rintro zs G ⟨rfl,rfl⟩
        exact⟨_,SqT.of hr7,by rw[List.length_map,unitB_len];exact Nat.le_refl _⟩
      · rintro zs G l8 ⟨rfl,rfl⟩ n8
        have t8:=same_upd (o:=.lst (((unitB n p).filter id).map V.bl)) n8
        have l8l:LenV K (.ref l8) (upd G l8 (.lst (((unitB n p).filter id).map V.bl))) 1:=.inl ⟨_,SqL.of upd_same,by rw[List.length_map,unitB_one,if_pos hp]⟩
        have hr8:=t8 _ _ hr7
        clear n8
        revert t8 hr8 l8l
        generalize upd G l8 (.lst (((unitB n p).filter id).map V.bl))=F8
        intro t8 l8l hr8
        refine⟨_,_,rfl,l8l,rfl,_,rfl,?_⟩
        dsimp only
        refine iteNI (fun z=>absurd rfl z) (fun _=>?_)
        refine⟨_,rfl,⟨rp,_,rfl,hr8,fun i y z=>?_⟩,?_⟩
        · have:=congrArg (fun l=>l.head?) z
          cases n with
          | zero=>omega
          | succ n=>
            rw[unitB,List.range_succ_eq_map]at this
            simp at this
        refine⟨_,_,_,_,rfl,.bl true,.tup (SqT.of hr8) (isAll_bools _),rfl,sh_bools _,nm_bools _ _,first_unit hp,?_⟩
        exact k _ (t7.trans t8)
def RWS(H0:Hp)(sp:Addr)(N:Nat)(f:Nat→List Nat)(G:Hp):Prop:=H0 sp=none∧∃as:List Addr,as.length=N∧as.Nodup∧G sp=some (.lst (as.map V.ref))∧∀i a,as[i]? = some a→a≠sp∧H0 a=none∧G a=some (.lst (vS (f i)))
theorem RWS.same{H0:Hp}{sp:Addr}{N:Nat}{f:Nat→List Nat}{G G':Hp}(s:Same G G')(h:RWS H0 sp N f G):RWS H0 sp N f G':=by
  obtain⟨h0,as,h1,h2,h3,h4⟩:=h
  exact⟨h0,as,h1,h2,s _ _ h3,fun i a e=>⟨(h4 i a e).1,(h4 i a e).2.1,s _ _ (h4 i a e).2.2⟩⟩
theorem RWS.push{H0:Hp}{sp:Addr}{N:Nat}{as:List Addr}{f g:Nat→List Nat}{G:Hp}{k x:Nat}{a:Addr}(h1:as.length=N)(h0:H0 sp=none)(h2:as.Nodup)(h3:G sp=some (.lst (as.map V.ref)))(h4:∀i a,as[i]? = some a→a≠sp∧H0 a=none∧G a=some (.lst (vS (f i))))(ha:as[k]? = some a)
    (hg:∀i,g i=if i=k then f i++[x]else f i):RWS H0 sp N g (upd G a (.lst (vS (f k)++[.int (x:Int)]))):=by
  refine⟨h0,as,h1,h2,?_,fun i b e=>⟨(h4 i b e).1,(h4 i b e).2.1,?_⟩⟩
  · rw[upd_ne (Ne.symm (h4 k a ha).1)];exact h3
  · rw[hg]
    by_cases hi:i=k
    · subst hi
      rw[ha]at e
      cases e
      rw[if_pos rfl,upd_same,vS_app]
      rfl
    · rw[if_neg hi,upd_ne (fun z=>?_)]
      · exact(h4 i b e).2.2
      · subst z
        have l1:=(List.getElem?_eq_some_iff.mp e).1
        have l2:=(List.getElem?_eq_some_iff.mp ha).1
        have:=(List.getElem?_inj l1 h2).mp (e.trans ha.symm)
        exact hi this
def rowsOf(N:Nat)(cs:List (List Nat)):List (List Nat):=(List.range N).map fun k=>cs.map fun c=>c.getD k 0
theorem rowsOf_at{N k:Nat}(cs:List (List Nat))(h:k < N):(rowsOf N cs)[k]? = some (cs.map fun c=>c.getD k 0):=by rw[rowsOf,List.getElem?_map,List.getElem?_range h];rfl
theorem rowsOf_len(N:Nat)(cs:List (List Nat)):(rowsOf N cs).length=N:=by simp[rowsOf]
theorem RWS.ll{H0:Hp}{sp:Addr}{N:Nat}{cs:List (List Nat)}{G:Hp}(h:RWS H0 sp N (fun i=>cs.map fun c=>c.getD i 0) G):LL (rowsOf N cs) (.ref sp) G:=by
  obtain⟨h0,as,h1,h2,h3,h4⟩:=h
  refine⟨sp,_,rfl,h3,?_,fun j hj=>?_⟩
  · rw[List.length_map,h1,rowsOf_len]
  · rw[rowsOf_len]at hj
    obtain⟨a,ea⟩:∃a,as[j]? = some a:=⟨_,List.getElem?_eq_getElem (by omega)⟩
    exact⟨.ref a,by rw[List.getElem?_map,ea];rfl,_,rowsOf_at cs hj,a,rfl,(h4 j a ea).2.2⟩
theorem is_vS{H:Hp}{a:Addr}{c:List Nat}(h:H a=some (.lst (vS c))):Is K H (.ref a) (.list ((c.map fun i:Nat=>(i:Int)).map PyData.int)):=.lst (SqL.of h) (by rw[vS_eq];exact isAll_ints _)
theorem nm_int(ns:List Int)(x:Int):∀e∈ns.map PyData.int,noMix e (.int x)=true:=fun e he=>by
  obtain⟨c,_,rfl⟩:=List.mem_map.mp he
  rfl
theorem any_int(c:List Nat)(x:Int):(((c.map fun i:Nat=>(i:Int)).map PyData.int).any fun y=>PySem.Spec.same y (.int x))=decide (∃i∈c,(i:Int)=x):=by
  rw[List.any_map,List.any_map]
  by_cases h:∃i∈c,(i:Int)=x
  · rw[decide_eq_true h,List.any_eq_true]
    obtain⟨i,hi,e⟩:=h
    exact⟨i,hi,by rw[← e];exact same_refl _⟩
  · rw[decide_eq_false h,List.any_eq_false]
    intro i hi q
    have:=eq_of_same _ _ q
    injection this with e
    exact h ⟨i,hi,e⟩
structure CsOk(l:List Nat)(N:Nat)(cs:List (List Nat)):Prop where
  lk:LOk l
  n0:0 < N
  n20:N≤20
  cl:cs.length=l.length
  c:∀c∈cs,c.length=N∧∀x∈c,x < N
def sp_lsteps:Sp:=fun vs H Q _=>∃av l N cs es,vs=[av,vT l]∧(BM l (unitB N 0) (sureT N cs) es av H∧es.length=N∧CsOk l N cs)∧∀a H',Same H H'→LL (rowsOf N cs) (.ref a) H'→Q (.ref a) H'
theorem ok_law_steps(T:Txt K mg t):FnOk Pr w K mg base CX0 2 t.law_steps t.d_law_steps ["_law_answer","_law_letters_here"] sp_lsteps:=by
  refine T.F_law_steps.ok sc_law_steps (fun vs H Q E h=>?_) (fun cdv A outer s H vs Q E hr h=>?_)
  · obtain⟨av,l,N,cs,es,rfl,_⟩:=h
    rfl
  · obtain⟨av,l,N,cs,es,rfl,⟨hM,eN,C⟩,k⟩:=h
    have z40:1000 < sizeLine:=by decide
    have l3:=C.lk.h3
    have n20:=C.n20
    have n0:=C.n0
    have cl:=C.cl
    obtain⟨p,sv,tv,ev,rfl,hp,hsv,⟨tp,tvs,rfl,htp,et⟩,⟨ep,rfl,hep⟩⟩:=id hM
    have slen:(sureT N cs).length=cs.length:=by rw[sureT,List.length_map]
    rw[slen]at et
    have l4:LenV K (.ref p) H 4:=.inr ⟨_,SqT.of hp,rfl⟩
    have le:LenV K (.ref ep) H N:=.inr ⟨_,SqT.of hep,by rw[List.length_map,eN]⟩
    have ll:LenV K (vT l) H (tx l).length:=⟨by rw[tx_len];omega,rfl⟩
    rw[tx_len]at ll
    have lt:LenV K (.ref tp) H cs.length:=.inr ⟨_,SqT.of htp,et.1.symm⟩
    refine⟨_,(pss_cons (ps_if (PW.pt (pw_or (pt_not (pt_val (pe_callB call_isi (by rfl) T.z_isinstance boot_isinstance (pa_cons (pv 0) (pa_cons (pe_bltn (v:=.ty "tuple") rfl T.z_tuple boot_tuple rfl) pa_nil))))) (pw_or (pt_cmpR op_ne (pe_callB call_len (by rfl) T.z_len PySem.boot_len (pa_cons (pv 0) pa_nil)) pe_int (nomark _)) (pw_or1 (pt_cmpR op_ne (pe_ix ix_tup (pv 0) pe_int (fun _ _=>rfl)) (pv 1) (nomark _)))))) (pss_one (ps_ret pe_non)) pss_nil) (pss_cons (ps_set (i:=2) sc_law_steps.nd rfl (Or.inl rfl) (pe_callB call_len (by rfl) T.z_len PySem.boot_len (pa_cons (pe_ix ix_tup (pv 0) pe_int (fun _ _=>rfl)) pa_nil))) (pss_cons (ps_if (PW.pt (pw_or (pt_cmpR op_ne (pe_call (ok_law_row T) hr.m rfl T.m_law_row T.F_law_row.kp T.b_law_row .nil pass0 (pa_cons (pe_ix ix_tup (pv 0) pe_int (fun _ _=>rfl)) (pa_cons (pv 2) pa_nil))) pe_int (nomark _)) (pw_or (pt_not (pt_val (pe_callB call_isi (by rfl) T.z_isinstance boot_isinstance (pa_cons (pe_ix ix_tup (pv 0) pe_int (fun _ _=>rfl)) (pa_cons (pe_bltn (v:=.ty "tuple") rfl T.z_tuple boot_tuple rfl) pa_nil))))) (pw_or1 (pt_cmpR op_ne (pe_callB call_len (by rfl) T.z_len PySem.boot_len (pa_cons (pe_ix ix_tup (pv 0) pe_int (fun _ _=>rfl)) pa_nil)) (pe_callB call_len (by rfl) T.z_len PySem.boot_len (pa_cons (pv 1) pa_nil)) (nomark _)))))) (pss_one (ps_ret pe_non)) pss_nil) (pss_cons (ps_if (PW.pt (pw_or (pt_not (pt_val (pe_callB call_isi (by rfl) T.z_isinstance boot_isinstance (pa_cons (pe_ix ix_tup (pv 0) pe_int (fun _ _=>rfl)) (pa_cons (pe_bltn (v:=.ty "tuple") rfl T.z_tuple boot_tuple rfl) pa_nil))))) (pw_or1 (pt_not (pt_val (pe_callB (call_all rfl) (by rfl) T.z_all boot_all (pa_cons (pe_comp (xs:=["_law_x"]) rfl (show CompOk ["_law_answer","_law_letters_here","_law_many","_law_steps_here","_law_table","_law_k"] (defScope s_law_steps) _ from⟨rfl,by decide +kernel,by decide +kernel,by decide +kernel,by decide +kernel,by decide +kernel⟩) (pi_tup (pe_ix ix_tup (pv 0) pe_int (fun _ _=>rfl))) (fun _ _ _ _ _=>(pg_name (i:=6) (by show List.Nodup (["_law_answer","_law_letters_here","_law_many","_law_steps_here","_law_table","_law_k","_law_x"]:List Str);decide +kernel) rfl (Or.inl rfl))) (fun _ _ _ _ _=>(pe_callB (show CallR _ (.builtin "isinstance") (rIsi K)from call_isi) (by rfl) T.z_isinstance boot_isinstance (pa_cons (pv 6) (pa_cons (pe_bltn (v:=.ty "bool") rfl T.z_bool boot_bool rfl) pa_nil))))) pa_nil))))))) (pss_one (ps_ret pe_non)) pss_nil) (pss_cons (ps_hideA 5 "#1" (by decide) (ps_setC (i₀:=3) (xs:=["_law_k"]) (by show List.Nodup (["_law_answer","_law_letters_here","_law_many","_law_steps_here","_law_table","#1"]:List Str);decide +kernel) rfl (Or.inl rfl) rfl (show CompOk ["_law_answer","_law_letters_here","_law_many","_law_steps_here","_law_table","#1"] (defScope s_law_steps) _ from⟨rfl,by decide +kernel,by decide +kernel,by decide +kernel,by decide +kernel,by decide +kernel⟩) (pi_range1 rfl T.z_range (pa_cons (pv 2) pa_nil)) (fun _ _ _ _ _=>(pg_name (i:=6) (by show List.Nodup (["_law_answer","_law_letters_here","_law_many","_law_steps_here","_law_table","#1","_law_k"]:List Str);decide +kernel) rfl (Or.inl rfl))) (fun _ _ _ _ _=>(pe_lst pa_nil)))) (pss_cons (ps_for PassesOwn.never rfl (pi_tup (pe_ix ix_tup (pv 0) pe_int (fun _ _=>rfl))) (pg_name (i:=4) sc_law_steps.nd rfl (Or.inl rfl)) (pss_cons (ps_if (PW.pt (pw_or (pt_not (pt_val (pe_callB call_isi (by rfl) T.z_isinstance boot_isinstance (pa_cons (pv 4) (pa_cons (pe_bltn (v:=.ty "tuple") rfl T.z_tuple boot_tuple rfl) pa_nil))))) (pw_or1 (pt_cmpR op_ne (pe_callB call_len (by rfl) T.z_len PySem.boot_len (pa_cons (pv 4) pa_nil)) (pv 2) (nomark _))))) (pss_one (ps_ret pe_non)) pss_nil) (pss_one (ps_for PassesOwn.never rfl (pi_range1 rfl T.z_range (pa_cons (pv 2) pa_nil)) (pg_name (i:=5) sc_law_steps.nd rfl (Or.inl rfl)) (pss_one (ps_expr (pe_bm PySem.F.plainAttrs_list PySem.F.slot_list_append PySem.F.type_list_append mt_append (pe_ix ix_list (pv 3) (pv 5) (fun _ _=>rfl)) (pa_cons (pe_call (ok_law_row T) hr.m rfl T.m_law_row T.F_law_row.kp T.b_law_row .nil pass0 (pa_cons (pe_ix ix_tup (pv 4) (pv 5) (fun _ _=>rfl)) (pa_cons (pv 2) pa_nil))) pa_nil)))))))) (pss_cons (ps_if (pt_val (pe_callB (call_any rfl) (by rfl) T.z_any boot_any (pa_cons (pe_comp (xs:=["_law_row_here"]) rfl (show CompOk ["_law_answer","_law_letters_here","_law_many","_law_steps_here","_law_table","_law_k"] (defScope s_law_steps) _ from⟨rfl,by decide +kernel,by decide +kernel,by decide +kernel,by decide +kernel,by decide +kernel⟩) (pi_list (pv 3)) (fun _ _ _ _ _=>(pg_name (i:=6) (by show List.Nodup (["_law_answer","_law_letters_here","_law_many","_law_steps_here","_law_table","_law_k","_law_row_here"]:List Str);decide +kernel) rfl (Or.inl rfl))) (fun _ _ _ _ _=>(pe_cmpR (show OpR _ (compareOp .In) (rInD K false)from op_inD hr.units1) (pe_un un_neg pe_int) (pv 6) (by with_unfolding_all rfl)))) pa_nil))) (pss_one (ps_ret pe_non)) pss_nil) (pss_one (ps_ret (pv 3)))))))))),?_⟩
    refine⟨_,rfl,_,_,_,_,rfl,TyOf.tup hp,T.k_tt,_,rfl,?_⟩
    (try refine iteF ?_)
    refine⟨_,rfl,_,_,rfl,l4,rfl,_,rfl,?_⟩
    dsimp only
    refine iteNI (fun z=>absurd rfl z) (fun _=>?_)
    refine⟨_,rfl,_,_,_,_,rfl,rfl,SqT.of hp,rfl,_,rfl,rfl,_,rfl,?_⟩
    have es1:(!decide (vT l=vT l))=false:=by simp
    dsimp only
    rw[es1]
    (try refine iteF ?_)
    refine⟨_,rfl,_,_,_,_,rfl,rfl,SqT.of hp,rfl,_,_,rfl,le,?_⟩
    refine⟨_,rfl,_,_,_,_,rfl,rfl,SqT.of hp,rfl,_,rfl,sv,N,0,rfl,⟨hsv,n0,n20⟩,fun H1 s1=>?_⟩
    refine⟨rfl,_,rfl,?_⟩
    dsimp only
    refine iteNI (fun z=>absurd rfl z) (fun _=>?_)
    refine⟨_,rfl,_,_,_,_,rfl,rfl,SqT.of (s1 _ _ hp),rfl,_,_,_,_,rfl,TyOf.tup (s1 _ _ hep),T.k_tt,_,rfl,?_⟩
    (try refine iteF ?_)
    have lt1:LenV K (.ref tp) H1 cs.length:=.inr ⟨_,SqT.of (s1 _ _ htp),et.1.symm⟩
    have ll1:LenV K (vT l) H1 (tx l).length:=⟨by rw[tx_len];omega,rfl⟩
    rw[tx_len]at ll1
    refine⟨_,rfl,_,_,_,_,rfl,rfl,SqT.of (s1 _ _ hp),rfl,_,_,rfl,lt1,_,rfl,_,_,rfl,ll1,rfl,_,rfl,?_⟩
    dsimp only
    refine iteNI (fun z=>absurd (by omega) z) (fun _=>?_)
    refine⟨_,rfl,_,_,_,_,rfl,rfl,SqT.of (s1 _ _ hp),rfl,_,_,_,_,rfl,TyOf.tup (s1 _ _ htp),T.k_tt,_,rfl,?_⟩
    (try refine iteF ?_)
    refine⟨_,rfl,_,_,_,_,rfl,rfl,SqT.of (s1 _ _ hp),rfl,ep,rfl,⟨_,SqT.of (s1 _ _ hep)⟩,comp_go (n:=N) (fun j zs F=>F=H1∧zs=(List.replicate j true).map V.bl) (by omega) ⟨rfl,rfl⟩ (fun j zs F q=>by rw[q.2];simp) ?_ ?_ ?_⟩
    · rintro j zs F hj ⟨rfl,rfl⟩
      have hep1:=s1 _ _ hep
      have eu:(es.map V.bl)[j]? = some (.bl (es[j]'(by omega))):=by rw[List.getElem?_map,List.getElem?_eq_getElem (by omega)];rfl
      refine⟨⟨_,_,SqT.of hep1,eu⟩,fun y F' hy=>?_⟩
      obtain⟨rfl,hy⟩:=hy
      have:=hy _ (SqT.of hep1)
      rw[eu]at this
      cases this
      refine⟨⟨[some _],rfl,rfl⟩,_,rfl,_,_,_,_,rfl,TyOf.bl _,T.k_bb,rfl,?_⟩
      rw[List.replicate_succ',List.map_append]
      rfl
    · rintro zs F ⟨rfl,rfl⟩
      exact⟨_,SqT.of (s1 _ _ hep),by rw[List.length_map,eN];exact Nat.le_refl _⟩
    · rintro zs F l7 ⟨rfl,rfl⟩ n7
      have t7:=same_upd (o:=.lst ((List.replicate N true).map V.bl)) n7
      refine⟨l7,List.replicate N true,rfl,SqL.of upd_same,true,congrArg V.bl (all_true N),?_⟩
      (try refine iteF ?_)
      have s7:=s1.trans t7
      clear n7 t7 lt1 ll1
      revert s7
      generalize upd F l7 (.lst ((List.replicate N true).map V.bl))=H2
      intro s2
      refine⟨rfl,_,rfl,_,rfl,(by omega),(by omega),comp_go (n:=N) (fun j ys G=>Same H G∧∃as:List Addr,as.length=j∧as.Nodup∧ys=as.map V.ref∧∀i a,as[i]? = some a→H a=none∧G a=some (.lst [])) (by omega) ⟨s2,[],rfl,List.nodup_nil,rfl,fun i a e=>by rw[List.getElem?_nil]at e;cases e⟩ (fun j ys G q=>by obtain⟨_,as,e,_,q,_⟩:=q;rw[q,List.length_map,e]) ?_ ?_ ?_⟩
      · rintro j ys G hj ⟨sG,as,e1,e2,rfl,e4⟩
        refine⟨(show j < (N:Int).toNat by omega),fun y G' hy=>?_⟩
        obtain⟨rfl,rfl⟩:=hy
        refine⟨⟨[some _],rfl,rfl⟩,Nat.zero_le _,fun a na=>?_⟩
        have t3:=same_upd (o:=.lst []) na
        have na0:H a=none:=by
          cases e:H a with
          | none=>rfl
          | some o=>rw[sG _ _ e]at na;cases na
        refine⟨sG.trans t3,as++[a],by simp[e1],?_,by simp,fun i b eb=>?_⟩
        · refine List.nodup_append.mpr ⟨e2,by simp,fun x hx y hy z=>?_⟩
          rw[List.mem_singleton.mp hy]at z
          subst z
          obtain⟨i,hi,e⟩:=List.getElem_of_mem hx
          have:=(e4 i x (by rw[List.getElem?_eq_getElem hi,e])).2
          rw[this]at na
          cases na
        · by_cases q:i < as.length
          · rw[List.getElem?_append_left q]at eb
            exact⟨(e4 i b eb).1,t3 _ _ (e4 i b eb).2⟩
          · rw[List.getElem?_append_right (by omega)]at eb
            have:i - as.length=0:=by
              have:=(List.getElem?_eq_some_iff.mp eb).1
              simp at this
              omega
            rw[this]at eb
            have:a=b:=by simpa using eb
            subst this
            exact⟨na0,upd_same⟩
      · rintro ys G ⟨sG,_⟩
        show(N:Int).toNat≤N
        omega
      · rintro ys G sp ⟨sG,as,e1,e2,rfl,e4⟩ nsp
        have t3:=same_upd (o:=.lst (as.map V.ref)) nsp
        have nsp0:H sp=none:=by
          cases e:H sp with
          | none=>rfl
          | some o=>rw[sG _ _ e]at nsp;cases nsp
        have R0:RWS H sp N (fun _=>[]) (upd G sp (.lst (as.map V.ref))):=⟨nsp0,as,e1,e2,upd_same,fun i a e=>⟨ne_of_none (e4 i a e).2 nsp,(e4 i a e).1,t3 _ _ (e4 i a e).2⟩⟩
        have s3:=sG.trans t3
        clear t3 nsp e4 sG e2 e1
        revert R0 s3
        generalize upd G sp (.lst (as.map V.ref))=H3
        intro R0 s3
        clear as
        refine⟨_,rfl,_,_,_,_,rfl,rfl,SqT.of (s3 _ _ hp),rfl,tp,rfl,⟨_,SqT.of (s3 _ _ htp)⟩,for_it (n:=cs.length) (fun j σ G=>∃v4 v5,σ=[some (.ref p),some (vT l),some (.int (N:Int)),some (.ref sp),v4,v5]∧Same H G∧RWS H sp N (fun i=>(cs.take j).map fun c=>c.getD i 0) G) ⟨_,_,rfl,s3,R0⟩ ?_ ?_⟩
        · rintro j σ G hj ⟨v4,v5,rfl,sG,R⟩
          obtain⟨u,eu,m,em,hu⟩:=et.2 j hj
          obtain⟨c,ec⟩:∃c,cs[j]? = some c:=⟨_,List.getElem?_eq_getElem hj⟩
          have em':m=c.map (unitB N):=by rw[sureT,List.getElem?_map,ec]at em;exact(Option.some.inj em).symm
          subst em'
          obtain⟨c1,c2⟩:=C.c c (List.mem_of_getElem? ec)
          refine⟨⟨_,_,SqT.of (sG _ _ htp),eu⟩,fun y G4 hy=>?_⟩
          obtain⟨rfl,hy⟩:=hy
          have:=hy _ (SqT.of (sG _ _ htp))
          rw[eu]at this
          cases this
          obtain⟨up,uvs,rfl,hup,eup⟩:=hu.same sG.t
          rw[List.length_map,c1]at eup
          have lu:LenV K (.ref up) G4 N:=.inr ⟨_,SqT.of hup,eup.1.symm⟩
          refine⟨_,rfl,_,_,_,_,rfl,TyOf.tup hup,T.k_tt,_,rfl,?_⟩
          (try refine iteF ?_)
          refine⟨_,rfl,_,_,rfl,lu,_,rfl,rfl,_,rfl,?_⟩
          dsimp only
          refine iteNI (fun z=>absurd rfl z) (fun _=>?_)
          refine⟨_,rfl,_,rfl,(by omega),(by omega),for_it (n:=N) (fun q σ G=>∃v5,σ=[some (.ref p),some (vT l),some (.int (N:Int)),some (.ref sp),some (.ref up),v5]∧Same H G∧SameT G4 G∧RWS H sp N (fun i=>(cs.take (if i < q then j+1 else j)).map fun c=>c.getD i 0) G) ⟨_,rfl,sG,SameT.refl _,by simpa using R⟩ ?_ ?_⟩
          · rintro q σ G hq ⟨w5,rfl,sF,uF,R⟩
            refine⟨(show q < (N:Int).toNat by omega),fun y G5 hy=>?_⟩
            obtain⟨rfl,rfl⟩:=hy
            obtain⟨r0,as,r1,r2,r3,r4⟩:=id R
            obtain⟨a,ea⟩:∃a,as[q]? = some a:=⟨_,List.getElem?_eq_getElem (by omega)⟩
            obtain⟨a1,a2,a3⟩:=r4 q a ea
            obtain⟨rv,erv,r,er,hrv⟩:=eup.2 q hq
            have er':r=unitB N (c[q]'(by omega)):=by rw[List.getElem?_map,List.getElem?_eq_getElem (by omega)]at er;exact(Option.some.inj er).symm
            subst er'
            have q0:(0:Int)+(q:Int)=(q:Int):=by omega
            have ats:atI (as.map V.ref) ((0:Int)+(q:Int))=some (.ref a):=by rw[q0];exact atI_nat (by rw[List.getElem?_map,ea];rfl)
            refine⟨_,rfl,_,rfl,_,_,_,_,rfl,rfl,SqL.of r3,ats,.inl ⟨rfl,_,SqL.of a3⟩,?_⟩
            refine⟨_,rfl,_,rfl,_,_,_,_,rfl,rfl,SqT.of (uF _ _ hup),(by rw[q0];exact atI_nat erv),_,rfl,rv,N,c[q]'(by omega),rfl,⟨hrv.same uF,c2 _ (List.getElem_mem _),n20⟩,fun F6 s6=>?_⟩
            have lf:(vS ((cs.take (if q < q then j+1 else j)).map fun c=>c.getD q 0)).length≤20:=by
              rw[vS_len,List.length_map,List.length_take];omega
            refine⟨a,_,_,rfl,rfl,s6 _ _ a3,Nat.lt_of_le_of_lt lf (by omega),?_⟩
            refine⟨_,rfl,fun b o hb=>?_,fun b ws hb=>?_,?_⟩
            · rw[upd_ne (ne_of_none hb a2)];exact s6 _ _ (sF _ _ hb)
            · have z:=s6.t _ _ (uF _ _ hb)
              rw[upd_ne (fun e=>by subst e;rw[s6 _ _ a3]at z;cases z)]
              exact z
            · refine RWS.push r1 r0 r2 (s6 _ _ r3) (fun i b e=>⟨(r4 i b e).1,(r4 i b e).2.1,s6 _ _ (r4 i b e).2.2⟩) ea (fun i=>?_)
              by_cases h:i=q
              · subst h
                rw[if_pos (by omega),if_pos rfl,if_neg (by omega),List.take_succ,ec,List.map_append]
                simp
                rw[List.getElem?_eq_getElem (by omega)]
                rfl
              · rw[if_neg h]
                by_cases h2:i < q
                · rw[if_pos h2,if_pos (by omega)]
                · rw[if_neg h2,if_neg (by omega)]
          · rintro σ G ⟨w5,rfl,sF,uF,R⟩
            refine⟨(show(N:Int).toNat≤N by omega),_,_,rfl,sF,?_⟩
            obtain⟨r0,as,r1,r2,r3,r4⟩:=R
            refine⟨r0,as,r1,r2,r3,fun i b e=>⟨(r4 i b e).1,(r4 i b e).2.1,?_⟩⟩
            have:=(r4 i b e).2.2
            dsimp only at this
            rw[if_pos (by have:=(List.getElem?_eq_some_iff.mp e).1;omega)]at this
            exact this
        · rintro σ G ⟨v4,v5,rfl,sG,R⟩
          refine⟨⟨_,SqT.of (sG _ _ htp),by rw[et.1];exact Nat.le_refl _⟩,?_⟩
          rw[List.take_length]at R
          have hL:=R.ll
          obtain⟨sp',svs,esp,hsp,esp2⟩:=id hL
          cases esp
          rw[rowsOf_len]at esp2
          refine⟨_,rfl,sp,rfl,⟨_,SqL.of hsp⟩,comp_go (n:=N) (fun j zs F=>F=G∧zs=(List.replicate j false).map V.bl) (by omega) ⟨rfl,rfl⟩ (fun j zs F q=>by rw[q.2];simp) ?_ ?_ ?_⟩
          · rintro j zs F hj ⟨rfl,rfl⟩
            obtain⟨u,eu,c,ec,b,rfl,hb⟩:=esp2.2 j hj
            refine⟨⟨_,_,SqL.of hsp,eu⟩,fun y F' hy=>?_⟩
            obtain⟨rfl,hy⟩:=hy
            have:=hy _ (SqL.of hsp)
            rw[eu]at this
            cases this
            refine⟨⟨[some _],rfl,rfl⟩,_,rfl,_,rfl,.int (-1),_,.int (-1),is_vS hb,rfl,shaped_ints _,nm_int _ _,rfl,?_⟩
            have:¬∃i∈c,(i:Int) = -1:=fun⟨i,_,e⟩=>by omega
            rw[any_int,decide_eq_false this,List.replicate_succ',List.map_append]
            rfl
          · rintro zs F ⟨rfl,rfl⟩
            exact⟨_,SqL.of hsp,by rw[esp2.1];exact Nat.le_refl _⟩
          · rintro zs F l9 ⟨rfl,rfl⟩ n9
            have t9:=same_upd (o:=.lst ((List.replicate N false).map V.bl)) n9
            refine⟨l9,List.replicate N false,rfl,SqL.of upd_same,false,congrArg V.bl (any_false N),?_⟩
            (try refine iteF ?_)
            refine⟨_,rfl,?_⟩
            exact k _ _ (sG.trans t9) (hL.same t9)
def addN(met:List Nat)(x:Nat):List Nat:=if x∈met then met else met++[x]
def ordN(rows:List (List Nat)):Nat→List Nat
  | 0=>[0]
  | i+1=>(rows.getD i []).foldl addN (ordN rows i)
structure InOrd(rows:List (List Nat)):Prop where
  go:∀k,k < rows.length→k < (ordN rows k).length
  last:ordN rows rows.length=List.range rows.length
  le:∀k,k≤rows.length→(ordN rows k).length≤rows.length
theorem addN_len(met:List Nat)(x:Nat):(addN met x).length≤met.length+1:=by
  unfold addN
  split
  · omega
  · simp
theorem foldN_len:∀(us met:List Nat),(us.foldl addN met).length≤met.length+us.length
  | [],met=>by simp
  | u::us,met=>by
    have:=foldN_len us (addN met u)
    have:=addN_len met u
    simp
    omega
def sp_inorder:Sp:=fun vs H Q _=>∃sv rows,vs=[sv]∧(LL rows sv H∧InOrd rows∧rows.length≤20∧∀r∈rows,r.length≤3)∧∀H',Same H H'→Q (.bl true) H'
theorem ok_law_in_order(T:Txt K mg t):FnOk Pr w K mg base CX0 1 t.law_in_order t.d_law_in_order ["_law_steps_here"] sp_inorder:=by
  refine T.F_law_in_order.ok sc_law_in_order (fun vs H Q E h=>?_) (fun cdv A outer s H vs Q E hr h=>?_)
  · obtain⟨sv,rows,rfl,_⟩:=h
    rfl
  · obtain⟨sv,rows,rfl,⟨⟨sa,svs,rfl,hsa,esa⟩,O,r20,r3⟩,k⟩:=h
    have z40:1000 < sizeLine:=by decide
    refine⟨_,(pss_cons (ps_set (i:=1) sc_law_in_order.nd rfl (Or.inl rfl) (pe_lst (pa_cons pe_int pa_nil))) (pss_cons (ps_for PassesOwn.never rfl (pi_range1 rfl T.z_range (pa_cons (pe_callB call_len (by rfl) T.z_len PySem.boot_len (pa_cons (pv 0) pa_nil)) pa_nil)) (pg_name (i:=2) sc_law_in_order.nd rfl (Or.inl rfl)) (pss_cons (ps_if (pt_cmpR op_ge (pv 2) (pe_callB call_len (by rfl) T.z_len PySem.boot_len (pa_cons (pv 1) pa_nil)) (nomark _)) (pss_one (ps_ret pe_bl)) pss_nil) (pss_one (ps_for PassesOwn.never rfl (pi_list (pe_ix ix_list (pv 0) (pv 2) (fun _ _=>rfl))) (pg_name (i:=3) sc_law_in_order.nd rfl (Or.inl rfl)) (pss_one (ps_if (pt_cmpR (op_notInD hr.units1) (pv 3) (pv 1) (by with_unfolding_all rfl)) (pss_one (ps_expr (pe_bm PySem.F.plainAttrs_list PySem.F.slot_list_append PySem.F.type_list_append mt_append (pv 1) (pa_cons (pv 3) pa_nil)))) pss_nil)))))) (pss_one (ps_ret (pe_cmpR (op_eqD hr.units) (pv 1) (pe_lrange rfl rfl T.z_list rfl T.z_range (pa_cons (pe_callB call_len (by rfl) T.z_len PySem.boot_len (pa_cons (pv 0) pa_nil)) pa_nil)) (nomark _)))))),?_⟩
    refine⟨(by show 1≤sizeLine;decide),fun mp nmp=>?_⟩
    have t1:=same_upd (o:=.lst [.int 0]) nmp
    have k1:=upd_same (H:=H) (a:=mp) (o:=.lst [.int 0])
    revert t1 k1
    generalize upd H mp (.lst [.int 0])=H1
    intro t1 k1
    have ls:LenV K (.ref sa) H1 rows.length:=.inl ⟨_,SqL.of (t1 _ _ hsa),esa.1.symm⟩
    refine⟨_,rfl,_,_,rfl,ls,_,rfl,(by omega),(by omega),for_it (n:=rows.length) (fun i σ G=>∃v2 v3,σ=[some (.ref sa),some (.ref mp),v2,v3]∧Same H G∧G mp=some (.lst (vS (ordN rows i)))) ⟨_,_,rfl,t1,k1⟩ ?_ ?_⟩
    · rintro i σ G hi ⟨v2,v3,rfl,sG,kG⟩
      refine⟨(show i < (rows.length:Int).toNat by omega),fun y G4 hy=>?_⟩
      obtain⟨rfl,rfl⟩:=hy
      have lm:LenV K (.ref mp) G4 (ordN rows i).length:=.inl ⟨_,SqL.of kG,(vS_len _).symm⟩
      refine⟨_,rfl,_,rfl,_,_,rfl,lm,_,_,rfl,rfl,_,rfl,?_⟩
      have g0:=O.go i hi
      refine iteP (fun z=>absurd z (by omega)) (fun _=>?_)
      obtain⟨u,eu,row,er,b,rfl,hb⟩:=esa.2 i hi
      have i0:(0:Int)+(i:Int)=(i:Int):=by omega
      have hb4:=sG _ _ hb
      have le1:=O.le i (by omega)
      have rl:=r3 row (List.mem_of_getElem? er)
      have on:ordN rows (i+1)=row.foldl addN (ordN rows i):=by rw[ordN,List.getD_eq_getElem?_getD,er];rfl
      refine⟨_,rfl,_,rfl,_,_,_,_,rfl,rfl,SqL.of (sG _ _ hsa),(by rw[i0];exact atI_nat eu),b,rfl,⟨_,SqL.of hb4⟩,for_it (n:=row.length) (fun q σ G=>∃v3,σ=[some (.ref sa),some (.ref mp),some (.int ((0:Int)+(i:Int))),v3]∧Same H G∧G mp=some (.lst (vS ((row.take q).foldl addN (ordN rows i))))) ⟨_,rfl,sG,kG⟩ ?_ ?_⟩
      · rintro q σ F hq ⟨w3,rfl,sF,kF⟩
        have ei:(vS row)[q]? = some (.int ((row[q]:Nat):Int)):=vS_at (List.getElem?_eq_getElem hq)
        refine⟨⟨_,_,SqL.of (sF _ _ hb),ei⟩,fun y F4 hy=>?_⟩
        obtain⟨rfl,hy⟩:=hy
        have:=hy _ (SqL.of (sF _ _ hb))
        rw[ei]at this
        cases this
        have tk:(row.take (q+1)).foldl addN (ordN rows i)=addN ((row.take q).foldl addN (ordN rows i)) row[q]:=by
          rw[List.take_succ,List.getElem?_eq_getElem hq,List.foldl_append];rfl
        have fl:=foldN_len (row.take q) (ordN rows i)
        rw[List.length_take]at fl
        refine⟨_,rfl,_,rfl,.int _,_,.int _,is_vS kF,rfl,shaped_ints _,nm_int _ _,_,rfl,?_⟩
        dsimp only
        rw[any_int]
        by_cases hin:row[q]∈(row.take q).foldl addN (ordN rows i)
        · rw[decide_eq_true (show ∃i'∈(row.take q).foldl addN (ordN rows i),(i':Int)=((row[q]:Nat):Int)from⟨_,hin,rfl⟩)]
          (try refine iteF ?_)
          refine⟨_,rfl,sF,?_⟩
          rw[tk,addN,if_pos hin]
          exact kF
        · rw[decide_eq_false (show ¬∃i'∈(row.take q).foldl addN (ordN rows i),(i':Int)=((row[q]:Nat):Int)from fun⟨x,hx,e⟩=>hin (by rw[← Int.ofNat.inj e];exact hx))]
          (try refine iteT ?_)
          refine⟨_,rfl,.inl ⟨rfl,_,SqL.of kF⟩,_,rfl,mp,_,_,rfl,rfl,kF,(by rw[vS_len];omega),?_⟩
          refine⟨_,rfl,fun c o hc=>?_,?_⟩
          · rw[upd_ne (ne_of_none hc nmp)];exact sF _ _ hc
          · rw[tk,addN,if_neg hin,vS_app]
            exact upd_same
      · rintro σ F ⟨w3,rfl,sF,kF⟩
        rw[List.take_length,← on]at kF
        exact⟨⟨_,SqL.of (sF _ _ hb),by rw[vS_len];exact Nat.le_refl _⟩,_,_,rfl,sF,kF⟩
    · rintro σ G ⟨v2,v3,rfl,sG,kG⟩
      refine⟨(show(rows.length:Int).toNat≤rows.length by omega),?_⟩
      have ls:LenV K (.ref sa) G rows.length:=.inl ⟨_,SqL.of (sG _ _ hsa),esa.1.symm⟩
      refine⟨_,rfl,_,rfl,_,_,rfl,ls,rows.length,rfl,(by omega),fun rp nrp=>?_⟩
      have t5:=same_upd (o:=.lst ((List.range rows.length).map fun i=>V.int (i:Nat))) nrp
      rw[O.last]at kG
      refine⟨_,_,is_vS (t5 _ _ kG),is_vS (c:=List.range rows.length) upd_same,shaped_ints _,shaped_ints _,nm_ints _ _,?_⟩
      rw[same_refl]
      exact k _ (sG.trans t5)
theorem addS_pre(P:List (List Nat))(x:List Nat):P <+: addS P x:=by
  unfold addS
  split
  · exact List.prefix_refl _
  · exact List.prefix_append _ _
theorem grow_pre(S:List Nat):∀(us:List (List (List Bool))) (P:List (List Nat)),P <+: growS us P S
  | [],P=>List.prefix_refl _
  | m::us,P=>(addS_pre P (nxtS m S)).trans (grow_pre S us (addS P (nxtS m S)))
theorem grow_split(ts:List (List (List Bool)))(q:Nat)(P:List (List Nat))(S:List Nat):growS (ts.take q) P S <+: growS ts P S:=by
  have e:growS ts P S=growS (ts.drop q) (growS (ts.take q) P S) S:=by
    conv=>lhs;rw[← List.take_append_drop q ts]
    rw[growS,List.foldl_append]
    rfl
  rw[e]
  exact grow_pre _ _ _
theorem bfs_pre1(st:List Bool)(ts:List (List (List Bool)))(i:Nat):bfs st ts i <+: bfs st ts (i+1):=by
  rw[bfs]
  split
  · exact grow_pre _ _ _
  · exact List.prefix_refl _
theorem bfs_pre{st:List Bool}{ts:List (List (List Bool))}(i:Nat):∀d,bfs st ts i <+: bfs st ts (i+d)
  | 0=>List.prefix_refl _
  | d+1=>(bfs_pre i d).trans (bfs_pre1 st ts (i+d))
theorem bfs_le{st:List Bool}{ts:List (List (List Bool))}{i j:Nat}(h:i≤j):bfs st ts i <+: bfs st ts j:=by
  have:=bfs_pre (st:=st) (ts:=ts) i (j - i)
  rw[show i+(j - i)=j by omega]at this
  exact this
theorem pre_at{α:Type}{P Ts:List α}(h:P <+: Ts){i:Nat}{x:α}(e:P[i]? = some x):Ts[i]? = some x:=by
  obtain⟨r,rfl⟩:=h
  rw[List.getElem?_append_left (List.getElem?_eq_some_iff.mp e).1]
  exact e
theorem step_ix{P Ts:List (List Nat)}{x:List Nat}(hp:addS P x <+: Ts):(x∈P∧Ts.idxOf x < P.length∧addS P x=P∧P[Ts.idxOf x]? = some x)∨(x ∉ P∧Ts.idxOf x=P.length∧addS P x=P++[x]):=by
  obtain⟨r,rfl⟩:=hp
  by_cases h:x∈P
  · have e:addS P x=P:=if_pos h
    rw[e,List.idxOf_append,if_pos h]
    have hl:=List.idxOf_lt_length_iff.mpr h
    exact .inl ⟨h,hl,rfl,by rw[List.getElem?_eq_getElem hl,List.getElem_idxOf]⟩
  · have e:addS P x=P++[x]:=if_neg h
    rw[e,List.append_assoc,List.idxOf_append,if_neg h]
    exact .inr ⟨h,by simp,rfl⟩
theorem ord_fold(Ts:List (List Nat))(S:List Nat):∀(us:List (List (List Bool))) (P:List (List Nat)),growS us P S <+: Ts→(us.map fun m=>Ts.idxOf (nxtS m S)).foldl addN (List.range P.length)=List.range (growS us P S).length
  | [],P,_=>rfl
  | m::us,P,h=>by
    have h1:addS P (nxtS m S) <+: Ts:=(grow_pre S us _).trans h
    have e:addN (List.range P.length) (Ts.idxOf (nxtS m S))=List.range (addS P (nxtS m S)).length:=by
      rcases step_ix h1 with ⟨_,h3,h4,_⟩ | ⟨_,h3,h4⟩
      · rw[h4,addN,if_pos (List.mem_range.mpr h3)]
      · rw[h4,h3,addN,if_neg (by simp),List.length_append,List.length_singleton,List.range_succ]
    rw[List.map_cons,List.foldl_cons,e]
    exact ord_fold Ts S us _ h
theorem rows_bfs{ts:List (List (List Bool))}{Ts:List (List Nat)}{i:Nat}{S:List Nat}(h:Ts[i]? = some S):((ts.map (colS Ts)).map fun c=>c.getD i 0)=ts.map fun m=>Ts.idxOf (nxtS m S):=by
  rw[List.map_map]
  refine List.map_congr_left fun m _=>?_
  show(colS Ts m).getD i 0=_
  rw[colS,List.getD_eq_getElem?_getD,List.getElem?_map,h]
  rfl
theorem ord_bfs{st:List Bool}{ts:List (List (List Bool))}{N:Nat}(run:Run st ts N):∀i,i≤N→ordN (rowsOf N (ts.map (colS (bfs st ts N)))) i=List.range (bfs st ts i).length
  | 0,_=>rfl
  | i+1,h=>by
    obtain⟨S,eS⟩:∃S,(bfs st ts i)[i]? = some S:=⟨_,List.getElem?_eq_getElem (run.go i (by omega)).1⟩
    have eT:=pre_at (bfs_le (show i≤N by omega)) eS
    rw[ordN,ord_bfs run i (by omega),List.getD_eq_getElem?_getD,rowsOf_at _ (by omega),Option.getD_some,rows_bfs eT,bfs_succ eS]
    exact ord_fold _ _ _ _ (by rw[← bfs_succ eS];exact bfs_le h)
theorem inord_bfs{st:List Bool}{ts:List (List (List Bool))}{N:Nat}(run:Run st ts N)(hN:(bfs st ts N).length=N):InOrd (rowsOf N (ts.map (colS (bfs st ts N)))):=by
  refine⟨fun k hk=>?_,?_,fun k hk=>?_⟩
  · rw[rowsOf_len]at hk
    rw[ord_bfs run k (by omega),List.length_range]
    exact(run.go k hk).1
  · rw[rowsOf_len,ord_bfs run N (Nat.le_refl _),hN]
  · rw[rowsOf_len]at hk ⊢
    rw[ord_bfs run k hk,List.length_range]
    have:=(bfs_le (st:=st) (ts:=ts) hk).length_le
    omega
theorem run_len{st:List Bool}{ts:List (List (List Bool))}{N:Nat}(run:Run st ts N)(h:(bfs st ts N).length≤N):(bfs st ts N).length=N:=by
  cases N with
  | zero=>simp[bfs]at h
  | succ N=>
    have:=(run.go N (by omega)).1
    have:=(bfs_le (st:=st) (ts:=ts) (show N≤N+1 by omega)).length_le
    omega
theorem tok_bfs{st:List Bool}{ts:List (List (List Bool))}{n N:Nat}(hL:ts.length=1∨ts.length=2∨ts.length=3)(run:Run st ts N)(h:(bfs st ts N).length≤N)(h20:(bfs st ts N).length≤20)(ok:∀S∈bfs st ts N,SOk n S):TOk ts n (bfs st ts N):=by
  obtain⟨Ws,I⟩:=bfs_SI hL N run
  refine⟨ok,fun m hm S hS=>?_,I.nd,h20⟩
  obtain⟨j,hj,ej⟩:=List.getElem_of_mem hS
  obtain⟨k,hk,ek⟩:=List.getElem_of_mem hm
  obtain⟨d1,d2⟩:=dm2 hL j k hk
  have:=I.cl (j * ts.length+k) S (by
    have:(j+1) * ts.length≤N * ts.length:=Nat.mul_le_mul_right _ (by omega)
    rw[Nat.succ_mul]at this
    omega) (by rw[d1,List.getElem?_eq_getElem hj,ej])
  rw[d2,fS_at (m:=m) (by rw[List.getElem?_eq_getElem hk,ek])]at this
  exact this
def hasD(P:List PyData)(d:PyData):Bool:=P.any fun y=>PySem.Spec.same y d
theorem hasD_iff{P:List PyData}{d:PyData}:hasD P d=true↔d∈P:=by
  unfold hasD
  rw[List.any_eq_true]
  exact⟨fun⟨x,hx,e⟩=>by rw[← eq_of_same _ _ e];exact hx,fun h=>⟨d,h,same_refl d⟩⟩
def addD(P:List PyData)(d:PyData):List PyData:=if hasD P d=true then P else P++[d]
def nubD(ds:List PyData):List PyData:=ds.foldl addD []
def idxD(P:List PyData)(d:PyData):Nat:=P.findIdx fun y=>PySem.Spec.same y d
def numD(ds:List PyData):List Nat:=ds.map (idxD (nubD ds))
theorem addD_pre(P:List PyData)(d:PyData):P <+: addD P d:=by
  unfold addD
  split
  · exact List.prefix_refl _
  · exact List.prefix_append _ _
theorem fold_pre:∀(ds P:List PyData),P <+: ds.foldl addD P
  | [],P=>List.prefix_refl _
  | d::ds,P=>(addD_pre P d).trans (fold_pre ds (addD P d))
theorem nub_pre(ds:List PyData)(i:Nat):nubD (ds.take i) <+: nubD ds:=by
  have e:nubD ds=(ds.drop i).foldl addD (nubD (ds.take i)):=by
    unfold nubD
    rw[← List.foldl_append,List.take_append_drop]
  rw[e];exact fold_pre _ _
theorem nub_snoc(ds:List PyData)(d:PyData):nubD (ds++[d])=addD (nubD ds) d:=by
  unfold nubD;rw[List.foldl_append];rfl
theorem addD_mem{P:List PyData}{d x:PyData}:x∈addD P d↔x∈P∨x=d:=by
  unfold addD
  split
  · rename_i h
    exact⟨.inl,fun q=>q.elim id fun e=>by rw[e];exact hasD_iff.mp h⟩
  · rw[List.mem_append,List.mem_singleton]
theorem fold_mem{x:PyData}:∀(ds P:List PyData),x∈ds.foldl addD P↔x∈P∨x∈ds
  | [],P=>by simp
  | d::ds,P=>by
    rw[List.foldl_cons,fold_mem ds,addD_mem,List.mem_cons]
    constructor
    · rintro((h | h) | h)
      · exact .inl h
      · exact .inr (.inl h)
      · exact .inr (.inr h)
    · rintro(h | h | h)
      · exact .inl (.inl h)
      · exact .inl (.inr h)
      · exact .inr h
theorem nub_mem{x:PyData}{ds:List PyData}:x∈nubD ds↔x∈ds:=by
  unfold nubD;rw[fold_mem];simp
theorem addD_len(P:List PyData)(d:PyData):(addD P d).length≤P.length+1:=by
  unfold addD
  split <;>simp
theorem fold_len:∀(ds P:List PyData),(ds.foldl addD P).length≤P.length+ds.length
  | [],P=>by simp
  | d::ds,P=>by
    have:=fold_len ds (addD P d)
    have:=addD_len P d
    rw[List.foldl_cons,List.length_cons];omega
theorem nub_len(ds:List PyData):(nubD ds).length≤ds.length:=by
  have:=fold_len ds []
  unfold nubD;simpa using this
theorem idx_first{P:List PyData}{d:PyData}(h:d∈P):FirstAt d P (idxD P d):=by
  have hl:idxD P d < P.length:=List.findIdx_lt_length_of_exists ⟨d,h,same_refl d⟩
  refine⟨?_,fun m hm e=>?_⟩
  · rw[List.getElem?_eq_getElem hl]
    exact congrArg some (eq_of_same _ _ (List.findIdx_getElem (p:=fun y=>PySem.Spec.same y d) (xs:=P) (w:=hl)))
  · have:=List.not_of_lt_findIdx (p:=fun y=>PySem.Spec.same y d) (xs:=P) (i:=m) hm
    rw[List.getElem?_eq_getElem (by omega)]at e
    rw[Option.some.inj e,same_refl]at this
    cases this
theorem first_uniq{P:List PyData}{d:PyData}{i j:Nat}(h:FirstAt d P i)(h':FirstAt d P j):i=j:=by
  rcases Nat.lt_trichotomy i j with q | q | q
  · exact absurd h.1 (h'.2 i q)
  · exact q
  · exact absurd h'.1 (h.2 j q)
theorem first_pre{P N:List PyData}{d:PyData}(p:P <+: N)(h:d∈P):FirstAt d P (idxD N d):=by
  have a:=idx_first h
  have b:=idx_first (p.subset h)
  obtain⟨r,rfl⟩:=p
  have hl:=(List.getElem?_eq_some_iff.mp a.1).1
  have:FirstAt d (P++r) (idxD P d):=⟨by rw[List.getElem?_append_left hl];exact a.1,fun m hm=>by rw[List.getElem?_append_left (by omega)];exact a.2 m hm⟩
  rw[first_uniq b this]
  exact a
theorem num_len(ds:List PyData):(numD ds).length=ds.length:=by unfold numD;rw[List.length_map]
theorem num_at{ds:List PyData}{i:Nat}{d:PyData}(h:ds[i]? = some d):(numD ds)[i]? = some (idxD (nubD ds) d):=by unfold numD;rw[List.getElem?_map,h];rfl
theorem idx_inj{ds:List PyData}{x y:PyData}(hx:x∈ds)(hy:y∈ds)(e:idxD (nubD ds) x=idxD (nubD ds) y):x=y:=by
  have a:=(idx_first (nub_mem.mpr hx)).1
  have b:=(idx_first (nub_mem.mpr hy)).1
  rw[e,b]at a
  exact(Option.some.inj a).symm
theorem idx_new{ds:List PyData}{i:Nat}{d:PyData}(h:ds[i]? = some d)(n:d ∉ ds.take i):idxD (nubD ds) d=(nubD (ds.take i)).length:=by
  have e:nubD (ds.take (i+1))=nubD (ds.take i)++[d]:=by
    rw[List.take_add_one,h]
    show nubD (ds.take i++[d])=_
    rw[nub_snoc]
    unfold addD
    rw[if_neg (fun q=>n (nub_mem.mp (hasD_iff.mp q)))]
  have p:=nub_pre ds (i+1)
  rw[e]at p
  have a:=first_pre p (List.mem_append_right _ (List.mem_singleton.mpr rfl))
  refine first_uniq a ⟨by simp,fun m hm q=>?_⟩
  rw[List.getElem?_append_left hm]at q
  exact n (nub_mem.mp (List.mem_of_getElem? q))
theorem nub_step{ds:List PyData}{i:Nat}{d:PyData}(h:ds[i]? = some d):(d∈ds.take i→(nubD (ds.take (i+1))).length=(nubD (ds.take i)).length)∧(d ∉ ds.take i→(nubD (ds.take (i+1))).length=(nubD (ds.take i)).length+1):=by
  rw[List.take_add_one,h]
  show(_→(nubD (ds.take i++[d])).length=_)∧(_→(nubD (ds.take i++[d])).length=_)
  rw[nub_snoc]
  unfold addD
  refine⟨fun q=>?_,fun q=>?_⟩
  · rw[if_pos (hasD_iff.mpr (nub_mem.mpr q))]
  · rw[if_neg (fun z=>q (nub_mem.mp (hasD_iff.mp z)))];simp
def Alike(xs ys:List PyData):Prop:=∀i j,i < xs.length→j < xs.length→(xs[i]? = xs[j]?↔ys[i]? = ys[j]?)
theorem mem_take{xs:List PyData}{i:Nat}{x:PyData}:x∈xs.take i↔∃j,j < i∧xs[j]? = some x:=by
  constructor
  · intro h
    obtain⟨j,hj⟩:=List.getElem?_of_mem h
    have:=(List.getElem?_eq_some_iff.mp hj).1
    rw[List.length_take]at this
    rw[List.getElem?_take,if_pos (by omega)]at hj
    exact⟨j,by omega,hj⟩
  · rintro⟨j,hj,e⟩
    exact List.mem_of_getElem? (i:=j) (by rw[List.getElem?_take,if_pos hj];exact e)
theorem alike_nub{xs ys:List PyData}(l:ys.length=xs.length)(h:Alike xs ys):∀i,i≤xs.length→(nubD (xs.take i)).length=(nubD (ys.take i)).length∧∀j,j < i→(numD xs)[j]? = (numD ys)[j]?
  | 0,_=>⟨by simp[nubD],fun j hj=>by omega⟩
  | i+1,hi=>by
    obtain⟨a,b⟩:=alike_nub l h i (by omega)
    have ex:xs[i]? = some (xs[i]'(by omega)):=List.getElem?_eq_getElem (by omega)
    have ey:ys[i]? = some (ys[i]'(by omega)):=List.getElem?_eq_getElem (by omega)
    generalize xs[i]'(by omega)=x at ex
    generalize ys[i]'(by omega)=y at ey
    have same:∀j,j < i→(xs[j]? = some x↔ys[j]? = some y):=fun j hj=>by
      rw[← ex,← ey];exact h j i (by omega) (by omega)
    have mm:x∈xs.take i↔y∈ys.take i:=by
      rw[mem_take,mem_take]
      exact⟨fun⟨j,hj,e⟩=>⟨j,hj,(same j hj).mp e⟩,fun⟨j,hj,e⟩=>⟨j,hj,(same j hj).mpr e⟩⟩
    refine⟨?_,fun j hj=>?_⟩
    · by_cases q:x∈xs.take i
      · rw[(nub_step ex).1 q,(nub_step ey).1 (mm.mp q),a]
      · rw[(nub_step ex).2 q,(nub_step ey).2 (fun z=>q (mm.mpr z)),a]
    · by_cases e:j=i
      · subst e
        rw[num_at ex,num_at ey]
        by_cases q:x∈xs.take j
        · obtain⟨k,hk,ek⟩:=mem_take.mp q
          have:=b k hk
          rw[num_at ek,num_at ((same k hk).mp ek)]at this
          exact this
        · rw[idx_new ex q,idx_new ey (fun z=>q (mm.mpr z)),a]
      · exact b j (by omega)
theorem alike_num{xs ys:List PyData}(l:ys.length=xs.length)(h:Alike xs ys):numD xs=numD ys:=by
  refine List.ext_getElem? fun j=>?_
  by_cases q:j < xs.length
  · exact(alike_nub l h xs.length (Nat.le_refl _)).2 j q
  · rw[List.getElem?_eq_none (by rw[num_len];omega),List.getElem?_eq_none (by rw[num_len];omega)]
theorem num_eqv{ds:List PyData}{i j:Nat}(hi:i < ds.length)(hj:j < ds.length):(numD ds)[i]? = (numD ds)[j]?↔ds[i]? = ds[j]? := by
  have ei:=List.getElem?_eq_getElem hi
  have ej:=List.getElem?_eq_getElem hj
  rw[num_at ei,num_at ej,ei,ej]
  constructor
  · intro e
    rw[idx_inj (List.getElem_mem hi) (List.getElem_mem hj) (Option.some.inj e)]
  · intro e
    rw[Option.some.inj e]
def prs(n:Nat):List (Nat × Nat):=(List.range n).flatMap fun i=>(List.range n).map fun j=>(i,j)
theorem prs_mem{n i j:Nat}(hi:i < n)(hj:j < n):(i,j)∈prs n:=List.mem_flatMap.mpr ⟨i,List.mem_range.mpr hi,List.mem_map.mpr ⟨j,List.mem_range.mpr hj,rfl⟩⟩
def eqs(n:Nat)(ns:List Nat):Nat:=(prs n).countP fun x=>decide (ns[x.1]? = ns[x.2]?)
theorem count_le{α:Type}{p q:α→Bool}:∀L:List α,(∀x∈L,p x=true→q x=true)→L.countP p≤L.countP q∧(L.countP p=L.countP q→∀x∈L,q x=true→p x=true)
  | [],_=>⟨Nat.le_refl _,fun _ x hx=>by cases hx⟩
  | a::L,h=>by
    obtain⟨i1,i2⟩:=count_le L fun x hx=>h x (List.mem_cons_of_mem _ hx)
    have ha:=h a List.mem_cons_self
    rw[List.countP_cons,List.countP_cons]
    by_cases pa:p a=true
    · rw[if_pos pa,if_pos (ha pa)]
      refine⟨by omega,fun e x hx hq=>?_⟩
      rcases List.mem_cons.mp hx with rfl | hx
      · exact pa
      · exact i2 (by omega) x hx hq
    · rw[if_neg pa]
      by_cases qa:q a=true
      · rw[if_pos qa];exact⟨by omega,fun e=>by omega⟩
      · rw[if_neg qa]
        refine⟨by omega,fun e x hx hq=>?_⟩
        rcases List.mem_cons.mp hx with rfl | hx
        · exact absurd hq qa
        · exact i2 (by omega) x hx hq
theorem turn_num{n:Nat}{xs ks:List PyData}(lx:xs.length=n)(lk:ks.length=n)(h:∀i j,i < n→j < n→ks[i]? = ks[j]?→(numD xs)[i]? = (numD xs)[j]?):numD ks=numD xs∨eqs n (numD ks) < eqs n (numD xs):=by
  have hk:∀i j,i < n→j < n→((numD ks)[i]? = (numD ks)[j]?↔ks[i]? = ks[j]?):=fun i j hi hj=>num_eqv (by omega) (by omega)
  have mem:∀x∈prs n,x.1 < n∧x.2 < n:=fun x hx=>by
    obtain⟨i,hi,hx⟩:=List.mem_flatMap.mp hx
    obtain⟨j,hj,rfl⟩:=List.mem_map.mp hx
    exact⟨List.mem_range.mp hi,List.mem_range.mp hj⟩
  have c:=count_le (p:=fun x:Nat × Nat=>decide ((numD ks)[x.1]? = (numD ks)[x.2]?)) (q:=fun x=>decide ((numD xs)[x.1]? = (numD xs)[x.2]?)) (prs n) (fun x hx e=>by
    obtain⟨a,b⟩:=mem x hx
    exact decide_eq_true (h _ _ a b ((hk _ _ a b).mp (of_decide_eq_true e))))
  by_cases e:eqs n (numD ks)=eqs n (numD xs)
  · left
    refine alike_num (by omega) fun i j hi hj=>?_
    rw[lk]at hi hj
    constructor
    · intro q
      exact(num_eqv (by omega) (by omega)).mp (h i j hi hj q)
    · intro q
      have:=c.2 e (i,j) (prs_mem hi hj) (decide_eq_true ((num_eqv (by omega) (by omega)).mpr q))
      exact(hk i j hi hj).mp (of_decide_eq_true this)
  · right
    have:=c.1
    show(prs n).countP _ < (prs n).countP _
    unfold eqs at e
    omega
theorem iteN{b:Bool}{A B:Prop}(h:b=false)(q:B):if b=true then A else B:=by subst h;exact iteF q
theorem iteY{b:Bool}{A B:Prop}(h:b=true)(q:A):if b=true then A else B:=by subst h;exact iteT q
theorem same_put{H H':Hp}{b:Addr}{o:HO}(s:Same H H')(n:H b=none):Same H (L2.upd H' b o):=fun c u e=>by
  rw[upd_ne (fun z=>by rw[z,n]at e;cases e)];exact s c u e
theorem IsA.len{H:Hp}:∀{vs:List V} {ds:List PyData},IsAll K H vs ds→vs.length=ds.length
  | [],[],_=>rfl
  | _::_,_::_,.cons _ h=>by rw[List.length_cons,List.length_cons,IsA.len h]
theorem IsA.at{H:Hp}:∀{vs:List V} {ds:List PyData} {i:Nat} {d:PyData},IsAll K H vs ds→ds[i]? = some d→∃v,vs[i]? = some v∧Is K H v d
  | [],[],i,d,_,e=>by cases e
  | v::_,_::_,0,d,.cons h _,e=>by
    have:_=d:=Option.some.inj e
    subst this
    exact⟨v,rfl,h⟩
  | _::_,_::_,i+1,d,.cons _ h,e=>by
    obtain⟨v,h1,h2⟩:=IsA.at (i:=i) (d:=d) h e
    exact⟨v,h1,h2⟩
theorem IsA.snoc{H:Hp}{v:V}{d:PyData}(hd:Is K H v d):∀{vs:List V} {ds:List PyData},IsAll K H vs ds→IsAll K H (vs++[v]) (ds++[d])
  | [],[],_=>.cons hd .nil
  | _::_,_::_,.cons h r=>.cons h (IsA.snoc hd r)
structure KeyD(ds:List PyData):Prop where
  cl:∀d∈ds,d.canLay0=true∧d.depth≤5
  nm:∀d∈ds,∀e∈ds,noMix e d=true
theorem cl_list:∀{ds:List PyData},(∀d∈ds,d.canLay0=true∧d.depth≤5)→PyData.canLayAll0 ds=true∧PyData.depthAll ds≤5
  | [],_=>by simp[PyData.canLayAll0,PyData.depthAll]
  | d::ds,h=>by
    obtain⟨a,b⟩:=cl_list fun x hx=>h x (List.mem_cons_of_mem _ hx)
    obtain⟨c,e⟩:=h d List.mem_cons_self
    simp[PyData.canLayAll0,PyData.depthAll,a,c];omega
theorem KeyD.sh{ds:List PyData}(k:KeyD ds){d:PyData}(h:d∈ds):shaped d=true:=by
  obtain⟨a,b⟩:=k.cl d h
  simp[shaped,a];omega
theorem KeyD.shl{ds Ps:List PyData}(k:KeyD ds)(h:∀p∈Ps,p∈ds):shaped (.list Ps)=true:=by
  obtain⟨a,b⟩:=cl_list fun x hx=>k.cl x (h x hx)
  simp[shaped,PyData.canLay0,a,PyData.depth];omega
def sp_num(K:PySem.W.Frag):Sp:=fun vs H Q _=>∃(a:Addr) (us:List V) (ds:List PyData),vs=[.ref a]∧(H a=some (.lst us)∧IsAll K H us ds∧ds.length≤20∧KeyD ds)∧∀tp H',Same H H'→H' tp=some (.lst (vS (numD ds)))→Q (.ref tp) H'
theorem ok_numbered(T:Txt K mg t):FnOk Pr w K mg base CX0 1 t.numbered t.d_numbered ["things"] (sp_num K):=by
  refine T.F_numbered.ok sc_numbered (fun vs H Q E h=>?_) (fun cdv A outer s H vs Q E hr h=>?_)
  · obtain⟨a,us,ds,rfl,_⟩:=h
    rfl
  · obtain⟨a,us,ds,rfl,⟨ha,hi,d20,kd⟩,k⟩:=h
    have zl:10000 < sizeLine:=by decide
    refine⟨_,(pss_cons (ps_set (i:=1) sc_numbered.nd rfl (Or.inl rfl) (pe_lst pa_nil)) (pss_cons (ps_set (i:=2) sc_numbered.nd rfl (Or.inl rfl) (pe_lst pa_nil)) (pss_cons (ps_for PassesOwn.never rfl (pi_list (pv 0)) (pg_name (i:=3) sc_numbered.nd rfl (Or.inl rfl)) (pss_cons (ps_if (pt_cmpR (op_notInD hr.units1) (pv 3) (pv 1) (by with_unfolding_all rfl)) (pss_one (ps_expr (pe_bm PySem.F.plainAttrs_list PySem.F.slot_list_append PySem.F.type_list_append mt_append (pv 1) (pa_cons (pv 3) pa_nil)))) pss_nil) (pss_one (ps_expr (pe_bm PySem.F.plainAttrs_list PySem.F.slot_list_append PySem.F.type_list_append mt_append (pv 2) (pa_cons (pe_bm PySem.F.plainAttrs_list PySem.F.slot_list_index PySem.F.type_list_index (mt_indexL hr.units1) (pv 1) (pa_cons (pv 3) pa_nil)) pa_nil)))))) (pss_one (ps_ret (pv 2)))))),?_⟩
    refine⟨Nat.zero_le _,fun fp nfp=>?_⟩
    have t1:=same_upd (o:=.lst []) nfp
    refine⟨Nat.zero_le _,fun tp ntp=>?_⟩
    have t2:=same_upd (o:=.lst []) ntp
    have ft:fp≠tp:=fun e=>by rw[← e,upd_same]at ntp;cases ntp
    have ntp0:H tp=none:=by rw[upd_ne (Ne.symm ft)]at ntp;exact ntp
    have t12:=t1.trans t2
    show gName 2 (.ref tp) [some (.ref a),some (.ref fp),none,none] (upd (upd H fp (.lst [])) tp (.lst [])) _
    refine⟨_,rfl,a,rfl,⟨_,SqL.of (t12 _ _ ha)⟩,for_it (n:=ds.length) (fun i σ H2=>∃v3 fvs,σ=[some (.ref a),some (.ref fp),some (.ref tp),v3]∧Same H H2∧H2 fp=some (.lst fvs)∧IsAll K H fvs (nubD (ds.take i))∧H2 tp=some (.lst (vS ((numD ds).take i)))) ⟨_,[],rfl,t12,by rw[upd_ne ft];exact upd_same,.nil,upd_same⟩ ?_ ?_⟩
    · rintro i σ H2 hi' ⟨v3,fvs,rfl,s2,kf,fi,kt⟩
      have ed:=List.getElem?_eq_getElem hi'
      generalize ds[i]=d at ed
      obtain⟨u,eu,iu⟩:=IsA.at hi ed
      refine⟨⟨_,_,SqL.of (s2 _ _ ha),eu⟩,fun y G2 hy=>?_⟩
      obtain⟨rfl,hy⟩:=hy
      have:=hy _ (SqL.of (s2 _ _ ha))
      rw[eu]at this;cases this
      have dm:=List.mem_of_getElem? ed
      have sub:∀p∈nubD (ds.take i),p∈ds:=fun p hp=>List.mem_of_mem_take (nub_mem.mp hp)
      have ns:nubD (ds.take (i+1))=addD (nubD (ds.take i)) d:=by
        rw[List.take_add_one,ed];exact nub_snoc _ _
      have nl:((numD ds).take (i+1))=(numD ds).take i++[idxD (nubD ds) d]:=by
        rw[List.take_add_one,num_at ed];rfl
      have pre:nubD (ds.take (i+1)) <+: nubD ds:=nub_pre ds (i+1)
      have din:d∈nubD (ds.take (i+1)):=by rw[ns];exact addD_mem.mpr (.inr rfl)
      have nl20:(nubD (ds.take i)).length≤20:=by have:=nub_len (ds.take i);rw[List.length_take]at this;omega
      have sub1:∀p∈nubD (ds.take (i+1)),p∈ds:=fun p hp=>List.mem_of_mem_take (nub_mem.mp hp)
      refine⟨_,rfl,_,rfl,d,nubD (ds.take i),iu.same s2,.lst (SqL.of kf) (fi.same s2),kd.sh dm,kd.shl sub,fun e he=>kd.nm d dm e (sub e he),_,rfl,?_⟩
      have ap:∀H3,Same H H3→tp≠fp→Same H (upd H3 tp (.lst (vS ((numD ds).take i)++[.int ((idxD (nubD ds) d:Nat):Int)]))):=fun H3 s3 _=>same_put s3 ntp0
      have tl:(vS ((numD ds).take i)).length < 20:=by rw[vS_len,List.length_take];omega
      have ne:vS ((numD ds).take i)++[.int ((idxD (nubD ds) d:Nat):Int)]=vS ((numD ds).take (i+1)):=by rw[nl,vS_app];rfl
      by_cases hin:hasD (nubD (ds.take i)) d=true
      · have ns':nubD (ds.take (i+1))=nubD (ds.take i):=by rw[ns];unfold addD;rw[if_pos hin]
        refine iteN (by show(!hasD (nubD (ds.take i)) d)=false;rw[hin];rfl) ?_
        rw[ns']at pre din sub1
        refine⟨_,rfl,.inl ⟨rfl,_,SqL.of kt⟩,_,rfl,.inl ⟨rfl,_,SqL.of kf⟩,_,rfl,_,d,nubD (ds.take i),idxD (nubD ds) d,rfl,iu.same s2,.lst (SqL.of kf) (fi.same s2),kd.sh dm,kd.shl sub,(fun e he=>kd.nm d dm e (sub e he)),(by omega),first_pre pre din,?_⟩
        refine⟨tp,_,_,rfl,rfl,kt,(by omega),?_⟩
        exact⟨_,fvs,rfl,ap _ s2 (Ne.symm ft),by rw[upd_ne ft];exact kf,by rw[ns'];exact fi,by rw[← ne];exact upd_same⟩
      · have hin:hasD (nubD (ds.take i)) d=false:=by simpa using hin
        have ns':nubD (ds.take (i+1))=nubD (ds.take i)++[d]:=by rw[ns];unfold addD;rw[hin];rfl
        refine iteY (by show(!hasD (nubD (ds.take i)) d)=true;rw[hin];rfl) ?_
        have fl:fvs.length≤20:=by rw[IsA.len fi];exact nl20
        refine⟨_,rfl,.inl ⟨rfl,_,SqL.of kf⟩,_,rfl,fp,_,_,rfl,rfl,kf,(by omega),?_⟩
        have s3:Same H (upd G2 fp (.lst (fvs++[u]))):=same_put s2 nfp
        have kf3:upd G2 fp (.lst (fvs++[u])) fp=some (.lst (fvs++[u])):=upd_same
        have kt3:upd G2 fp (.lst (fvs++[u])) tp=some (.lst (vS ((numD ds).take i))):=by rw[upd_ne (Ne.symm ft)];exact kt
        have fi3:IsAll K H (fvs++[u]) (nubD (ds.take (i+1))):=by rw[ns'];exact IsA.snoc iu fi
        revert s3 kf3 kt3
        generalize upd G2 fp (.lst (fvs++[u]))=H3
        intro s3 kf3 kt3
        have l1:=nub_len (ds.take (i+1))
        rw[List.length_take]at l1
        refine⟨_,rfl,.inl ⟨rfl,_,SqL.of kt3⟩,_,rfl,.inl ⟨rfl,_,SqL.of kf3⟩,_,rfl,_,d,nubD (ds.take (i+1)),idxD (nubD ds) d,rfl,iu.same s3,.lst (SqL.of kf3) (fi3.same s3),kd.sh dm,kd.shl sub1,(fun e he=>kd.nm d dm e (sub1 e he)),(by omega),first_pre pre din,?_⟩
        refine⟨tp,_,_,rfl,rfl,kt3,(by omega),?_⟩
        exact⟨_,_,rfl,ap _ s3 (Ne.symm ft),by rw[upd_ne ft];exact kf3,fi3,by rw[← ne];exact upd_same⟩
    · rintro σ H2 ⟨v3,fvs,rfl,s2,kf,fi,kt⟩
      refine⟨⟨_,SqL.of (s2 _ _ ha),by rw[IsA.len hi];exact Nat.le_refl _⟩,?_⟩
      rw[List.take_of_length_le (by rw[num_len];exact Nat.le_refl _)]at kt
      exact⟨_,rfl,k tp H2 s2 kt⟩
abbrev gD(σ:List Nat)(i:Nat):Nat:=σ.getD i 0
abbrev tpS(σ:List Nat)(i:Nat):Nat:=tpN (fun i=>σ.getD i 0) i
structure Stair(σ:List Nat)(N m:Nat):Prop where
  len:σ.length=N
  st:∀i,i < N→gD σ i≤tpS σ i
  top:tpS σ N=m
theorem tp_succ(σ:List Nat)(i:Nat):tpS σ (i+1)=if gD σ i < tpS σ i then tpS σ i else tpS σ i+1:=rfl
theorem Stair.lt{σ:List Nat}{N m:Nat}(h:Stair σ N m){i j:Nat}(hj:j < i)(hi:i≤N):gD σ j < tpS σ i:=by
  have a:=h.st j (by omega)
  have b:=tp_succ σ j
  have c:tpS σ (j+1)≤tpS σ i:=tpN_mono _ hj
  split at b <;>omega
theorem Stair.ex{σ:List Nat}{N m:Nat}(h:Stair σ N m):∀i,i≤N→∀k,k < tpS σ i→∃j,j < i∧gD σ j=k
  | 0,_,k,hk=>absurd hk (Nat.not_lt_zero k)
  | i+1,hi,k,hk=>by
    have a:=h.st i (by omega)
    have b:=tp_succ σ i
    by_cases q:k < tpS σ i
    · obtain⟨j,hj,e⟩:=h.ex i (by omega) k q
      exact⟨j,by omega,e⟩
    · refine⟨i,by omega,?_⟩
      split at b <;>omega
theorem gD_at{σ:List Nat}{i:Nat}(h:i < σ.length):σ[i]? = some (gD σ i):=by
  show σ[i]? = some (σ.getD i 0)
  rw[List.getD_eq_getElem?_getD,List.getElem?_eq_getElem h];rfl
abbrev fI(σ:List Nat)(k:Nat):Nat:=σ.idxOf k
theorem Stair.fst{σ:List Nat}{N m:Nat}(h:Stair σ N m){k:Nat}(hk:k < m):fI σ k < N∧gD σ (fI σ k)=k∧tpS σ (fI σ k)=k:=by
  obtain⟨j,hj,e⟩:=h.ex N (Nat.le_refl _) k (by rw[h.top];exact hk)
  have mem:k∈σ:=by
    have:=gD_at (σ:=σ) (i:=j) (by rw[h.len];exact hj)
    rw[e]at this
    exact List.mem_of_getElem? this
  have lt:fI σ k < σ.length:=List.idxOf_lt_length_iff.mpr mem
  have e1:gD σ (fI σ k)=k:=by
    have:=gD_at lt
    rw[List.getElem?_eq_getElem lt]at this
    rw[← Option.some.inj this]
    exact List.getElem_idxOf lt
  have hN:fI σ k < N:=by rw[← h.len];exact lt
  refine⟨hN,e1,?_⟩
  have a:=h.st _ hN
  rw[e1]at a
  rcases Nat.lt_or_ge k (tpS σ (fI σ k))with q | q
  · obtain⟨i,hi,ei⟩:=h.ex _ (Nat.le_of_lt hN) k q
    have:=List.not_of_lt_findIdx (p:=(· == k)) (xs:=σ) (i:=i) hi
    have g:=gD_at (σ:=σ) (i:=i) (by rw[h.len];omega)
    rw[List.getElem?_eq_getElem (by rw[h.len];omega),ei]at g
    rw[Option.some.inj g]at this
    simp at this
  · omega
theorem nub_tp{xs:List PyData}:∀i,i≤xs.length→tpS (numD xs) i=(nubD (xs.take i)).length∧∀j,j < i→gD (numD xs) j≤tpS (numD xs) j
  | 0,_=>⟨rfl,fun j h=>absurd h (Nat.not_lt_zero j)⟩
  | i+1,hi=>by
    obtain⟨a,b⟩:=nub_tp (xs:=xs) i (by omega)
    obtain⟨d,hd⟩:∃d,xs[i]? = some d:=⟨_,List.getElem?_eq_getElem (by omega)⟩
    have g:=num_at hd
    have g1:gD (numD xs) i=idxD (nubD xs) d:=by
      show(numD xs).getD i 0=_
      rw[List.getD_eq_getElem?_getD,g];rfl
    have s:=nub_step hd
    have t:=tp_succ (numD xs) i
    by_cases hm:d∈xs.take i
    · have f:=first_pre (nub_pre xs i) (nub_mem.mpr hm)
      have lt:idxD (nubD xs) d < (nubD (xs.take i)).length:=(List.getElem?_eq_some_iff.mp f.1).1
      rw[if_pos (by omega)]at t
      refine⟨by rw[t,a,s.1 hm],fun j hj=>?_⟩
      by_cases e:j=i
      · subst e;omega
      · exact b j (by omega)
    · have f:=idx_new hd hm
      rw[if_neg (by omega)]at t
      refine⟨by rw[t,a,s.2 hm],fun j hj=>?_⟩
      by_cases e:j=i
      · subst e;omega
      · exact b j (by omega)
theorem stair_num{xs:List PyData}{N:Nat}(h:xs.length=N):Stair (numD xs) N (nubD xs).length:=by
  have:=nub_tp (xs:=xs) N (by omega)
  refine⟨by rw[num_len];exact h,this.2,?_⟩
  rw[this.1,← h,List.take_length]
structure Srt(cs:List (List Nat))(es:List Bool)(N:Nat)(σ:List Nat)(m:Nat):Prop where
  st:Stair σ N m
  cl:∀c∈cs,∀i,i < N→gD c i < N
  fin:∀i j,i < N→j < N→gD σ i=gD σ j→bit es i=bit es j∧∀c∈cs,gD σ (gD c i)=gD σ (gD c j)
  crs:∀R:Nat→Nat→Prop,(∀i j,i < N→j < N→R i j→bit es i=bit es j∧∀c∈cs,R (gD c i) (gD c j))→∀i j,i < N→j < N→R i j→gD σ i=gD σ j
def qcs(σ:List Nat)(m:Nat)(cs:List (List Nat)):List (List Nat):=cs.map fun c=>(List.range m).map fun k=>gD σ (gD c (fI σ k))
def qes(σ:List Nat)(m:Nat)(es:List Bool):List Bool:=(List.range m).map fun k=>bit es (fI σ k)
theorem gD_range(f:Nat→Nat){m k:Nat}(h:k < m):gD ((List.range m).map f) k=f k:=by
  show((List.range m).map f).getD k 0=_
  rw[List.getD_eq_getElem?_getD,List.getElem?_map,List.getElem?_range h];rfl
theorem bit_range(f:Nat→Bool){m k:Nat}(h:k < m):bit ((List.range m).map f) k=f k:=by
  unfold bit
  rw[List.getD_eq_getElem?_getD,List.getElem?_map,List.getElem?_range h];rfl
theorem Srt.lt{cs:List (List Nat)}{es:List Bool}{N m:Nat}{σ:List Nat}(h:Srt cs es N σ m){i:Nat}(hi:i < N):gD σ i < m:=by
  rw[← h.st.top];exact h.st.lt hi (Nat.le_refl _)
theorem Srt.qc{cs:List (List Nat)}{es:List Bool}{N m:Nat}{σ:List Nat}(h:Srt cs es N σ m){i:Nat}(hi:i < N){c:List Nat}(hc:c∈cs):gD ((List.range m).map fun k=>gD σ (gD c (fI σ k))) (gD σ i)=gD σ (gD c i):=by
  have lt:=h.lt hi
  rw[gD_range _ lt]
  obtain⟨a,b,_⟩:=h.st.fst lt
  exact(h.fin _ i a hi b).2 c hc
theorem Srt.qe{cs:List (List Nat)}{es:List Bool}{N m:Nat}{σ:List Nat}(h:Srt cs es N σ m){i:Nat}(hi:i < N):bit (qes σ m es) (gD σ i)=bit es i:=by
  have lt:=h.lt hi
  unfold qes
  rw[bit_range _ lt]
  obtain⟨a,b,_⟩:=h.st.fst lt
  exact(h.fin _ i a hi b).1
theorem addN_pre(P:List Nat)(d:Nat):P <+: addN P d:=by
  unfold addN
  split
  · exact List.prefix_rfl
  · exact List.prefix_append _ _
theorem foldN_pre:∀(ds P:List Nat),P <+: ds.foldl addN P
  | [],P=>List.prefix_rfl
  | d::ds,P=>(addN_pre P d).trans (foldN_pre ds (addN P d))
theorem pre_range{P:Nat}{u P':Nat}(h:List.range P++[u] <+: List.range P'):u=P:=by
  have e:=List.prefix_iff_getElem?.mp h P (by simp)
  have l:=h.length_le
  rw[List.length_append,List.length_range,List.length_singleton,List.length_range]at l
  rw[List.getElem?_range (by omega),List.getElem_append_right (by simp)]at e
  simp at e
  exact e.symm
theorem fold_tp{σ:List Nat}{N m:Nat}(h:Stair σ N m):∀(us:List Nat) (P P':Nat),P'≤N→us.foldl addN (List.range P)=List.range P'→(us.map (gD σ)).foldl addN (List.range (tpS σ P))=List.range (tpS σ P')
  | [],P,P',_,e=>by
    have:=congrArg List.length e
    simp only[List.foldl_nil,List.length_range]at this
    rw[this];rfl
  | u::us,P,P',hP,e=>by
    rw[List.foldl_cons]at e
    rw[List.map_cons,List.foldl_cons]
    have pr:=foldN_pre us (addN (List.range P) u)
    rw[e]at pr
    by_cases q:u < P
    · have a1:addN (List.range P) u=List.range P:=by unfold addN;rw[if_pos (List.mem_range.mpr q)]
      rw[a1]at e pr
      have le:P≤P':=by have:=pr.length_le;simpa using this
      have a2:addN (List.range (tpS σ P)) (gD σ u)=List.range (tpS σ P):=by unfold addN;rw[if_pos (List.mem_range.mpr (h.lt q (by omega)))]
      rw[a2]
      exact fold_tp h us P P' hP e
    · have a1:addN (List.range P) u=List.range P++[u]:=by unfold addN;rw[if_neg (by rw[List.mem_range];exact q)]
      rw[a1]at e pr
      have eu:=pre_range pr
      subst eu
      rw[← List.range_succ]at e pr
      have le:u+1≤P':=by have:=pr.length_le;simpa using this
      have a2:addN (List.range (tpS σ u)) (gD σ u)=List.range (tpS σ (u+1)):=by
        have s:=h.st u (by omega)
        rw[tp_succ]
        unfold addN
        by_cases z:gD σ u < tpS σ u
        · rw[if_pos z,if_pos (List.mem_range.mpr z)]
        · rw[if_neg z,if_neg (by rw[List.mem_range];exact z),List.range_succ,show gD σ u=tpS σ u by omega]
      rw[a2]
      exact fold_tp h us (u+1) P' hP e
theorem tp_flat{σ:List Nat}{a:Nat}:∀d,(∀y,a≤y→y < a+d→gD σ y < tpS σ a)→tpS σ (a+d)=tpS σ a
  | 0,_=>rfl
  | d+1,h=>by
    have ih:=tp_flat d fun y h1 h2=>h y h1 (by omega)
    rw[← Nat.add_assoc,tp_succ,ih,if_pos (h (a+d) (by omega) (by omega))]
theorem ord_range{rows:List (List Nat)}(O:InOrd rows):∀d k,k+d=rows.length→ordN rows k=List.range (ordN rows k).length
  | 0,k,e=>by
    rw[show k=rows.length by omega,O.last,List.length_range]
  | d+1,k,e=>by
    have ih:=ord_range O d (k+1) (by omega)
    have p:ordN rows k <+: ordN rows (k+1):=foldN_pre _ _
    rw[ih]at p
    have q:=List.prefix_iff_eq_take.mp p
    rw[List.take_range,Nat.min_eq_left (by have:=p.length_le;simpa using this)]at q
    exact q
theorem rows_getD{N k:Nat}(cs:List (List Nat))(h:k < N):(rowsOf N cs).getD k []=cs.map fun c=>gD c k:=by
  rw[List.getD_eq_getElem?_getD,rowsOf_at cs h];rfl
theorem mem_foldN{x:Nat}:∀{us met:List Nat},x∈us.foldl addN met→x∈met∨x∈us
  | [],met,h=>.inl h
  | u::us,met,h=>by
    rcases mem_foldN (us:=us) h with h | h
    · unfold addN at h
      split at h
      · exact .inl h
      · rcases List.mem_append.mp h with h | h
        · exact .inl h
        · rw[List.mem_singleton.mp h];exact .inr List.mem_cons_self
    · exact .inr (List.mem_cons_of_mem _ h)
theorem foldN_has{x:Nat}:∀{us met:List Nat},x∈us→x∈us.foldl addN met
  | u::us,met,h=>by
    rw[List.foldl_cons]
    rcases List.mem_cons.mp h with rfl | h
    · refine(foldN_pre us _).subset ?_
      unfold addN
      split
      · assumption
      · exact List.mem_append_right _ (List.mem_singleton.mpr rfl)
    · exact foldN_has h
theorem ordN_mono{rows:List (List Nat)}{a b:Nat}(h:a≤b):ordN rows a <+: ordN rows b:=by
  induction h with
  | refl=>exact List.prefix_rfl
  | step _ ih=>exact ih.trans (foldN_pre _ _)
theorem q_ord{cs:List (List Nat)}{es:List Bool}{N m:Nat}{σ:List Nat}(h:Srt cs es N σ m)(O:InOrd (rowsOf N cs))(n0:0 < N) :
    ∀i,i≤N→ordN (rowsOf m (qcs σ m cs)) (tpS σ i)=List.range (tpS σ (ordN (rowsOf N cs) i).length)
  | 0,_=>by
    have z:=h.st.st 0 n0
    have z0:gD σ 0=0:=Nat.le_zero.mp z
    show [0]=List.range (tpS σ 1)
    rw[tp_succ,if_neg (by rw[z0];exact Nat.lt_irrefl _)]
    rfl
  | i+1,hi=>by
    have ih:=q_ord h O n0 i (by omega)
    have rl:=rowsOf_len N cs
    have le1:=O.le (i+1) (by rw[rl];exact hi)
    rw[rl]at le1
    have r0:=ord_range O (N - i) i (by rw[rl];omega)
    have r1:=ord_range O (N - (i+1)) (i+1) (by rw[rl];omega)
    have st1:ordN (rowsOf N cs) (i+1)=(cs.map fun c=>gD c i).foldl addN (ordN (rowsOf N cs) i):=by
      show((rowsOf N cs).getD i []).foldl addN _=_
      rw[rows_getD cs (show i < N by omega)]
    have sub:=(ordN_mono (rows:=rowsOf N cs) (show i≤i+1 by omega)).length_le
    have s:=h.st.st i (by omega)
    have lt:=h.lt (show i < N by omega)
    obtain⟨a,b,e⟩:=h.st.fst lt
    rw[tp_succ]
    by_cases old:gD σ i < tpS σ i
    · rw[if_pos old,ih]
      congr 1
      have fl:=tp_flat (σ:=σ) (a:=(ordN (rowsOf N cs) i).length) ((ordN (rowsOf N cs) (i+1)).length - (ordN (rowsOf N cs) i).length) fun y h1 h2=>by
        have hy:y∈ordN (rowsOf N cs) (i+1):=by rw[r1];exact List.mem_range.mpr (by omega)
        rw[st1]at hy
        rcases mem_foldN hy with hy | hy
        · rw[r0]at hy
          exact absurd (List.mem_range.mp hy) (by omega)
        · obtain⟨c,hc,rfl⟩:=List.mem_map.mp hy
          have:gD σ (gD c (fI σ (gD σ i)))=gD σ (gD c i):=(h.fin _ i a (by omega) b).2 c hc
          rw[← this]
          have fl:fI σ (gD σ i) < i:=by
            rcases Nat.lt_or_ge (fI σ (gD σ i)) i with q | q
            · exact q
            · have:tpS σ i≤tpS σ (fI σ (gD σ i)):=tpN_mono _ q
              omega
          have inX:gD c (fI σ (gD σ i))∈ordN (rowsOf N cs) i:=by
            refine(ordN_mono (show fI σ (gD σ i)+1≤i from fl)).subset ?_
            show _∈((rowsOf N cs).getD _ []).foldl addN _
            rw[rows_getD cs (show fI σ (gD σ i) < N by omega)]
            exact foldN_has (List.mem_map.mpr ⟨c,hc,rfl⟩)
          rw[r0]at inX
          exact h.st.lt (List.mem_range.mp inX) (by omega)
      rw[← fl]
      congr 1
      omega
    · rw[if_neg old]
      have ek:gD σ i=tpS σ i:=by omega
      show((rowsOf m (qcs σ m cs)).getD (tpS σ i) []).foldl addN (ordN (rowsOf m (qcs σ m cs)) (tpS σ i))=_
      rw[rows_getD _ (by rw[← ek];exact lt),ih]
      have em:((qcs σ m cs).map fun c=>gD c (tpS σ i))=(cs.map fun c=>gD c i).map (gD σ):=by
        unfold qcs
        rw[List.map_map,List.map_map]
        refine List.map_congr_left fun c hc=>?_
        show gD ((List.range m).map _) (tpS σ i)=gD σ (gD c i)
        rw[← ek]
        exact h.qc (by omega) hc
      rw[em]
      refine fold_tp h.st _ _ _ le1 ?_
      rw[← r0,← st1]
      exact r1
theorem q_inord{cs:List (List Nat)}{es:List Bool}{N m:Nat}{σ:List Nat}(h:Srt cs es N σ m)(O:InOrd (rowsOf N cs))(n0:0 < N):InOrd (rowsOf m (qcs σ m cs)):=by
  have rl:=rowsOf_len N cs
  have key:∀k,k < m→ordN (rowsOf m (qcs σ m cs)) k=List.range (tpS σ (ordN (rowsOf N cs) (fI σ k)).length):=fun k hk=>by
    obtain⟨a,b,e⟩:=h.st.fst hk
    have:=q_ord h O n0 (fI σ k) (by omega)
    rwa [e]at this
  have lst:ordN (rowsOf m (qcs σ m cs)) m=List.range m:=by
    have:=q_ord h O n0 N (Nat.le_refl _)
    have e:=O.last
    rw[rl]at e
    rwa [h.st.top,e,List.length_range,h.st.top]at this
  refine⟨fun k hk=>?_,by rw[rowsOf_len];exact lst,fun k hk=>?_⟩
  · rw[rowsOf_len]at hk
    obtain⟨a,b,e⟩:=h.st.fst hk
    rw[key k hk,List.length_range]
    have go:=O.go (fI σ k) (by rw[rl];exact a)
    have mo:tpS σ (fI σ k+1)≤tpS σ (ordN (rowsOf N cs) (fI σ k)).length:=tpN_mono _ go
    rw[tp_succ,b,e,if_neg (Nat.lt_irrefl _)]at mo
    omega
  · rw[rowsOf_len]at hk ⊢
    rcases Nat.lt_or_eq_of_le hk with hk | rfl
    · rw[key k hk,List.length_range]
      have:=O.le (fI σ k) (by rw[rl];exact Nat.le_of_lt (h.st.fst hk).1)
      rw[rl]at this
      have mo:tpS σ (ordN (rowsOf N cs) (fI σ k)).length≤tpS σ N:=tpN_mono _ this
      rw[h.st.top]at mo
      exact mo
    · rw[lst,List.length_range];exact Nat.le_refl _
structure Pair(cs cs':List (List Nat))(es es':List Bool)(N N':Nat)(Pr:Nat→Nat→Prop):Prop where
  z:Pr 0 0
  e:∀i j,i < N→j < N'→Pr i j→bit es i=bit es' j
  s:∀(q:Nat) (c c':List Nat),cs[q]? = some c→cs'[q]? = some c'→∀i j,i < N→j < N'→Pr i j→Pr (gD c i) (gD c' j)
  l:cs.length=cs'.length
theorem pair_mem{cs cs':List (List Nat)}(l:cs.length=cs'.length){c:List Nat}(h:c∈cs):∃(q:Nat) (c':List Nat),cs[q]? = some c∧cs'[q]? = some c':=by
  obtain⟨q,hq⟩:=List.getElem?_of_mem h
  have:=(List.getElem?_eq_some_iff.mp hq).1
  exact⟨q,_,hq,List.getElem?_eq_getElem (by omega)⟩
theorem Pair.flip{cs cs':List (List Nat)}{es es':List Bool}{N N':Nat}{Pr:Nat→Nat→Prop}(P:Pair cs cs' es es' N N' Pr):Pair cs' cs es' es N' N (fun i j=>Pr j i):=
  ⟨P.z,fun i j hi hj p=>(P.e j i hj hi p).symm,fun q c c' h h' i j hi hj p=>P.s q c' c h' h j i hj hi p,P.l.symm⟩
theorem Pair.inj{cs cs':List (List Nat)}{es es':List Bool}{N N' m m':Nat}{σ σ':List Nat}{Pr:Nat→Nat→Prop}(P:Pair cs cs' es es' N N' Pr)(h:Srt cs es N σ m)(h':Srt cs' es' N' σ' m'){i j x y:Nat}
    (hi:i < N) (hj:j < N) (hx:x < N') (hy:y < N') (p:Pr i x) (q:Pr j y) (e:gD σ i=gD σ j):gD σ' x=gD σ' y:=by
  refine h'.crs (fun x y=>∃i j,i < N∧j < N∧Pr i x∧Pr j y∧gD σ i=gD σ j) (fun x y hx hy ⟨i,j,hi,hj,p,q,e⟩=>?_) x y hx hy ⟨i,j,hi,hj,p,q,e⟩
  have f:=h.fin i j hi hj e
  refine⟨by rw[← P.e i x hi hx p,← P.e j y hj hy q,f.1],fun c' hc'=>?_⟩
  obtain⟨k,c,e1,e2⟩:=pair_mem P.l.symm hc'
  exact⟨gD c i,gD c j,h.cl c (List.mem_of_getElem? e2) i hi,h.cl c (List.mem_of_getElem? e2) j hj,P.s k c c' e2 e1 i x hi hx p,P.s k c c' e2 e1 j y hj hy q,f.2 c (List.mem_of_getElem? e2)⟩
def Rho(σ σ':List Nat)(N N':Nat)(Pr:Nat→Nat→Prop)(a b:Nat):Prop:=∃i j,i < N∧j < N'∧gD σ i=a∧gD σ' j=b∧Pr i j
theorem same_fold{R:Nat→Nat→Prop}(inj:∀a b c,R a b→R a c→b=c)(inj':∀a b c,R a c→R b c→a=b):∀(us vs:List Nat) (X X':Nat) (Y Y':Nat),us.length=vs.length→(∀(q u v:Nat),us[q]? = some u→vs[q]? = some v→R u v)→(∀x,x < X→R x x)→X=X'→
    us.foldl addN (List.range X)=List.range Y→vs.foldl addN (List.range X')=List.range Y'→Y=Y'∧us=vs∧∀x,x < Y→R x x
  | [],[],X,X',Y,Y',_,_,hR,e,e1,e2=>by
    have a1:=congrArg List.length e1
    have a2:=congrArg List.length e2
    simp only[List.foldl_nil,List.length_range]at a1 a2
    exact⟨by omega,rfl,fun x hx=>hR x (by omega)⟩
  | u::us,v::vs,X,X',Y,Y',l,hq,hR,e,e1,e2=>by
    subst e
    rw[List.foldl_cons]at e1 e2
    have uv:R u v:=hq 0 u v rfl rfl
    have p1:=foldN_pre us (addN (List.range X) u)
    have p2:=foldN_pre vs (addN (List.range X) v)
    rw[e1]at p1
    rw[e2]at p2
    have key:u=v∧∃Z,addN (List.range X) u=List.range Z∧addN (List.range X) v=List.range Z∧∀x,x < Z→R x x:=by
      by_cases hu:u < X
      · have ev:=inj _ _ _ uv (hR u hu)
        subst ev
        have a1:addN (List.range X) v=List.range X:=by unfold addN;rw[if_pos (List.mem_range.mpr hu)]
        exact⟨rfl,X,a1,a1,hR⟩
      · have hv:¬v < X:=fun hv=>hu (by rw[inj' _ _ _ uv (hR v hv)];exact hv)
        have a1:addN (List.range X) u=List.range X++[u]:=by unfold addN;rw[if_neg (by rw[List.mem_range];exact hu)]
        have a2:addN (List.range X) v=List.range X++[v]:=by unfold addN;rw[if_neg (by rw[List.mem_range];exact hv)]
        rw[a1]at p1
        rw[a2]at p2
        have b1:=pre_range p1
        have b2:=pre_range p2
        subst b1
        subst b2
        refine⟨rfl,v+1,by rw[a1,List.range_succ],by rw[a2,List.range_succ],fun x hx=>?_⟩
        by_cases z:x=v
        · rw[z];exact uv
        · exact hR x (by omega)
    obtain⟨ev,Z,a1,a2,hZ⟩:=key
    rw[a1]at e1
    rw[a2]at e2
    obtain⟨r1,r2,r3⟩:=same_fold inj inj' us vs Z Z Y Y' (by simpa using l) (fun q u v h1 h2=>hq (q+1) u v (by simpa using h1) (by simpa using h2)) hZ rfl e1 e2
    exact⟨r1,by rw[ev,r2],r3⟩
theorem ord_both{cs cs':List (List Nat)}{m m':Nat}{R:Nat→Nat→Prop}(inj:∀a b c,R a b→R a c→b=c)(inj':∀a b c,R a c→R b c→a=b)(l:cs.length=cs'.length)(z:R 0 0)
    (s:∀(q:Nat) (c c':List Nat),cs[q]? = some c→cs'[q]? = some c'→∀k,R k k→R (gD c k) (gD c' k)) (O:InOrd (rowsOf m cs)) (O':InOrd (rowsOf m' cs')) :
    ∀k,k≤m→k≤m'→(ordN (rowsOf m cs) k).length=(ordN (rowsOf m' cs') k).length∧(∀x,x < (ordN (rowsOf m cs) k).length→R x x)∧∀j,j < k→(cs.map fun c=>gD c j)=cs'.map fun c=>gD c j
  | 0,_,_=>⟨rfl,fun x hx=>by
      have:x=0:=Nat.lt_one_iff.mp hx
      rw[this];exact z,fun j hj=>absurd hj (Nat.not_lt_zero j)⟩
  | k+1,h1,h2=>by
    obtain⟨a,b,c⟩:=ord_both inj inj' l z s O O' k (by omega) (by omega)
    have rl:=rowsOf_len m cs
    have rl':=rowsOf_len m' cs'
    have go:=O.go k (by rw[rl];omega)
    have r0:=ord_range O (m - k) k (by rw[rl];omega)
    have r0':=ord_range O' (m' - k) k (by rw[rl'];omega)
    have r1:=ord_range O (m - (k+1)) (k+1) (by rw[rl];omega)
    have r1':=ord_range O' (m' - (k+1)) (k+1) (by rw[rl'];omega)
    have st1:ordN (rowsOf m cs) (k+1)=(cs.map fun c=>gD c k).foldl addN (ordN (rowsOf m cs) k):=by
      show((rowsOf m cs).getD k []).foldl addN _=_
      rw[rows_getD cs (show k < m by omega)]
    have st1':ordN (rowsOf m' cs') (k+1)=(cs'.map fun c=>gD c k).foldl addN (ordN (rowsOf m' cs') k):=by
      show((rowsOf m' cs').getD k []).foldl addN _=_
      rw[rows_getD cs' (show k < m' by omega)]
    rw[st1,r0]at r1
    rw[st1',r0']at r1'
    have:=same_fold inj inj' _ _ _ _ _ _ (by rw[List.length_map,List.length_map];exact l) (fun q u v hu hv=>?_) b a r1 r1'
    · rw[← r0,← r0',← st1,← st1']at this
      refine⟨this.1,this.2.2,fun j hj=>?_⟩
      by_cases z:j=k
      · rw[z];exact this.2.1
      · exact c j (by omega)
    · rw[List.getElem?_map]at hu hv
      cases e1:cs[q]? with
      | none=>rw[e1]at hu;cases hu
      | some x=>
        cases e2:cs'[q]? with
        | none=>rw[e2]at hv;cases hv
        | some y=>
          rw[e1]at hu;rw[e2]at hv
          cases hu;cases hv
          exact s q x y e1 e2 k (b k go)
theorem ext_range{m:Nat}{f g:Nat→Nat}(h:∀k,k < m→f k=g k):(List.range m).map f=(List.range m).map g:=List.map_congr_left fun k hk=>h k (List.mem_range.mp hk)
theorem q_same{cs cs':List (List Nat)}{es es':List Bool}{N N' m m':Nat}{σ σ':List Nat}{Pr:Nat→Nat→Prop}(P:Pair cs cs' es es' N N' Pr)(h:Srt cs es N σ m)(h':Srt cs' es' N' σ' m')
    (O:InOrd (rowsOf N cs)) (O':InOrd (rowsOf N' cs')) (n0:0 < N) (n0':0 < N'):m=m'∧qcs σ m cs=qcs σ' m' cs'∧qes σ m es=qes σ' m' es':=by
  have inj:∀a b c,Rho σ σ' N N' Pr a b→Rho σ σ' N N' Pr a c→b=c:=fun a b c ⟨i,j,hi,hj,e1,e2,p⟩ ⟨i2,j2,hi2,hj2,e3,e4,p2⟩=>by
    rw[← e2,← e4]
    exact P.inj h h' hi hi2 hj hj2 p p2 (e1.trans e3.symm)
  have inj':∀a b c,Rho σ σ' N N' Pr a c→Rho σ σ' N N' Pr b c→a=b:=fun a b c ⟨i,j,hi,hj,e1,e2,p⟩ ⟨i2,j2,hi2,hj2,e3,e4,p2⟩=>by
    rw[← e1,← e3]
    exact P.flip.inj h' h hj hj2 hi hi2 p p2 (e2.trans e4.symm)
  have z:Rho σ σ' N N' Pr 0 0:=⟨0,0,n0,n0',Nat.le_zero.mp (h.st.st 0 n0),Nat.le_zero.mp (h'.st.st 0 n0'),P.z⟩
  have l:(qcs σ m cs).length=(qcs σ' m' cs').length:=by unfold qcs;rw[List.length_map,List.length_map];exact P.l
  have s:∀(q:Nat) (c c':List Nat),(qcs σ m cs)[q]? = some c→(qcs σ' m' cs')[q]? = some c'→∀k,Rho σ σ' N N' Pr k k→Rho σ σ' N N' Pr (gD c k) (gD c' k):=fun q c c' hc hc' k ⟨i,j,hi,hj,e1,e2,p⟩=>by
    unfold qcs at hc hc'
    rw[List.getElem?_map]at hc hc'
    cases e3:cs[q]? with
    | none=>rw[e3]at hc;cases hc
    | some x=>
      cases e4:cs'[q]? with
      | none=>rw[e4]at hc';cases hc'
      | some y=>
        rw[e3]at hc;rw[e4]at hc'
        cases hc;cases hc'
        have mx:=List.mem_of_getElem? e3
        have my:=List.mem_of_getElem? e4
        have a1:=h.qc hi mx
        have a2:=h'.qc hj my
        rw[e1]at a1
        rw[e2]at a2
        exact⟨gD x i,gD y j,h.cl x mx i hi,h'.cl y my j hj,a1.symm,a2.symm,P.s q x y e3 e4 i j hi hj p⟩
  have Q:=q_inord h O n0
  have Q':=q_inord h' O' n0'
  have both:=ord_both inj inj' l z s Q Q'
  have L:=Q.last
  have L':=Q'.last
  rw[rowsOf_len]at L L'
  have em:m=m':=by
    rcases Nat.lt_trichotomy m m' with q | q | q
    · have a:=(both m (Nat.le_refl _) (Nat.le_of_lt q)).1
      have g:=Q'.go m (by rw[rowsOf_len];exact q)
      rw[L,List.length_range]at a
      omega
    · exact q
    · have a:=(both m' (Nat.le_of_lt q) (Nat.le_refl _)).1
      have g:=Q.go m' (by rw[rowsOf_len];exact q)
      rw[L',List.length_range]at a
      omega
  subst em
  obtain⟨_,b2,b3⟩:=both m (Nat.le_refl _) (Nat.le_refl _)
  rw[L,List.length_range]at b2
  refine⟨rfl,List.ext_getElem? fun q=>?_,List.map_congr_left fun k hk=>?_⟩
  · by_cases hq:q < cs.length
    · have hq':q < cs'.length:=by rw[← P.l];exact hq
      have e3:cs[q]? = some cs[q]:=List.getElem?_eq_getElem hq
      have e4:cs'[q]? = some cs'[q]:=List.getElem?_eq_getElem hq'
      unfold qcs at b3 ⊢
      rw[List.getElem?_map,List.getElem?_map,e3,e4]
      show some _=some _
      congr 1
      refine ext_range fun k hk=>?_
      have:=congrArg (fun l=>l[q]?) (b3 k hk)
      simp only[List.getElem?_map,e3,e4,Option.map_some]at this
      have:=Option.some.inj this
      rwa [gD_range _ hk,gD_range _ hk]at this
    · rw[List.getElem?_eq_none (by unfold qcs;rw[List.length_map];omega),List.getElem?_eq_none (by unfold qcs;rw[List.length_map,← P.l];omega)]
  · have hk:=List.mem_range.mp hk
    obtain⟨i,j,hi,hj,e1,e2,p⟩:=b2 k hk
    obtain⟨a1,a2,_⟩:=h.st.fst hk
    obtain⟨a3,a4,_⟩:=h'.st.fst hk
    rw[(h.fin _ i a1 hi (a2.trans e1.symm)).1,(h'.fin _ j a3 hj (a4.trans e2.symm)).1]
    exact P.e i j hi hj p
def keyN(ns:List Nat)(cs:List (List Nat))(i:Nat):List Nat:=ns.getD i 0::cs.map fun c=>ns.getD (c.getD i 0) 0
def keysN(ns:List Nat)(cs:List (List Nat))(n:Nat):List (List Nat):=(List.range n).map (keyN ns cs)
def fidx(ks:List (List Nat)):List Nat:=ks.map fun k=>ks.idxOf k
def mkN(cs:List (List Nat))(es:List Bool)(m:Nat):Nat→List Nat
  | 0=>es.map fun b=>if b=true then 1 else 0
  | t+1=>fidx (keysN (mkN cs es m t) cs m)
theorem idx_inj'{ks:List (List Nat)}{x y:List Nat}(hx:x∈ks)(hy:y∈ks)(e:ks.idxOf x=ks.idxOf y):x=y:=by
  have a:=List.idxOf_lt_length_iff.mpr hx
  have b:=List.getElem_idxOf a
  have c:=List.getElem_idxOf (List.idxOf_lt_length_iff.mpr hy)
  rw[← b,← c]
  congr 1
theorem fidx_eq{ns:List Nat}{cs:List (List Nat)}{m i j:Nat}(hi:i < m)(hj:j < m):gD (fidx (keysN ns cs m)) i=gD (fidx (keysN ns cs m)) j↔keyN ns cs i=keyN ns cs j:=by
  have g:∀i,i < m→gD (fidx (keysN ns cs m)) i=(keysN ns cs m).idxOf (keyN ns cs i):=fun i hi=>by
    show(fidx (keysN ns cs m)).getD i 0=_
    unfold fidx
    rw[List.getD_eq_getElem?_getD,List.getElem?_map]
    have:(keysN ns cs m)[i]? = some (keyN ns cs i):=by unfold keysN;rw[List.getElem?_map,List.getElem?_range hi];rfl
    rw[this];rfl
  have mem:∀i,i < m→keyN ns cs i∈keysN ns cs m:=fun i hi=>List.mem_map.mpr ⟨i,List.mem_range.mpr hi,rfl⟩
  rw[g i hi,g j hj]
  exact⟨fun e=>idx_inj' (mem i hi) (mem j hj) e,fun e=>by rw[e]⟩
def fstB(μ:List Nat)(i:Nat):Bool:=decide (∀j,j < i→gD μ j≠gD μ i)
def fc(μ:List Nat)(m:Nat):Nat:=(List.range m).countP (fstB μ)
theorem ex_fst(μ:List Nat):∀n i,i < n→∃f,f≤i∧gD μ f=gD μ i∧fstB μ f=true
  | n+1,i,hi=>by
    by_cases h:fstB μ i=true
    · exact⟨i,Nat.le_refl _,rfl,h⟩
    · have:¬∀j,j < i→gD μ j≠gD μ i:=fun q=>h (decide_eq_true q)
      have:∃j,j < i∧gD μ j=gD μ i:=by
        apply Classical.byContradiction
        intro q
        exact this fun j hj e=>q ⟨j,hj,e⟩
      obtain⟨j,hj,e⟩:=this
      obtain⟨f,h1,h2,h3⟩:=ex_fst μ n j (by omega)
      exact⟨f,by omega,h2.trans e,h3⟩
theorem fc_fine{μ ν:List Nat}{m:Nat}(h:∀i j,i < m→j < m→gD ν i=gD ν j→gD μ i=gD μ j):fc μ m≤fc ν m∧(fc μ m=fc ν m→∀i j,i < m→j < m→gD μ i=gD μ j→gD ν i=gD ν j):=by
  have c:=count_le (p:=fstB μ) (q:=fstB ν) (List.range m) fun i hi q=>by
    have hi:=List.mem_range.mp hi
    have q:=of_decide_eq_true q
    exact decide_eq_true fun j hj e=>q j hj (h j i (by omega) hi e)
  refine⟨c.1,fun e i j hi hj q=>?_⟩
  obtain⟨f,f1,f2,f3⟩:=ex_fst ν m i hi
  obtain⟨g,g1,g2,g3⟩:=ex_fst ν m j hj
  have a:=of_decide_eq_true (c.2 e f (List.mem_range.mpr (by omega)) f3)
  have b:=of_decide_eq_true (c.2 e g (List.mem_range.mpr (by omega)) g3)
  have e1:=h f i (by omega) hi f2
  have e2:=h g j (by omega) hj g2
  have fg:f=g:=by
    rcases Nat.lt_trichotomy f g with z | z | z
    · exact absurd (e1.trans (q.trans e2.symm)) (b f z)
    · exact z
    · exact absurd (e2.trans (q.symm.trans e1.symm)) (a g z)
  rw[← f2,← g2,fg]
theorem q_min{cs:List (List Nat)}{es:List Bool}{N m:Nat}{σ:List Nat}(h:Srt cs es N σ m)(μ:List Nat)(hE:∀a b,a < m→b < m→gD μ a=gD μ b→bit (qes σ m es) a=bit (qes σ m es) b)
    (hS:∀a b,a < m→b < m→gD μ a=gD μ b→∀c∈qcs σ m cs,gD μ (gD c a)=gD μ (gD c b)):∀a b,a < m→b < m→gD μ a=gD μ b→a=b:=fun a b ha hb e=>by
  obtain⟨a1,a2,_⟩:=h.st.fst ha
  obtain⟨b1,b2,_⟩:=h.st.fst hb
  have:=h.crs (fun i j=>gD μ (gD σ i)=gD μ (gD σ j)) (fun i j hi hj q=>by
    refine⟨?_,fun c hc=>?_⟩
    · rw[← h.qe hi,← h.qe hj]
      exact hE _ _ (h.lt hi) (h.lt hj) q
    · rw[← h.qc hi hc,← h.qc hj hc]
      exact hS _ _ (h.lt hi) (h.lt hj) q _ (List.mem_map.mpr ⟨c,hc,rfl⟩)) (fI σ a) (fI σ b) a1 b1 (by rw[a2,b2];exact e)
  rwa [a2,b2]at this
theorem mk_all{cs:List (List Nat)}{es:List Bool}{N m:Nat}{σ:List Nat}(h:Srt cs es N σ m)(m0:0 < m):∀t,
    (∀a b,a < m→b < m→gD (mkN (qcs σ m cs) (qes σ m es) m t) a=gD (mkN (qcs σ m cs) (qes σ m es) m t) b→bit (qes σ m es) a=bit (qes σ m es) b)∧
    ((∀a b,a < m→b < m→gD (mkN (qcs σ m cs) (qes σ m es) m t) a=gD (mkN (qcs σ m cs) (qes σ m es) m t) b→a=b)∨t+1≤fc (mkN (qcs σ m cs) (qes σ m es) m t) m)
  | 0=>by
    refine⟨fun a b ha hb e=>?_,.inr ?_⟩
    · have g:∀k,k < m→gD (mkN (qcs σ m cs) (qes σ m es) m 0) k=if bit (qes σ m es) k=true then 1 else 0:=fun k hk=>by
        show((qes σ m es).map fun b=>if b=true then 1 else 0).getD k 0=_
        unfold qes
        rw[bit_range _ hk,List.getD_eq_getElem?_getD,List.getElem?_map,List.getElem?_map,List.getElem?_range hk];rfl
      rw[g a ha,g b hb]at e
      cases e1:bit (qes σ m es) a <;>cases e2:bit (qes σ m es) b <;>rw[e1,e2]at e <;>simp at e ⊢
    · have:0 < fc (mkN (qcs σ m cs) (qes σ m es) m 0) m:=List.countP_pos_iff.mpr ⟨0,List.mem_range.mpr m0,decide_eq_true fun j hj=>absurd hj (Nat.not_lt_zero j)⟩
      omega
  | t+1=>by
    obtain⟨a1,a2⟩:=mk_all h m0 t
    have fine:∀i j,i < m→j < m→gD (mkN (qcs σ m cs) (qes σ m es) m (t+1)) i=gD (mkN (qcs σ m cs) (qes σ m es) m (t+1)) j→keyN (mkN (qcs σ m cs) (qes σ m es) m t) (qcs σ m cs) i=keyN (mkN (qcs σ m cs) (qes σ m es) m t) (qcs σ m cs) j:=fun i j hi hj e=>(fidx_eq hi hj).mp e
    have fine1:∀i j,i < m→j < m→gD (mkN (qcs σ m cs) (qes σ m es) m (t+1)) i=gD (mkN (qcs σ m cs) (qes σ m es) m (t+1)) j→gD (mkN (qcs σ m cs) (qes σ m es) m t) i=gD (mkN (qcs σ m cs) (qes σ m es) m t) j:=fun i j hi hj e=>(List.cons.inj (fine i j hi hj e)).1
    refine⟨fun a b ha hb e=>a1 a b ha hb (fine1 a b ha hb e),?_⟩
    rcases a2 with d | c
    · exact .inl fun a b ha hb e=>d a b ha hb (fine1 a b ha hb e)
    · have f:=fc_fine fine1
      by_cases q:fc (mkN (qcs σ m cs) (qes σ m es) m t) m=fc (mkN (qcs σ m cs) (qes σ m es) m (t+1)) m
      · refine .inl fun a b ha hb e=>?_
        refine q_min h _ a1 (fun a b ha hb e c hc=>?_) a b ha hb (fine1 a b ha hb e)
        have:=(List.cons.inj (fine a b ha hb (f.2 q a b ha hb e))).2
        exact List.map_inj_left.mp this c hc
      · exact .inr (by have:=f.1;omega)
theorem mk_last{cs:List (List Nat)}{es:List Bool}{N m:Nat}{σ:List Nat}(h:Srt cs es N σ m)(m0:0 < m):mkN (qcs σ m cs) (qes σ m es) m m=List.range m:=by
  have d:∀a b,a < m→b < m→gD (mkN (qcs σ m cs) (qes σ m es) m m) a=gD (mkN (qcs σ m cs) (qes σ m es) m m) b→a=b:=by
    rcases(mk_all h m0 m).2 with d | c
    · exact d
    · have:fc (mkN (qcs σ m cs) (qes σ m es) m m) m≤(List.range m).length:=List.countP_le_length
      rw[List.length_range]at this
      omega
  obtain⟨t,rfl⟩:∃t,m=t+1:=⟨m - 1,by omega⟩
  show fidx (keysN (mkN (qcs σ (t+1) cs) (qes σ (t+1) es) (t+1) t) (qcs σ (t+1) cs) (t+1))=_
  have d:∀a b,a < t+1→b < t+1→gD (fidx (keysN (mkN (qcs σ (t+1) cs) (qes σ (t+1) es) (t+1) t) (qcs σ (t+1) cs) (t+1))) a=gD (fidx (keysN (mkN (qcs σ (t+1) cs) (qes σ (t+1) es) (t+1) t) (qcs σ (t+1) cs) (t+1))) b→a=b:=d
  generalize mkN (qcs σ (t+1) cs) (qes σ (t+1) es) (t+1) t=μ at d
  generalize qcs σ (t+1) cs=cs' at d
  unfold fidx keysN
  rw[List.map_map]
  refine(List.map_congr_left fun k hk=>?_).trans (List.map_id _)
  have hk:=List.mem_range.mp hk
  show((List.range (t+1)).map (keyN μ cs')).idxOf (keyN μ cs' k)=k
  have mem:keyN μ cs' k∈(List.range (t+1)).map (keyN μ cs'):=List.mem_map.mpr ⟨k,List.mem_range.mpr hk,rfl⟩
  have lt:=List.idxOf_lt_length_iff.mpr mem
  have ge:=List.getElem_idxOf lt
  rw[List.getElem_map,List.getElem_range]at ge
  rw[List.length_map,List.length_range]at lt
  exact d _ _ lt hk ((fidx_eq lt hk).mpr ge)
theorem vS_at'{os:List Nat}{j x:Nat}(h:os[j]? = some x):atI (vS os) (j:Int)=some (.int (x:Int)):=atI_nat (vS_at h)
theorem isAll_pt{H:Hp}:∀{vs:List V} {ds:List PyData},vs.length=ds.length→(∀(j:Nat) v d,vs[j]? = some v→ds[j]? = some d→Is K H v d)→IsAll K H vs ds
  | [],[],_,_=>.nil
  | v::vs,d::ds,h,f=>.cons (f 0 v d rfl rfl) (isAll_pt (by simpa using h) fun j v d a b=>f (j+1) v d (by simpa using a) (by simpa using b))
def dL(ns:List Nat):PyData:=.list ((ns.map fun i:Nat=>(i:Int)).map PyData.int)
theorem dL_is{ns:List Nat}{p:Addr}{H:Hp}(h:H p=some (.lst (vS ns))):Is K H (.ref p) (dL ns):=by
  rw[vS_eq]at h
  exact .lst (SqL.of h) (isAll_ints _)
theorem dL_sh(ns:List Nat):shaped (dL ns)=true:=shaped_ints _
theorem dL_nm(a b:List Nat):noMix (dL a) (dL b)=true:=by rw[dL,dL,noMix];exact nma_ints _ _
theorem dL_cl(S:List Nat):(dL S).canLay0=true:=by rw[dL,PyData.canLay0];exact cl_ints _
theorem dL_dp(S:List Nat):(dL S).depth≤5:=by have:=dp_ints (S.map fun i:Nat=>(i:Int));rw[dL,PyData.depth];omega
theorem dL_inj{a b:List Nat}(h:dL a=dL b):a=b:=by
  unfold dL at h
  injection h with h
  have:=(List.map_inj_right (fun _ _ z=>by injection z)).mp h
  exact(List.map_inj_right (fun _ _ z=>by exact Int.ofNat.inj z)).mp this
theorem keyD_L(ks:List (List Nat)):KeyD (ks.map dL):=⟨fun d hd=>by
  obtain⟨k,_,rfl⟩:=List.mem_map.mp hd
  exact⟨dL_cl k,dL_dp k⟩,fun d hd e he=>by
  obtain⟨k,_,rfl⟩:=List.mem_map.mp hd
  obtain⟨k',_,rfl⟩:=List.mem_map.mp he
  exact dL_nm k' k⟩
theorem keyD_B(bs:List Bool):KeyD (bs.map PyData.bool):=⟨fun d hd=>by
  obtain⟨k,_,rfl⟩:=List.mem_map.mp hd
  simp[PyData.canLay0,PyData.depth],fun d hd e he=>by
  obtain⟨k,_,rfl⟩:=List.mem_map.mp hd
  obtain⟨k',_,rfl⟩:=List.mem_map.mp he
  simp[noMix]⟩
theorem keys_fine{xs:List PyData}{cs:List (List Nat)}{n i j:Nat}(lx:xs.length=n)(hi:i < n)(hj:j < n)(e:((keysN (numD xs) cs n).map dL)[i]? = ((keysN (numD xs) cs n).map dL)[j]?):(numD xs)[i]? = (numD xs)[j]? := by
  unfold keysN at e
  rw[List.getElem?_map,List.getElem?_map,List.getElem?_map,List.getElem?_map,List.getElem?_range hi,List.getElem?_range hj]at e
  have e:=dL_inj (Option.some.inj e)
  have h:=(List.cons.inj e).1
  rw[List.getD_eq_getElem?_getD,List.getD_eq_getElem?_getD,List.getElem?_eq_getElem (by rw[num_len];omega),List.getElem?_eq_getElem (by rw[num_len];omega)]at h
  rw[List.getElem?_eq_getElem (by rw[num_len];omega),List.getElem?_eq_getElem (by rw[num_len];omega)]
  exact congrArg some h
theorem gd{ns:List Nat}{i:Nat}(h:i < ns.length):ns[i]? = some (ns.getD i 0):=by
  rw[List.getD_eq_getElem?_getD,List.getElem?_eq_getElem h];rfl
theorem gd_eq{ns:List Nat}{i j:Nat}(hi:i < ns.length)(hj:j < ns.length):ns[i]? = ns[j]?↔gD ns i=gD ns j:=by
  rw[gD_at hi,gD_at hj]
  exact⟨fun h=>Option.some.inj h,fun h=>by rw[h]⟩
theorem num_gd{xs:List PyData}{n i j:Nat}(l:xs.length=n)(hi:i < n)(hj:j < n):gD (numD xs) i=gD (numD xs) j↔xs[i]? = xs[j]? := by
  rw[← gd_eq (by rw[num_len];omega) (by rw[num_len];omega)]
  exact num_eqv (by omega) (by omega)
theorem keys_at{ns:List Nat}{cs:List (List Nat)}{n i:Nat}(hi:i < n):((keysN ns cs n).map dL)[i]? = some (dL (keyN ns cs i)):=by
  unfold keysN
  rw[List.getElem?_map,List.getElem?_map,List.getElem?_range hi];rfl
structure SI(cs:List (List Nat))(es:List Bool)(n:Nat)(xs:List PyData)(told:List Nat):Prop where
  fn:∀i j,i < n→j < n→gD (numD xs) i=gD (numD xs) j→bit es i=bit es j
  cr:∀R:Nat→Nat→Prop,(∀i j,i < n→j < n→R i j→bit es i=bit es j∧∀c∈cs,R (gD c i) (gD c j))→∀i j,i < n→j < n→R i j→gD (numD xs) i=gD (numD xs) j
  ol:told=[]∨xs=(keysN told cs n).map dL
theorem SI.init{cs:List (List Nat)}{es:List Bool}{n:Nat}(l:es.length=n):SI cs es n (es.map PyData.bool) []:=by
  have key:∀i j,i < n→j < n→(gD (numD (es.map PyData.bool)) i=gD (numD (es.map PyData.bool)) j↔bit es i=bit es j):=fun i j hi hj=>by
    rw[num_gd (by rw[List.length_map];exact l) hi hj,List.getElem?_map,List.getElem?_map]
    unfold bit
    rw[List.getD_eq_getElem?_getD,List.getD_eq_getElem?_getD,List.getElem?_eq_getElem (show i < es.length by omega),List.getElem?_eq_getElem (show j < es.length by omega)]
    show some (PyData.bool _)=some (PyData.bool _)↔es[i]=es[j]
    exact⟨fun h=>by injection h with h;injection h,fun h=>by rw[h]⟩
  exact⟨fun i j hi hj e=>(key i j hi hj).mp e,fun R hR i j hi hj r=>(key i j hi hj).mpr (hR i j hi hj r).1,.inl rfl⟩
theorem SI.next{cs:List (List Nat)}{es:List Bool}{n:Nat}{xs:List PyData}{told:List Nat}(h:SI cs es n xs told)(lx:xs.length=n)(hc:∀c∈cs,∀i,i < n→gD c i < n):SI cs es n ((keysN (numD xs) cs n).map dL) (numD xs):=by
  have lk:((keysN (numD xs) cs n).map dL).length=n:=by unfold keysN;rw[List.length_map,List.length_map,List.length_range]
  refine⟨fun i j hi hj e=>?_,fun R hR i j hi hj r=>?_,.inr rfl⟩
  · rw[num_gd lk hi hj]at e
    exact h.fn i j hi hj ((gd_eq (by rw[num_len];omega) (by rw[num_len];omega)).mp (keys_fine lx hi hj e))
  · rw[num_gd lk hi hj,keys_at hi,keys_at hj]
    congr 2
    unfold keyN
    have a:=h.cr R hR i j hi hj r
    have b:∀c∈cs,gD (numD xs) (gD c i)=gD (numD xs) (gD c j):=fun c hcc=>h.cr R hR _ _ (hc c hcc i hi) (hc c hcc j hj) ((hR i j hi hj r).2 c hcc)
    congr 1
    exact List.map_congr_left fun c hcc=>b c hcc
theorem SI.srt{cs:List (List Nat)}{es:List Bool}{n:Nat}{xs:List PyData}(h:SI cs es n xs (numD xs))(lx:xs.length=n)(n1:1≤n)(hc:∀c∈cs,∀i,i < n→gD c i < n):Srt cs es n (numD xs) (nubD xs).length:=by
  refine⟨stair_num lx,hc,fun i j hi hj e=>⟨h.fn i j hi hj e,?_⟩,h.cr⟩
  rcases h.ol with q | q
  · have:=congrArg List.length q
    rw[num_len,List.length_nil]at this
    omega
  · rw[num_gd lx hi hj]at e
    rw[q,]at e
    rw[keys_at hi,keys_at hj]at e
    have:=(List.cons.inj (dL_inj (Option.some.inj e))).2
    exact fun c hcc=>List.map_inj_left.mp this c hcc
def sp_sorts:Sp:=fun vs H Q _=>∃(sv:V) (ea:Addr) (cs:List (List Nat)) (es:List Bool) (n:Nat),vs=[sv,.ref ea]∧(LL cs sv H∧H ea=some (.lst (es.map V.bl))∧es.length=n∧1≤n∧n≤20∧cs.length≤3∧∀c∈cs,c.length=n∧∀x∈c,x < n)∧∀tp σ m H',Same H H'→Srt cs es n σ m→H' tp=some (.lst (vS σ))→Q (.ref tp) H'
theorem ok_sorts_of(T:Txt K mg t):FnOk Pr w K mg base CX0 2 t.sorts_of t.d_sorts_of ["steps","ends"] sp_sorts:=by
  refine T.F_sorts_of.ok sc_sorts_of (fun vs H Q E h=>?_) (fun cdv A outer s H vs Q E hr h=>?_)
  · obtain⟨sv,ea,cs,es,n,rfl,_⟩:=h
    rfl
  · obtain⟨sv,ea,cs,es,n,rfl,⟨⟨sa,svs,rfl,hsa,esa⟩,hE,el,n1,n20,c3,hc⟩,k⟩:=h
    have zl:10000 < sizeLine:=by decide
    have hcl:∀c∈cs,∀i,i < n→gD c i < n:=fun c hcc i hi=>(hc c hcc).2 _ (List.mem_of_getElem? (gD_at (by rw[(hc c hcc).1];exact hi)))
    refine⟨_,(pss_cons (ps_set (i:=2) sc_sorts_of.nd rfl (Or.inl rfl) (pe_call (ok_numbered T) hr.m rfl T.m_numbered T.F_numbered.kp T.b_numbered .nil pass0 (pa_cons (pv 1) pa_nil))) (pss_cons (ps_set (i:=3) sc_sorts_of.nd rfl (Or.inr rfl) (pe_lst pa_nil)) (pss_cons (ps_while PassesOwn.never (pt_cmpR (op_neD hr.units) (pv 2) (pv 3) (nomark _)) (pss_cons (ps_set (i:=3) sc_sorts_of.nd rfl (Or.inr rfl) (pv 2)) (pss_one (ps_set (i:=2) sc_sorts_of.nd rfl (Or.inl rfl) (pe_call (ok_numbered T) hr.m rfl T.m_numbered T.F_numbered.kp T.b_numbered .nil pass0 (pa_cons (pe_comp (xs:=["room"]) rfl (show CompOk ["steps","ends","finer","told"] (defScope s_sorts_of) _ from⟨rfl,by decide +kernel,by decide +kernel,by decide +kernel,by decide +kernel,by decide +kernel⟩) (pi_range1 rfl T.z_range (pa_cons (pe_callB call_len (by rfl) T.z_len PySem.boot_len (pa_cons (pv 1) pa_nil)) pa_nil)) (fun _ _ _ _ _=>(pg_name (i:=4) (by show List.Nodup (["steps","ends","finer","told","room"]:List Str);decide +kernel) rfl (Or.inr rfl))) (fun _ _ _ _ _=>(pe_op op_cat (pe_lst (pa_cons (pe_ix (show IxR _ (rIxL K)from ix_list) (pv 3) (pv 4) (fun _ _=>rfl)) pa_nil)) (pe_comp (xs:=["column"]) rfl (show CompOk ["steps","ends","finer","told","room"] (rlS (defScope s_sorts_of) _) _ from⟨rfl,by decide +kernel,by decide +kernel,by decide +kernel,by decide +kernel,by decide +kernel⟩) (show PI _ _ _ (iList K _)from pi_list (pv 0)) (fun _ _ _ _ _=>(pg_name (i:=5) (by show List.Nodup (["steps","ends","finer","told","room","column"]:List Str);decide +kernel) rfl (Or.inl rfl))) (fun _ _ _ _ _=>(pe_ix (show IxR _ (rIxL K)from ix_list) (pv 3) (pe_ix (show IxR _ (rIxL K)from ix_list) (pv 5) (pv 4) (fun _ _=>rfl)) (fun _ _=>rfl))))))) pa_nil)))))) (pss_one (ps_ret (pv 3)))))),?_⟩
    refine⟨_,rfl,ea,_,es.map PyData.bool,rfl,⟨hE,isAll_bools es,by rw[List.length_map];omega,keyD_B es⟩,fun fp H1 s1 kf=>?_⟩
    refine⟨Nat.zero_le _,fun tp ntp=>?_⟩
    have t2:=same_upd (o:=.lst []) ntp
    refine⟨fun m σ H'=>∃fp tp xs told,σ=[some (.ref sa),some (.ref ea),some (.ref fp),some (.ref tp)]∧Same H H'∧xs.length=n∧H' fp=some (.lst (vS (numD xs)))∧H' tp=some (.lst (vS told))∧SI cs es n xs told∧m=2 * eqs n (numD xs)+(if told=numD xs then 0 else 1),⟨_,fp,tp,es.map PyData.bool,[],rfl,s1.trans t2,by rw[List.length_map];exact el,t2 _ _ kf,upd_same,SI.init el,rfl⟩,?_⟩
    clear kf ntp t2 s1 H1 fp tp
    rintro m σ H2 ⟨fp,tp,xs,told,rfl,s2,lx,kf,kt,si,rfl⟩
    refine⟨_,rfl,_,rfl,dL (numD xs),dL told,dL_is kf,dL_is kt,dL_sh _,dL_sh _,dL_nm _ _,_,rfl,?_⟩
    cases eb:PySem.Spec.same (dL (numD xs)) (dL told)with
    | true=>
      have e:=dL_inj (eq_of_same _ _ eb)
      refine iteN rfl ?_
      rw[← e]at kt si
      exact⟨_,rfl,k tp _ _ H2 s2 (si.srt lx n1 hcl) kt⟩
    | false=>
      have ne:told≠numD xs:=fun e=>by rw[e,same_refl]at eb;cases eb
      refine iteY rfl ?_
      refine⟨fun σ' H''=>∃m',m' < 2 * eqs n (numD xs)+(if told=numD xs then 0 else 1)∧∃fp tp xs told,σ'=[some (.ref sa),some (.ref ea),some (.ref fp),some (.ref tp)]∧Same H H''∧xs.length=n∧H'' fp=some (.lst (vS (numD xs)))∧H'' tp=some (.lst (vS told))∧SI cs es n xs told∧m'=2 * eqs n (numD xs)+(if told=numD xs then 0 else 1),fun σ' H'' q=>q,?_⟩
      rw[if_neg ne]
      have ll:∀{H':Hp},H' ea=some (.lst (es.map V.bl))→LenV K (.ref ea) H' n:=fun h=>.inl ⟨_,SqL.of h,by rw[List.length_map,el]⟩
      have nlen:(numD xs).length=n:=by rw[num_len];exact lx
      refine⟨_,rfl,?_⟩
      refine⟨_,rfl,_,_,rfl,ll (s2 _ _ hE),_,rfl,(by omega),(by omega),comp_go (n:=n) (fun i us H3=>Same H2 H3∧Ents (fun j u H=>∃c,(keysN (numD xs) cs n)[j]? = some c∧NL c u H) us i H3) (by omega) ⟨Same.refl _,Ents.nil⟩ (fun i us H3 h=>h.2.1) ?_ ?_ ?_⟩
      · rintro i us H3 hi ⟨s3,e3⟩
        refine⟨(show i < (n:Int).toNat by omega),fun y H' hy=>?_⟩
        obtain⟨rfl,rfl⟩:=hy
        have i0:(0:Int)+(i:Int)=((i:Nat):Int):=by omega
        rw[i0]
        have kf3:=s3 _ _ kf
        refine⟨⟨[some _],rfl,rfl⟩,_,rfl,_,rfl,_,_,_,_,rfl,rfl,SqL.of kf3,vS_at' (gd (i:=i) (by omega)),(by show 1≤sizeLine;omega),fun hp nhp=>?_⟩
        have t4:=same_upd (o:=.lst (vS [(numD xs).getD i 0])) nhp
        have kh:upd H' hp (.lst (vS [(numD xs).getD i 0])) hp=some (.lst (vS [(numD xs).getD i 0])):=upd_same
        have e4:Ents (fun j u H=>∃c,(keysN (numD xs) cs n)[j]? = some c∧NL c u H) us i (upd H' hp (.lst (vS [(numD xs).getD i 0]))):=e3.mono fun _ _ _ ⟨c,q1,q2⟩=>⟨c,q1,q2.same t4⟩
        have s4:=s3.trans t4
        clear t4
        revert kh s4 e4
        show _→_→_→tComp _ _ _ _ _ (upd H' hp (.lst (vS [(numD xs).getD i 0]))) _
        generalize upd H' hp (.lst (vS [(numD xs).getD i 0]))=H4
        intro kh e4 s4
        have s04:=s2.trans s4
        have kf4:=s4 _ _ kf
        refine⟨_,rfl,sa,rfl,⟨_,SqL.of (s04 _ _ hsa)⟩,comp_go (n:=cs.length) (fun j ws H5=>(H5=H4∧ws=vS ((cs.take j).map fun c=>(numD xs).getD (c.getD i 0) 0))∧ws.length=j) (by omega) ⟨⟨rfl,rfl⟩,rfl⟩ (fun j ws H5 h=>h.2) ?_ ?_ ?_⟩
        · rintro j ws H5 hj ⟨⟨rfl,rfl⟩,lw'⟩
          obtain⟨u,eu,c,ec,b,rfl,hb⟩:=esa.2 j hj
          have hs5:=SqL.of (K:=K) (s04 _ _ hsa)
          refine⟨⟨_,_,hs5,eu⟩,fun y F4 hy=>?_⟩
          obtain⟨rfl,hy⟩:=hy
          have:=hy _ hs5
          rw[eu]at this
          cases this
          obtain⟨cl,cx⟩:=hc c (List.mem_of_getElem? ec)
          have ci:=gd (ns:=c) (i:=i) (by omega)
          have cn:=cx _ (List.mem_of_getElem? ci)
          refine⟨⟨[some _],rfl,rfl⟩,_,rfl,_,rfl,_,rfl,_,_,_,_,rfl,rfl,SqL.of (s04 _ _ hb),vS_at' ci,_,_,_,_,rfl,rfl,SqL.of kf4,vS_at' (gd (by omega)),⟨rfl,?_⟩,by rw[List.length_append,lw'];rfl⟩
          rw[List.take_add_one,ec,List.map_append,vS_app];rfl
        · rintro ws H5 ⟨⟨rfl,rfl⟩,_⟩
          exact⟨_,SqL.of (s04 _ _ hsa),by rw[esa.1];exact Nat.le_refl _⟩
        · rintro ws H5 wp ⟨⟨rfl,rfl⟩,_⟩ nwp
          have t5:=same_upd (o:=.lst (vS ((cs.take cs.length).map fun c=>(numD xs).getD (c.getD i 0) 0))) nwp
          rw[List.take_length]at t5 ⊢
          refine⟨hp,wp,_,_,rfl,rfl,t5 _ _ kh,upd_same,(by rw[vS_len,vS_len,List.length_map];show 1+_≤_;omega),fun kp nkp=>?_⟩
          rw[← vS_app]
          have t6:=same_upd (o:=.lst (vS ([(numD xs).getD i 0]++cs.map fun c=>(numD xs).getD (c.getD i 0) 0))) nkp
          have t56:=t5.trans t6
          refine⟨s4.trans t56,(e4.mono fun _ _ _ ⟨c,q1,q2⟩=>⟨c,q1,q2.same t56⟩).snoc ⟨keyN (numD xs) cs i,?_,kp,rfl,upd_same⟩⟩
          unfold keysN
          rw[List.getElem?_map,List.getElem?_range hi];rfl
      · rintro us H3 ⟨s3,e3⟩
        show(n:Int).toNat≤n
        omega
      · rintro us H3 lp ⟨s3,e3⟩ nlp
        have t4:=same_upd (o:=.lst us) nlp
        have kl:(keysN (numD xs) cs n).length=n:=by unfold keysN;rw[List.length_map,List.length_range]
        have ia:IsAll K (upd H3 lp (.lst us)) us ((keysN (numD xs) cs n).map dL):=by
          refine isAll_pt (by rw[List.length_map,kl,e3.1]) fun j v d ev ed=>?_
          have hj:j < n:=by rw[← e3.1];exact(List.getElem?_eq_some_iff.mp ev).1
          obtain⟨u,eu,c,ec,b,rfl,hb⟩:=e3.2 j hj
          rw[eu]at ev;cases ev
          rw[List.getElem?_map,ec]at ed
          cases ed
          exact dL_is (t4 _ _ hb)
        refine⟨lp,us,(keysN (numD xs) cs n).map dL,rfl,⟨upd_same,ia,by rw[List.length_map,kl];exact n20,keyD_L _⟩,fun fp' H5 s5 kf5=>?_⟩
        have s6:=(s3.trans t4).trans s5
        refine⟨_,?_,fp',fp,(keysN (numD xs) cs n).map dL,numD xs,rfl,s2.trans s6,by rw[List.length_map,kl],kf5,s6 _ _ kf,si.next lx hcl,rfl⟩
        have lk:((keysN (numD xs) cs n).map dL).length=n:=by rw[List.length_map,kl]
        rcases turn_num lx lk (fun i j hi hj e=>keys_fine lx hi hj e)with q | q
        · rw[q,if_pos rfl];omega
        · split <;>omega
theorem first_srt{σ:List Nat}{N m k:Nat}(h:Stair σ N m)(hk:k < m):FirstAt (.int (k:Int)) ((σ.map fun i:Nat=>(i:Int)).map PyData.int) (fI σ k):=by
  obtain⟨a,b,_⟩:=h.fst hk
  have g:∀i,i < N→((σ.map fun i:Nat=>(i:Int)).map PyData.int)[i]? = some (.int ((gD σ i:Nat):Int)):=fun i hi=>by
    rw[List.getElem?_map,List.getElem?_map,gD_at (by rw[h.len];exact hi)];rfl
  refine⟨by rw[g _ a,b],fun i hi e=>?_⟩
  rw[g i (by omega)]at e
  injection e with e
  injection e with e
  have e:gD σ i=k:=by omega
  have q:=List.not_of_lt_findIdx (p:=(· == k)) (xs:=σ) (i:=i) hi
  have gg:=gD_at (σ:=σ) (i:=i) (by rw[h.len];omega)
  rw[List.getElem?_eq_getElem (by rw[h.len];omega),e]at gg
  rw[Option.some.inj gg]at q
  simp at q
theorem Stair.le{σ:List Nat}{N m:Nat}(h:Stair σ N m):m≤N:=by
  have:∀i,tpS σ i≤i:=fun i=>by
    induction i with
    | zero=>exact Nat.le_refl _
    | succ i ih=>rw[tp_succ];split <;>omega
  rw[← h.top];exact this N
theorem Stair.pos{σ:List Nat}{N m:Nat}(h:Stair σ N m)(n0:0 < N):0 < m:=by
  rw[← h.top]
  have:=h.lt n0 (Nat.le_refl _)
  omega
theorem col_ok{Ts:List (List Nat)}{ts:List (List (List Bool))}{n:Nat}(W:TOk ts n Ts){c:List Nat}(h:c∈ts.map (colS Ts)):c.length=Ts.length∧∀x∈c,x < Ts.length:=by
  obtain⟨m,hm,rfl⟩:=List.mem_map.mp h
  refine⟨by rw[colS,List.length_map],fun x hx=>?_⟩
  obtain⟨S,hS,rfl⟩:=List.mem_map.mp hx
  exact List.idxOf_lt_length_iff.mpr (W.cl m hm S hS)
def csM(st:List Bool)(ts:List (List (List Bool)))(N:Nat):List (List Nat):=ts.map (colS (bfs st ts N))
def esM(st:List Bool)(ts:List (List (List Bool)))(en:List Bool)(N:Nat):List Bool:=(bfs st ts N).map (goodS en)
def spx_least(t:Adr):Sp:=fun vs H Q E=>∃mv l n st ts en,vs=[mv]∧(BM l st ts en mv H∧BMok l n st ts en)∧
  (∀N σ m v H',Same H H'→Run st ts N→(bfs st ts N).length=N→N≤20→1≤N→TOk ts n (bfs st ts N)→Srt (csM st ts N) (esM st ts en N) N σ m→BM l (unitB m 0) (sureT m (qcs σ m (csM st ts N))) (qes σ m (esM st ts en N)) v H'→Q v H')∧
  (∀i H',Same H H'→Run st ts i→20 < (bfs st ts i).length→E (.ref t.TooGreat) none H')
theorem okx_least_sure(T:Txt K mg t):FnOk Pr w K mg base (CX1 Pr w) 4 t.least_sure t.d_least_sure ["machine"] (spx_least t):=by
  refine T.F_least_sure.okx sc_least_sure (fun vs H Q E h=>?_) (fun cdv A outer s H vs Q E hr h=>?_)
  · obtain⟨mv,l,n,st,ts,en,rfl,_⟩:=h
    rfl
  · obtain⟨mv,l,n,st,ts,en,rfl,⟨hM,O⟩,k0,k1⟩:=h
    have zl:10000 < sizeLine:=by decide
    have l3:=O.lk.h3
    have l1:=O.lk.h1
    have tl:=O.tl
    have hL:ts.length=1∨ts.length=2∨ts.length=3:=by omega
    refine⟨_,(pss_cons (ps_set (i:=1) sc_least_sure.nd rfl (Or.inl rfl) (PEX.thru thru_cx (px_call (okx_sets_of T) hr.m rfl T.m_sets_of T.F_sets_of.kp T.b_sets_of .nil (pa_cons (pv 0) pa_nil)))) (pss_cons (ps_set (i:=2) sc_least_sure.nd rfl (Or.inl rfl) (pe_call (ok_steps_of T) hr.m rfl T.m_steps_of T.F_steps_of.kp T.b_steps_of .nil pass0 (pa_cons (pv 0) (pa_cons (pv 1) pa_nil)))) (pss_cons (ps_set (i:=3) sc_least_sure.nd rfl (Or.inr rfl) (pe_call (ok_ends_of T) hr.m rfl T.m_ends_of T.F_ends_of.kp T.b_ends_of .nil pass0 (pa_cons (pv 0) (pa_cons (pv 1) pa_nil)))) (pss_cons (ps_set (i:=4) sc_least_sure.nd rfl (Or.inr rfl) (pe_call (ok_sorts_of T) hr.m rfl T.m_sorts_of T.F_sorts_of.kp T.b_sorts_of .nil pass0 (pa_cons (pv 2) (pa_cons (pv 3) pa_nil)))) (pss_cons (ps_set (i:=5) sc_least_sure.nd rfl (Or.inr rfl) (pe_comp (xs:=["number"]) rfl (show CompOk ["machine","found","steps","ends","sorts","firsts","least_steps"] (defScope s_least_sure) _ from⟨rfl,by decide +kernel,by decide +kernel,by decide +kernel,by decide +kernel,by decide +kernel⟩) (pi_range1 rfl T.z_range (pa_cons (pe_op op_add (pe_callB (call_maxL rfl) (by rfl) T.z_max boot_max (pa_cons (pv 4) pa_nil)) pe_int) pa_nil)) (fun _ _ _ _ _=>(pg_name (i:=7) (by show List.Nodup (["machine","found","steps","ends","sorts","firsts","least_steps","number"]:List Str);decide +kernel) rfl (Or.inl rfl))) (fun _ _ _ _ _=>(show PE _ _ (tBM K "list" (rIdxL K) _ _)from(pe_bm PySem.F.plainAttrs_list PySem.F.slot_list_index PySem.F.type_list_index (mt_indexL hr.units1) (pv 4) (pa_cons (pv 7) pa_nil)))))) (pss_cons (ps_setC (i₀:=6) (xs:=["column"]) sc_least_sure.nd rfl (Or.inl rfl) rfl (show CompOk ["machine","found","steps","ends","sorts","firsts","least_steps"] (defScope s_least_sure) _ from⟨rfl,by decide +kernel,by decide +kernel,by decide +kernel,by decide +kernel,by decide +kernel⟩) (pi_list (pv 2)) (fun _ _ _ _ _=>(pg_name (i:=7) (by show List.Nodup (["machine","found","steps","ends","sorts","firsts","least_steps","column"]:List Str);decide +kernel) rfl (Or.inr rfl))) (fun _ _ _ _ _=>(pe_comp (xs:=["room"]) rfl (show CompOk ["machine","found","steps","ends","sorts","firsts","least_steps","column"] (rlS (defScope s_least_sure) _) _ from⟨rfl,by decide +kernel,by decide +kernel,by decide +kernel,by decide +kernel,by decide +kernel⟩) (show PI _ _ _ (iList K _)from pi_list (pv 5)) (fun _ _ _ _ _=>(pg_name (i:=8) (by show List.Nodup (["machine","found","steps","ends","sorts","firsts","least_steps","column","room"]:List Str);decide +kernel) rfl (Or.inl rfl))) (fun _ _ _ _ _=>(pe_ix (show IxR _ (rIxL K)from ix_list) (pv 4) (pe_ix (show IxR _ (rIxL K)from ix_list) (pv 7) (pv 8) (fun _ _=>rfl)) (fun _ _=>rfl)))))) (pss_one (ps_ret (pe_call (ok_sure_machine T) hr.m rfl T.m_sure_machine T.F_sure_machine.kp T.b_sure_machine .nil pass0 (pa_cons (pe_ix ix_tup (pv 0) pe_int (fun _ _=>rfl)) (pa_cons (pv 6) (pa_cons (pe_comp (xs:=["room"]) rfl (show CompOk ["machine","found","steps","ends","sorts","firsts","least_steps"] (defScope s_least_sure) _ from⟨rfl,by decide +kernel,by decide +kernel,by decide +kernel,by decide +kernel,by decide +kernel⟩) (pi_list (pv 5)) (fun _ _ _ _ _=>(pg_name (i:=7) (by show List.Nodup (["machine","found","steps","ends","sorts","firsts","least_steps","room"]:List Str);decide +kernel) rfl (Or.inl rfl))) (fun _ _ _ _ _=>(pe_ix (show IxR _ (rIxL K)from ix_list) (pv 3) (pv 7) (fun _ _=>rfl)))) pa_nil)))))))))))),?_⟩
    refine⟨_,rfl,mv,l,n,st,ts,en,rfl,⟨hM,O⟩,fun N fa0 H1 s1 sl1 run hN l20 ok1=>?_,fun i H1 s1 run h20=>k1 i H1 s1 run h20⟩
    have W:=tok_bfs hL run hN l20 ok1
    have hN:=run_len run hN
    have N1:1≤N:=by
      cases N with
      | zero=>have:=(bfs_le (st:=st) (ts:=ts) (Nat.zero_le 0)).length_le;simp[bfs]at hN
      | succ N=>omega
    obtain⟨p,sv,tv,ev,rfl,hp,h1,h2,h3⟩:=id hM
    refine⟨_,rfl,_,rfl,.ref p,fa0,l,n,st,ts,en,_,rfl,⟨hM.same s1.t,O,sl1,W⟩,fun cv H2 s2 q2=>?_⟩
    refine⟨_,rfl,_,rfl,.ref p,fa0,l,n,st,ts,en,_,rfl,⟨hM.same (s1.trans s2).t,O,sl1.same s2,W⟩,fun ea H3 s3 q3=>?_⟩
    have s03:=(s1.trans s2).trans s3
    have hC:=q2.same s3
    have lm:(esM st ts en N).length=N:=by unfold esM;rw[List.length_map];exact hN
    have hcs:∀c∈csM st ts N,c.length=N∧∀x∈c,x < N:=fun c hc=>by
      have:=col_ok W hc
      rwa [hN]at this
    have csl:(csM st ts N).length≤3:=by unfold csM;rw[List.length_map];omega
    have k0':=fun σ m v H' s S b=>k0 N σ m v H' s run hN (by omega) N1 W S b
    have hC:LL (csM st ts N) cv H3:=hC
    have q3:H3 ea=some (.lst ((esM st ts en N).map V.bl)):=q3
    clear k0 k1
    generalize csM st ts N=cs at *
    generalize esM st ts en N=es at *
    refine⟨_,rfl,_,rfl,cv,ea,cs,es,N,rfl,⟨hC,q3,lm,N1,by omega,csl,hcs⟩,fun tp σ m H4 s4 S kt=>?_⟩
    have s04:=s03.trans s4
    obtain⟨sa,svs,rfl,hsa,esa⟩:=hC.same s4
    have hE4:=s4 _ _ q3
    have nlen:=S.st.len
    have mN:=S.st.le
    have mp:=S.st.pos (show 0 < N by omega)
    have kt':=kt
    rw[vS_eq]at kt'
    refine⟨_,rfl,tp,_,rfl,SqL.of kt',(by intro e;have:=congrArg List.length e;rw[List.length_map,nlen]at this;have:N=0:=this;omega),fun M hM1 hM2=>?_⟩
    obtain⟨m0,hm0,rfl⟩:=List.mem_map.mp hM1
    have ec:m=m0+1:=by
      obtain⟨i,hi⟩:=List.getElem?_of_mem hm0
      have li:=(List.getElem?_eq_some_iff.mp hi).1
      have c0:=S.lt (show i < N by omega)
      have gi:=gD_at (σ:=σ) li
      rw[hi]at gi
      have gi:=Option.some.inj gi
      obtain⟨j,hj,e⟩:=S.st.ex N (Nat.le_refl _) (m - 1) (by rw[S.st.top];omega)
      have gj:=gD_at (σ:=σ) (i:=j) (by omega)
      have:=hM2 _ (List.mem_map.mpr ⟨_,List.mem_of_getElem? gj,rfl⟩)
      rw[e]at this
      omega
    refine⟨_,_,rfl,rfl,_,rfl,(by omega),(by omega),comp_go (n:=m) (fun j ys H5=>(H5=H4∧ys=vS ((List.range j).map (fI σ)))∧ys.length=j) (by omega) ⟨⟨rfl,rfl⟩,rfl⟩ (fun j ys H5 h=>h.2) ?_ ?_ ?_⟩
    · rintro j ys H5 hj ⟨⟨rfl,rfl⟩,ly⟩
      refine⟨(show j < ((m0:Int)+1).toNat by omega),fun y H' hy=>?_⟩
      obtain⟨rfl,rfl⟩:=hy
      have j0:(0:Int)+(j:Int)=((j:Nat):Int):=by omega
      rw[j0]
      refine⟨⟨[some _],rfl,rfl⟩,_,rfl,.inl ⟨rfl,_,SqL.of kt⟩,_,rfl,_,.int (j:Int),_,fI σ j,rfl,.int _,dL_is kt,(by simp[shaped,PyData.canLay0,PyData.depth]),dL_sh _,(fun e he=>by
        obtain⟨z,_,rfl⟩:=List.mem_map.mp he
        simp[noMix]),(by rw[List.length_map,List.length_map,nlen];omega),first_srt S.st hj,⟨rfl,?_⟩,by rw[List.length_append,ly];rfl⟩
      rw[List.range_succ,List.map_append,vS_app];rfl
    · rintro ys H5 ⟨⟨rfl,rfl⟩,_⟩
      show((m0:Int)+1).toNat≤m
      omega
    rintro ys H5 gp ⟨⟨rfl,rfl⟩,_⟩ ngp
    have fl:((List.range m).map (fI σ)).length=m:=by rw[List.length_map,List.length_range]
    have fa:∀j,j < m→((List.range m).map (fI σ))[j]? = some (fI σ j):=fun j hj=>by rw[List.getElem?_map,List.getElem?_range hj];rfl
    have t5:=same_upd (o:=.lst (vS ((List.range m).map (fI σ)))) ngp
    have kg:upd H5 gp (.lst (vS ((List.range m).map (fI σ)))) gp=some (.lst (vS ((List.range m).map (fI σ)))):=upd_same
    revert t5 kg
    generalize upd H5 gp (.lst (vS ((List.range m).map (fI σ))))=H6
    generalize (List.range m).map (fI σ)=fs at fl fa
    intro t5 kg
    have kt6:=t5 _ _ kt
    have hsa6:=t5 _ _ hsa
    have hE6:=t5 _ _ hE4
    have s06:=s04.trans t5
    show gName 5 (.ref gp) [some (.ref p),some (.ref fa0),some (.ref sa),some (.ref ea),some (.ref tp),none,none] H6 _
    refine⟨_,rfl,sa,rfl,⟨_,SqL.of hsa6⟩,comp_go (n:=cs.length) (fun i us H7=>Same H6 H7∧Ents (fun j u H=>∃c,(qcs σ m cs)[j]? = some c∧NL c u H) us i H7) (by omega) ⟨Same.refl _,Ents.nil⟩ (fun i us H7 h=>h.2.1) ?_ ?_ ?_⟩
    · rintro i us H7 hi ⟨s7,e7⟩
      obtain⟨u,eu,c,ec,b,rfl,hb⟩:=esa.2 i hi
      have hs7:=SqL.of (K:=K) (s7 _ _ hsa6)
      refine⟨⟨_,_,hs7,eu⟩,fun y F7 hy=>?_⟩
      obtain⟨rfl,hy⟩:=hy
      have:=hy _ hs7
      rw[eu]at this;cases this
      obtain⟨cl,cx⟩:=hcs c (List.mem_of_getElem? ec)
      have hb7:=s7 _ _ (t5 _ _ hb)
      have kg7:=s7 _ _ kg
      have kt7:=s7 _ _ kt6
      refine⟨⟨[some _],rfl,rfl⟩,_,rfl,gp,rfl,⟨_,SqL.of kg7⟩,comp_go (n:=m) (fun j ws H8=>(H8=F7∧ws=vS ((List.range j).map fun k=>gD σ (gD c (fI σ k))))∧ws.length=j) (by omega) ⟨⟨rfl,rfl⟩,rfl⟩ (fun j ws H8 h=>h.2) ?_ ?_ ?_⟩
      · rintro j ws H8 hj ⟨⟨rfl,rfl⟩,l'⟩
        have ef:=fa j hj
        refine⟨⟨_,_,SqL.of kg7,vS_at ef⟩,fun y H' hy=>?_⟩
        obtain⟨rfl,hy⟩:=hy
        have:=hy _ (SqL.of kg7)
        rw[vS_at ef]at this;cases this
        have fN:=(S.st.fst hj).1
        have ci:=gd (ns:=c) (i:=fI σ j) (by omega)
        have cn:=cx _ (List.mem_of_getElem? ci)
        refine⟨⟨[some _],rfl,rfl⟩,_,rfl,_,rfl,_,rfl,_,_,_,_,rfl,rfl,SqL.of hb7,vS_at' ci,_,_,_,_,rfl,rfl,SqL.of kt7,vS_at' (gd (by omega)),⟨rfl,?_⟩,by rw[List.length_append,l'];rfl⟩
        rw[List.range_succ,List.map_append,vS_app];rfl
      · rintro ws H8 ⟨⟨rfl,rfl⟩,l'⟩
        exact⟨_,SqL.of kg7,by rw[vS_len];omega⟩
      · rintro ws H8 wp ⟨⟨rfl,rfl⟩,l'⟩ nwp
        have t8:=same_upd (o:=.lst (vS ((List.range m).map fun k=>gD σ (gD c (fI σ k))))) nwp
        exact⟨s7.trans t8,(e7.mono fun _ _ _ ⟨c,q1,q2⟩=>⟨c,q1,q2.same t8⟩).snoc ⟨_,by rw[qcs,List.getElem?_map,ec];rfl,wp,rfl,upd_same⟩⟩
    · rintro us H7 ⟨s7,e7⟩
      exact⟨_,SqL.of (s7 _ _ hsa6),by rw[esa.1];exact Nat.le_refl _⟩
    rintro us H7 lp ⟨s7,e7⟩ nlp
    have t8:=same_upd (o:=.lst us) nlp
    have ql:(qcs σ m cs).length=cs.length:=by unfold qcs;rw[List.length_map]
    have kL:LL (qcs σ m cs) (.ref lp) (upd H7 lp (.lst us)):=⟨lp,us,rfl,upd_same,by rw[ql];exact e7.mono fun _ _ _ ⟨c,a,b⟩=>⟨c,a,b.same t8⟩⟩
    have s8:=s7.trans t8
    clear t8
    revert s8 kL
    generalize upd H7 lp (.lst us)=H8
    intro kL s8
    have kg8:=s8 _ _ kg
    have hE8:=s8 _ _ hE6
    have s08:=s06.trans s8
    show gName 6 (.ref lp) [some (.ref p),some (.ref fa0),some (.ref sa),some (.ref ea),some (.ref tp),some (.ref gp),none] H8 _
    refine⟨_,rfl,_,_,_,_,rfl,rfl,SqT.of (s08 _ _ hp),rfl,_,rfl,_,rfl,gp,rfl,⟨_,SqL.of kg8⟩,comp_go (n:=m) (fun j ws H9=>(H9=H8∧ws=((List.range j).map fun k=>bit es (fI σ k)).map V.bl)∧ws.length=j) (by omega) ⟨⟨rfl,rfl⟩,rfl⟩ (fun j ws H9 h=>h.2) ?_ ?_ ?_⟩
    · rintro j ws H9 hj ⟨⟨rfl,rfl⟩,l'⟩
      have ef:=fa j hj
      refine⟨⟨_,_,SqL.of kg8,vS_at ef⟩,fun y H' hy=>?_⟩
      obtain⟨rfl,hy⟩:=hy
      have:=hy _ (SqL.of kg8)
      rw[vS_at ef]at this;cases this
      have fN:=(S.st.fst hj).1
      refine⟨⟨[some _],rfl,rfl⟩,_,rfl,_,rfl,_,_,_,_,rfl,rfl,SqL.of hE8,bit_at (by omega),⟨rfl,?_⟩,by rw[List.length_append,l'];rfl⟩
      rw[List.range_succ,List.map_append,List.map_append];rfl
    · rintro ws H9 ⟨⟨rfl,rfl⟩,l'⟩
      exact⟨_,SqL.of kg8,by rw[vS_len];omega⟩
    rintro ws H9 wp ⟨⟨rfl,rfl⟩,l'⟩ nwp
    have t9:=same_upd (o:=.lst ((qes σ m es).map V.bl)) nwp
    have qel:(qes σ m es).length=m:=by unfold qes;rw[List.length_map,List.length_range]
    refine⟨l,.ref lp,wp,qcs σ m cs,qes σ m es,rfl,⟨kL.same t9,upd_same,by omega,by omega,fun c hc=>by
      obtain⟨c',_,rfl⟩:=List.mem_map.mp hc
      rw[List.length_map,List.length_range];omega⟩,fun v Hx sx qx=>?_⟩
    rw[qel]at qx
    exact k0' σ m v Hx ((s08.trans t9).trans sx) S qx
theorem first_dL{Ts:List (List Nat)}{S:List Nat}(h:S∈Ts):FirstAt (dL S) (Ts.map dL) (Ts.idxOf S):=by
  have hl:=List.idxOf_lt_length_iff.mpr h
  refine⟨by rw[List.getElem?_map,List.getElem?_eq_getElem hl,List.getElem_idxOf];rfl,fun m hm e=>?_⟩
  rw[List.getElem?_map,List.getElem?_eq_getElem (by omega)]at e
  have e':=dL_inj (Option.some.inj e)
  have:=List.not_of_lt_findIdx (p:=(· == S)) (xs:=Ts) (i:=m) hm
  simp[e']at this
theorem mkN_len{cs:List (List Nat)}{es:List Bool}{m:Nat}(h:es.length=m):∀t,(mkN cs es m t).length=m
  | 0=>by unfold mkN;rw[List.length_map];exact h
  | t+1=>by unfold mkN fidx keysN;rw[List.length_map,List.length_map,List.length_range]
def sp_parted:Sp:=fun vs H Q _=>∃sv ev cs es m,vs=[sv,ev]∧(LL (rowsOf m cs) sv H∧BR es ev H∧es.length=m∧m≤20∧cs.length≤3∧(∀c∈cs,c.length=m∧∀x∈c,x < m)∧mkN cs es m m=List.range m)∧∀H',Same H H'→Q (.bl true) H'
theorem ok_law_all_parted(T:Txt K mg t):FnOk Pr w K mg base CX0 1 t.law_all_parted t.d_law_all_parted ["_law_steps_here","_law_ends"] sp_parted:=by
  refine T.F_law_all_parted.ok sc_law_all_parted (fun vs H Q E h=>?_) (fun cdv A outer s H vs Q E hr h=>?_)
  · obtain⟨sv,ev,cs,es,m,rfl,_⟩:=h
    rfl
  · obtain⟨sv,ev,cs,es,m,rfl,⟨⟨sa,svs,rfl,hsa,esa⟩,⟨ep,rfl,hep⟩,el,m20,c3,hc,last⟩,k⟩:=h
    have zl:10000 < sizeLine:=by decide
    have rl:=rowsOf_len m cs
    rw[rl]at esa
    refine⟨_,(pss_cons (ps_set (i:=2) sc_law_all_parted.nd rfl (Or.inr rfl) (pe_comp (xs:=["_law_x"]) rfl (show CompOk ["_law_steps_here","_law_ends","_law_marks","_law_turn","_law_keys"] (defScope s_law_all_parted) _ from⟨rfl,by decide +kernel,by decide +kernel,by decide +kernel,by decide +kernel,by decide +kernel⟩) (pi_tup (pv 1)) (fun _ _ _ _ _=>(pg_name (i:=5) (by show List.Nodup (["_law_steps_here","_law_ends","_law_marks","_law_turn","_law_keys","_law_x"]:List Str);decide +kernel) rfl (Or.inl rfl))) (fun _ _ _ _ _=>(pe_callTy call_int1 (by rfl) T.z_int boot_int (pa_cons (pv 5) pa_nil))))) (pss_cons (ps_for PassesOwn.never rfl (pi_range1 rfl T.z_range (pa_cons (pe_callB call_len (by rfl) T.z_len PySem.boot_len (pa_cons (pv 0) pa_nil)) pa_nil)) (pg_name (i:=3) sc_law_all_parted.nd rfl (Or.inl rfl)) (pss_cons (ps_set (i:=4) sc_law_all_parted.nd rfl (Or.inr rfl) (pe_comp (xs:=["_law_k"]) rfl (show CompOk ["_law_steps_here","_law_ends","_law_marks","_law_turn","_law_keys"] (defScope s_law_all_parted) _ from⟨rfl,by decide +kernel,by decide +kernel,by decide +kernel,by decide +kernel,by decide +kernel⟩) (pi_range1 rfl T.z_range (pa_cons (pe_callB call_len (by rfl) T.z_len PySem.boot_len (pa_cons (pv 0) pa_nil)) pa_nil)) (fun _ _ _ _ _=>(pg_name (i:=5) (by show List.Nodup (["_law_steps_here","_law_ends","_law_marks","_law_turn","_law_keys","_law_k"]:List Str);decide +kernel) rfl (Or.inl rfl))) (fun _ _ _ _ _=>(pe_op op_cat (pe_lst (pa_cons (pe_ix (show IxR _ (rIxL K)from ix_list) (pv 2) (pv 5) (fun _ _=>rfl)) pa_nil)) (pe_comp (xs:=["_law_j"]) rfl (show CompOk ["_law_steps_here","_law_ends","_law_marks","_law_turn","_law_keys","_law_k"] (rlS (defScope s_law_all_parted) _) _ from⟨rfl,by decide +kernel,by decide +kernel,by decide +kernel,by decide +kernel,by decide +kernel⟩) (show PI _ _ _ (iList K _)from pi_list (pe_ix (show IxR _ (rIxL K)from ix_list) (pv 0) (pv 5) (fun _ _=>rfl))) (fun _ _ _ _ _=>(pg_name (i:=6) (by show List.Nodup (["_law_steps_here","_law_ends","_law_marks","_law_turn","_law_keys","_law_k","_law_j"]:List Str);decide +kernel) rfl (Or.inl rfl))) (fun _ _ _ _ _=>(pe_ix (show IxR _ (rIxL K)from ix_list) (pv 2) (pv 6) (fun _ _=>rfl)))))))) (pss_one (ps_set (i:=2) sc_law_all_parted.nd rfl (Or.inr rfl) (pe_comp (xs:=["_law_key"]) rfl (show CompOk ["_law_steps_here","_law_ends","_law_marks","_law_turn","_law_keys"] (defScope s_law_all_parted) _ from⟨rfl,by decide +kernel,by decide +kernel,by decide +kernel,by decide +kernel,by decide +kernel⟩) (pi_list (pv 4)) (fun _ _ _ _ _=>(pg_name (i:=5) (by show List.Nodup (["_law_steps_here","_law_ends","_law_marks","_law_turn","_law_keys","_law_key"]:List Str);decide +kernel) rfl (Or.inl rfl))) (fun _ _ _ _ _=>(show PE _ _ (tBM K "list" (rIdxL K) _ _)from(pe_bm PySem.F.plainAttrs_list PySem.F.slot_list_index PySem.F.type_list_index (mt_indexL hr.units1) (pv 4) (pa_cons (pv 5) pa_nil))))))))) (pss_one (ps_ret (pe_cmpR (op_eqD hr.units) (pv 2) (pe_lrange rfl rfl T.z_list rfl T.z_range (pa_cons (pe_callB call_len (by rfl) T.z_len PySem.boot_len (pa_cons (pv 0) pa_nil)) pa_nil)) (nomark _)))))),?_⟩
    refine⟨_,rfl,ep,rfl,⟨_,SqT.of hep⟩,comp_go (n:=m) (fun j ys G=>(G=H∧ys=vS ((es.take j).map fun b=>if b=true then 1 else 0))∧ys.length=j) (by omega) ⟨⟨rfl,rfl⟩,rfl⟩ (fun j ys G h=>h.2) ?_ ?_ ?_⟩
    · rintro j ys G hj ⟨⟨rfl,rfl⟩,ly⟩
      have eb:(es.map V.bl)[j]? = some (.bl es[j]):=by rw[List.getElem?_map,List.getElem?_eq_getElem (by omega)];rfl
      refine⟨⟨_,_,SqT.of hep,eb⟩,fun y H' hy=>?_⟩
      obtain⟨rfl,hy⟩:=hy
      have:=hy _ (SqT.of hep)
      rw[eb]at this;cases this
      refine⟨⟨[some _],rfl,rfl⟩,_,rfl,.inr ⟨_,rfl,⟨rfl,?_⟩,by rw[List.length_append,ly];rfl⟩⟩
      rw[List.take_add_one,List.getElem?_eq_getElem (show j < es.length by omega),List.map_append,vS_app]
      cases es[j] <;>rfl
    · rintro ys G ⟨⟨rfl,rfl⟩,_⟩
      exact⟨_,SqT.of hep,by rw[List.length_map];omega⟩
    rintro ys G mp ⟨⟨rfl,rfl⟩,_⟩ nmp
    have t1:=same_upd (o:=.lst (vS ((es.take m).map fun b=>if b=true then 1 else 0))) nmp
    have k1:upd G mp (.lst (vS ((es.take m).map fun b=>if b=true then 1 else 0))) mp=some (.lst (vS (mkN cs es m 0))):=by
      rw[upd_same,List.take_of_length_le (by omega)];rfl
    revert t1 k1
    generalize upd G mp (.lst (vS ((es.take m).map fun b=>if b=true then 1 else 0)))=H1
    intro t1 k1
    show gName 2 (.ref mp) [some (.ref sa),some (.ref ep),none,none,none] H1 _
    have ll:∀{H':Hp},H' sa=some (.lst svs)→LenV K (.ref sa) H' m:=fun h=>.inl ⟨_,SqL.of h,esa.1.symm⟩
    refine⟨_,rfl,_,_,rfl,ll (t1 _ _ hsa),_,rfl,(by omega),(by omega),for_range (lo:=0) (n:=(m:Int).toNat) (fun i σ H2=>∃mp v3 v4,σ=[some (.ref sa),some (.ref ep),some (.ref mp),v3,v4]∧Same G H2∧H2 mp=some (.lst (vS (mkN cs es m i)))) ⟨mp,_,_,rfl,t1,k1⟩ ?_ ?_⟩
    · clear k1 t1 nmp mp H1
      rintro i σ H2 hi ⟨mp,v3,v4,rfl,s2,k2⟩
      have ml:=mkN_len (cs:=cs) el i
      have nx:mkN cs es m (i+1)=fidx (keysN (mkN cs es m i) cs m):=rfl
      rw[nx]
      generalize mkN cs es m i=μ at *
      refine⟨_,rfl,_,_,rfl,ll (s2 _ _ hsa),_,rfl,(by omega),(by omega),comp_go (n:=m) (fun j us H3=>Same H2 H3∧Ents (fun j u H=>∃c,(keysN μ cs m)[j]? = some c∧NL c u H) us j H3) (by omega) ⟨Same.refl _,Ents.nil⟩ (fun j us H3 h=>h.2.1) ?_ ?_ ?_⟩
      · rintro j us H3 hj ⟨s3,e3⟩
        refine⟨(show j < (m:Int).toNat by omega),fun y H' hy=>?_⟩
        obtain⟨rfl,rfl⟩:=hy
        have j0:(0:Int)+(j:Int)=((j:Nat):Int):=by omega
        rw[j0]
        have k3:=s3 _ _ k2
        refine⟨⟨[some _],rfl,rfl⟩,_,rfl,_,rfl,_,_,_,_,rfl,rfl,SqL.of k3,vS_at' (gd (i:=j) (by omega)),(by show 1≤sizeLine;omega),fun hp nhp=>?_⟩
        have t4:=same_upd (o:=.lst (vS [μ.getD j 0])) nhp
        have kh:upd H' hp (.lst (vS [μ.getD j 0])) hp=some (.lst (vS [μ.getD j 0])):=upd_same
        have e4:Ents (fun j u H=>∃c,(keysN μ cs m)[j]? = some c∧NL c u H) us j (upd H' hp (.lst (vS [μ.getD j 0]))):=e3.mono fun _ _ _ ⟨c,q1,q2⟩=>⟨c,q1,q2.same t4⟩
        have s4:=s3.trans t4
        clear t4
        revert kh s4 e4
        show _→_→_→tComp _ _ _ _ _ (upd H' hp (.lst (vS [μ.getD j 0]))) _
        generalize upd H' hp (.lst (vS [μ.getD j 0]))=H4
        intro kh e4 s4
        have s04:=s2.trans s4
        have k4:=s4 _ _ k2
        obtain⟨u,eu,c,ec,b,rfl,hb⟩:=esa.2 j hj
        rw[rowsOf_at cs hj]at ec
        cases ec
        have hb4:=s04 _ _ hb
        refine⟨_,rfl,_,rfl,_,_,_,_,rfl,rfl,SqL.of (s04 _ _ hsa),atI_nat eu,b,rfl,⟨_,SqL.of hb4⟩,comp_go (n:=cs.length) (fun q ws H5=>(H5=H4∧ws=vS ((cs.take q).map fun c=>μ.getD (c.getD j 0) 0))∧ws.length=q) (by omega) ⟨⟨rfl,rfl⟩,rfl⟩ (fun q ws H5 h=>h.2) ?_ ?_ ?_⟩
        · rintro q ws H5 hq ⟨⟨rfl,rfl⟩,lw'⟩
          have eq1:(vS (cs.map fun c=>c.getD j 0))[q]? = some (.int ((cs[q].getD j 0:Nat):Int)):=vS_at (by rw[List.getElem?_map,List.getElem?_eq_getElem hq];rfl)
          refine⟨⟨_,_,SqL.of hb4,eq1⟩,fun y F4 hy=>?_⟩
          obtain⟨rfl,hy⟩:=hy
          have:=hy _ (SqL.of hb4)
          rw[eq1]at this;cases this
          obtain⟨cl,cx⟩:=hc cs[q] (List.getElem_mem hq)
          have cn:=cx _ (List.mem_of_getElem? (gd (ns:=cs[q]) (i:=j) (by omega)))
          refine⟨⟨[some _],rfl,rfl⟩,_,rfl,_,rfl,_,_,_,_,rfl,rfl,SqL.of k4,vS_at' (gd (by omega)),⟨rfl,?_⟩,by rw[List.length_append,lw'];rfl⟩
          rw[List.take_add_one,List.getElem?_eq_getElem hq,List.map_append,vS_app];rfl
        · rintro ws H5 ⟨⟨rfl,rfl⟩,_⟩
          exact⟨_,SqL.of hb4,by rw[vS_len,List.length_map];exact Nat.le_refl _⟩
        · rintro ws H5 wp ⟨⟨rfl,rfl⟩,_⟩ nwp
          have t5:=same_upd (o:=.lst (vS ((cs.take cs.length).map fun c=>μ.getD (c.getD j 0) 0))) nwp
          rw[List.take_length]at t5 ⊢
          refine⟨hp,wp,_,_,rfl,rfl,t5 _ _ kh,upd_same,(by rw[vS_len,vS_len,List.length_map];show 1+_≤_;omega),fun kp nkp=>?_⟩
          rw[← vS_app]
          have t6:=same_upd (o:=.lst (vS ([μ.getD j 0]++cs.map fun c=>μ.getD (c.getD j 0) 0))) nkp
          have t56:=t5.trans t6
          refine⟨s4.trans t56,(e4.mono fun _ _ _ ⟨c,q1,q2⟩=>⟨c,q1,q2.same t56⟩).snoc ⟨keyN μ cs j,?_,kp,rfl,upd_same⟩⟩
          unfold keysN
          rw[List.getElem?_map,List.getElem?_range hj];rfl
      · rintro us H3 ⟨s3,e3⟩
        show(m:Int).toNat≤m
        omega
      rintro us H3 kp ⟨s3,e3⟩ nkp
      have t4:=same_upd (o:=.lst us) nkp
      have kk:upd H3 kp (.lst us) kp=some (.lst us):=upd_same
      have e4:Ents (fun j u H=>∃c,(keysN μ cs m)[j]? = some c∧NL c u H) us m (upd H3 kp (.lst us)):=e3.mono fun _ _ _ ⟨c,q1,q2⟩=>⟨c,q1,q2.same t4⟩
      have s4:=s3.trans t4
      clear t4
      revert kk s4 e4
      generalize upd H3 kp (.lst us)=H4
      intro kk e4 s4
      have kl:(keysN μ cs m).length=m:=by unfold keysN;rw[List.length_map,List.length_range]
      have ia:∀{H':Hp},Same H4 H'→IsAll K H' us ((keysN μ cs m).map dL):=fun s=>by
        refine isAll_pt (by rw[List.length_map,kl,e4.1]) fun j v d ev ed=>?_
        have hj:j < m:=by rw[← e4.1];exact(List.getElem?_eq_some_iff.mp ev).1
        obtain⟨u,eu,c,ec,b,rfl,hb⟩:=e4.2 j hj
        rw[eu]at ev;cases ev
        rw[List.getElem?_map,ec]at ed
        cases ed
        exact dL_is (s _ _ hb)
      have kd:=keyD_L (keysN μ cs m)
      show gName 4 (.ref kp) [some (.ref sa),some (.ref ep),some (.ref mp),some _,v4] H4 _
      refine⟨_,rfl,kp,rfl,⟨_,SqL.of kk⟩,comp_go (n:=m) (fun j ys H5=>(H5=H4∧ys=vS (((keysN μ cs m).take j).map fun k=>(keysN μ cs m).idxOf k))∧ys.length=j) (by omega) ⟨⟨rfl,rfl⟩,rfl⟩ (fun j ys H5 h=>h.2) ?_ ?_ ?_⟩
      · rintro j ys H5 hj ⟨⟨rfl,rfl⟩,ly⟩
        obtain⟨u,eu,c,ec,b,rfl,hb⟩:=e4.2 j hj
        refine⟨⟨_,_,SqL.of kk,eu⟩,fun y F4 hy=>?_⟩
        obtain⟨rfl,hy⟩:=hy
        have:=hy _ (SqL.of kk)
        rw[eu]at this;cases this
        have mc:=List.mem_of_getElem? ec
        refine⟨⟨[some _],rfl,rfl⟩,_,rfl,.inl ⟨rfl,_,SqL.of kk⟩,_,rfl,_,dL c,(keysN μ cs m).map dL,(keysN μ cs m).idxOf c,rfl,dL_is hb,.lst (SqL.of kk) (ia (Same.refl _)),dL_sh _,kd.shl (fun _ h=>h),(fun e he=>by
          obtain⟨z,_,rfl⟩:=List.mem_map.mp he
          exact dL_nm _ _),(by rw[List.length_map,kl];omega),first_dL mc,⟨rfl,?_⟩,by rw[List.length_append,ly];rfl⟩
        rw[List.take_add_one,ec,List.map_append,vS_app];rfl
      · rintro ys H5 ⟨⟨rfl,rfl⟩,_⟩
        exact⟨_,SqL.of kk,by rw[e4.1];exact Nat.le_refl _⟩
      rintro ys H5 mp2 ⟨⟨rfl,rfl⟩,_⟩ nmp2
      refine⟨mp2,_,_,rfl,(s2.trans s4).trans (same_upd nmp2),?_⟩
      rw[upd_same,List.take_of_length_le (by rw[kl];exact Nat.le_refl _)];rfl
    · clear k1 t1 nmp mp H1
      rintro σ H2 ⟨mp,v3,v4,rfl,s2,k2⟩
      rw[show(m:Int).toNat=m from Int.toNat_natCast m,last]at k2
      refine⟨_,rfl,_,rfl,_,_,rfl,ll (s2 _ _ hsa),m,rfl,(by omega),fun rp nrp=>?_⟩
      have t5:=same_upd (o:=.lst ((List.range m).map fun i=>V.int (i:Nat))) nrp
      refine⟨_,_,is_vS (t5 _ _ k2),is_vS (c:=List.range m) upd_same,shaped_ints _,shaped_ints _,nm_ints _ _,?_⟩
      rw[same_refl]
      exact k _ (s2.trans t5)
theorem ixN_of{n j:Nat}(h:j < n):ixN n (j:Int)=some j:=by
  unfold ixN
  rw[if_pos (by omega),if_pos (by omega)]
  simp
theorem flat_one{α:Type}(x:α):∀n,(List.replicate n [x]).flatten=List.replicate n x
  | 0=>rfl
  | n+1=>by rw[List.replicate_succ,List.flatten_cons,flat_one x n,List.replicate_succ];rfl
def plc(σ:List Nat)(p N:Nat):List V:=(List.range N).map fun j=>if j < p then V.int ((gD σ j:Nat):Int)else V.non
theorem plc_len(σ:List Nat)(p N:Nat):(plc σ p N).length=N:=by unfold plc;rw[List.length_map,List.length_range]
theorem plc_at{σ:List Nat}{p N j:Nat}(h:j < N):(plc σ p N)[j]? = some (if j < p then V.int ((gD σ j:Nat):Int)else V.non):=by
  unfold plc;rw[List.getElem?_map,List.getElem?_range h];rfl
theorem plc_zero(σ:List Nat)(N:Nat):List.replicate N V.non=plc σ 0 N:=by
  apply List.ext_getElem?
  intro i
  by_cases hi:i < N
  · rw[plc_at hi,List.getElem?_replicate,if_pos hi,if_neg (Nat.not_lt_zero _)]
  · rw[List.getElem?_eq_none (by rw[List.length_replicate];omega),List.getElem?_eq_none (by rw[plc_len];omega)]
theorem plc_set{σ:List Nat}{p N:Nat}(h:p < N):(plc σ p N).set p (.int ((gD σ p:Nat):Int))=plc σ (p+1) N:=by
  apply List.ext_getElem?
  intro i
  by_cases hi:i < N
  · rw[plc_at hi,List.getElem?_set]
    by_cases e:p=i
    · subst e
      rw[if_pos rfl,if_pos (by rw[plc_len];exact hi),if_pos (Nat.lt_succ_self _)]
    · rw[if_neg e,plc_at hi]
      by_cases q:i < p
      · rw[if_pos q,if_pos (by omega)]
      · rw[if_neg q,if_neg (by omega)]
  · rw[List.getElem?_eq_none (by rw[List.length_set,plc_len];omega),List.getElem?_eq_none (by rw[plc_len];omega)]
theorem plc_all{σ:List Nat}{N:Nat}(h:σ.length=N):plc σ N N=σ.map fun n=>V.int (n:Nat):=by
  apply List.ext_getElem?
  intro i
  by_cases hi:i < N
  · rw[plc_at hi,if_pos hi,List.getElem?_map,gD_at (by omega)];rfl
  · rw[List.getElem?_eq_none (by rw[plc_len];omega),List.getElem?_eq_none (by rw[List.length_map];omega)]
def sp_beside:Sp:=fun vs H Q _=>∃mv fa av sv l n st ts en N σ m,vs=[mv,.ref fa,av,sv]∧(BM l st ts en mv H∧BMok l n st ts en∧SL (bfs st ts N) fa H∧Run st ts N∧(bfs st ts N).length=N∧N≤20∧TOk ts n (bfs st ts N)∧
  Srt (csM st ts N) (esM st ts en N) N σ m∧BM l (unitB m 0) (sureT m (qcs σ m (csM st ts N))) (qes σ m (esM st ts en N)) av H∧LL (rowsOf m (qcs σ m (csM st ts N))) sv H)∧∀H',Same H H'→Q (.bl true) H'
theorem ok_law_beside(T:Txt K mg t):FnOk Pr w K mg base CX0 2 t.law_beside t.d_law_beside ["_law_machine_here","_law_some","_law_answer","_law_steps_here"] sp_beside:=by
  refine T.F_law_beside.ok sc_law_beside (fun vs H Q E h=>?_) (fun cdv A outer s H vs Q E hr h=>?_)
  · obtain⟨mv,fa,av,sv,l,n,st,ts,en,N,σ,m,rfl,_⟩:=h
    rfl
  · obtain⟨mv,fa,av,sv,l,n,st,ts,en,N,σ,m,rfl,⟨hM,O,hF,run,hN,n20,W,S,hA,hL⟩,k⟩:=h
    have z40:1000 < sizeLine:=by decide
    have l3:=O.lk.h3
    have tl:=O.tl
    have n0:0 < N:=by
      have:=(bfs_le (st:=st) (ts:=ts) (Nat.zero_le N)).length_le
      rw[hN]at this
      exact this
    have pre:∀{i},i≤N→bfs st ts i <+: bfs st ts N:=fun h=>bfs_le h
    have mN:=S.st.le
    revert hN W hA pre hF S hL
    unfold csM esM
    generalize eTs:bfs st ts N=Ts
    intro hF hN W S hA hL pre
    obtain⟨p,sv0,tv,ev,rfl,hp,h1,h2,h3⟩:=id hM
    obtain⟨ap,asv,atv,aev,rfl,hap,a1,a2,⟨aep,rfl,haep⟩⟩:=id hA
    obtain⟨sa,svs,rfl,hsa,esa⟩:=id hL
    rw[rowsOf_len]at esa
    obtain⟨fvs,hf,ef⟩:=id hF
    have nb:∀i,i < N→∃S',Ts[i]? = some S':=fun i hi=>⟨_,List.getElem?_eq_getElem (by omega)⟩
    refine⟨_,(pss_cons (ps_set (i:=4) sc_law_beside.nd rfl (Or.inl rfl) (pe_op op_rep (pe_lst (pa_cons pe_non pa_nil)) (pe_callB call_len (by rfl) T.z_len PySem.boot_len (pa_cons (pv 1) pa_nil)))) (pss_cons (ps_asg pe_int (pg_sub (pv 4) pe_int set_list)) (pss_cons (ps_for PassesOwn.never rfl (pi_range1 rfl T.z_range (pa_cons (pe_callB call_len (by rfl) T.z_len PySem.boot_len (pa_cons (pv 1) pa_nil)) pa_nil)) (pg_name (i:=5) sc_law_beside.nd rfl (Or.inl rfl)) (pss_cons (ps_if (pt_cmpR (op_neD hr.units) (pe_ix ix_tup (pe_ix ix_tup (pv 2) pe_int (fun _ _=>rfl)) (pe_ix ix_list (pv 4) (pv 5) (fun _ _=>rfl)) (fun _ _=>rfl)) (pe_call (ok_law_good T) hr.m rfl T.m_law_good T.F_law_good.kp T.b_law_good .nil pass0 (pa_cons (pv 0) (pa_cons (pe_ix ix_list (pv 1) (pv 5) (fun _ _=>rfl)) pa_nil))) (nomark _)) (pss_one (ps_ret pe_bl)) pss_nil) (pss_one (ps_for PassesOwn.never rfl (pi_range1 rfl T.z_range (pa_cons (pe_callB call_len (by rfl) T.z_len PySem.boot_len (pa_cons (pe_ix ix_tup (pv 0) pe_int (fun _ _=>rfl)) pa_nil)) pa_nil)) (pg_name (i:=6) sc_law_beside.nd rfl (Or.inl rfl)) (pss_cons (ps_set (i:=7) sc_law_beside.nd rfl (Or.inl rfl) (pe_bm PySem.F.plainAttrs_list PySem.F.slot_list_index PySem.F.type_list_index (mt_indexL hr.units1) (pv 1) (pa_cons (pe_call (ok_law_after T) hr.m rfl T.m_law_after T.F_law_after.kp T.b_law_after .nil pass0 (pa_cons (pv 0) (pa_cons (pe_ix ix_list (pv 1) (pv 5) (fun _ _=>rfl)) (pa_cons (pv 6) pa_nil)))) pa_nil))) (pss_cons (ps_set (i:=8) sc_law_beside.nd rfl (Or.inl rfl) (pe_ix ix_list (pe_ix ix_list (pv 3) (pe_ix ix_list (pv 4) (pv 5) (fun _ _=>rfl)) (fun _ _=>rfl)) (pv 6) (fun _ _=>rfl))) (pss_cons (ps_if (pt_cmpR op_isN (pe_ix ix_list (pv 4) (pv 7) (fun _ _=>rfl)) pe_non (nomark _)) (pss_one (ps_asg (pv 8) (pg_sub (pv 4) (pv 7) set_list))) pss_nil) (pss_one (ps_if (pt_cmpR (op_neD hr.units) (pe_ix ix_list (pv 4) (pv 7) (fun _ _=>rfl)) (pv 8) (nomark _)) (pss_one (ps_ret pe_bl)) pss_nil))))))))) (pss_one (ps_ret (pe_cmpR (op_eqD hr.units) (pe_srt rfl rfl T.z_sorted rfl T.z_set (pa_cons (pv 4) pa_nil)) (pe_lrange rfl rfl T.z_list rfl T.z_range (pa_cons (pe_callB call_len (by rfl) T.z_len PySem.boot_len (pa_cons (pv 3) pa_nil)) pa_nil)) (nomark _))))))),?_⟩
    refine⟨(by show 1≤sizeLine;decide),fun p0 np0=>?_⟩
    have t3:=same_upd (o:=.lst [.non]) np0
    have ls:LenV K (.ref fa) (upd H p0 (.lst [.non])) N:=.inl ⟨_,SqL.of (t3 _ _ hf),by rw[ef.1,hN]⟩
    refine⟨_,rfl,_,_,rfl,ls,p0,_,_,rfl,rfl,upd_same,(by omega),(by omega),(by show 1 * _≤_;omega),fun bp nbp=>?_⟩
    have t4:=same_upd (o:=.lst (List.replicate (N:Int).toNat [V.non]).flatten) nbp
    have k4:=upd_same (H:=upd H p0 (.lst [.non])) (a:=bp) (o:=.lst (List.replicate (N:Int).toNat [V.non]).flatten)
    have s24:=t3.trans t4
    have nb2:H bp=none:=by
      cases e:H bp with
      | none=>rfl
      | some o=>rw[t3 _ _ e]at nbp;cases nbp
    have e4:(List.replicate (N:Int).toNat [V.non]).flatten=plc σ 0 N:=by
      rw[show(N:Int).toNat=N by omega,flat_one]
      exact plc_zero σ N
    rw[e4]at k4 s24
    rw[e4]
    clear t3 t4 ls nbp e4 np0
    revert k4 s24
    generalize upd (upd H p0 (.lst [.non])) bp (.lst (plc σ 0 N))=H4
    intro k4 s24
    show gName 4 (.ref bp) [some (.ref p),some (.ref fa),some (.ref ap),some (.ref sa),none,none,none,none,none] H4 _
    have z0:gD σ 0=0:=Nat.le_zero.mp (S.st.st 0 n0)
    have ps:=plc_set (σ:=σ) n0
    rw[z0]at ps
    refine⟨_,rfl,bp,_,_,0,rfl,rfl,k4,(by rw[plc_len];exact ixN_of n0),?_⟩
    have s26:Same H (upd H4 bp (.lst ((plc σ 0 N).set 0 (.int 0)))):=fun c o hc=>by rw[upd_ne (ne_of_none hc nb2)];exact s24 _ _ hc
    have b6:upd H4 bp (.lst ((plc σ 0 N).set 0 (.int 0))) bp=some (.lst (plc σ (bfs st ts 0).length N)):=by
      rw[upd_same]
      exact congrArg (fun x=>some (HO.lst x)) ps
    revert s26 b6
    generalize upd H4 bp (.lst ((plc σ 0 N).set 0 (.int 0)))=H6
    intro s26 b6
    have lf:∀{H':Hp},Same H H'→LenV K (.ref fa) H' N:=fun s=>.inl ⟨_,SqL.of (s _ _ hf),by rw[ef.1,hN]⟩
    refine⟨_,rfl,_,_,rfl,lf s26,_,rfl,(by omega),(by omega),for_it (n:=N) (fun i σ' G=>∃v5 v6 v7 v8,σ'=[some (.ref p),some (.ref fa),some (.ref ap),some (.ref sa),some (.ref bp),v5,v6,v7,v8]∧Same H G∧G bp=some (.lst (plc σ (bfs st ts i).length N))) ⟨_,_,_,_,rfl,s26,b6⟩ ?_ ?_⟩
    · rintro i σ' G hi ⟨v5,v6,v7,v8,rfl,sG,bG⟩
      refine⟨(show i < (N:Int).toNat by omega),fun y G4 hy=>?_⟩
      obtain⟨rfl,rfl⟩:=hy
      have gi:=(run.go i hi).1
      obtain⟨S',eS⟩:∃S',(bfs st ts i)[i]? = some S':=⟨_,List.getElem?_eq_getElem gi⟩
      have eT:=pre_at (pre (Nat.le_of_lt hi)) eS
      have mS:=List.mem_of_getElem? eT
      have i0:(0:Int)+(i:Int)=(i:Int):=by omega
      rw[i0]
      obtain⟨u,eu,S2,eS2,qS⟩:=ef.2 i (by omega)
      rw[eT]at eS2
      cases eS2
      have si:=S.lt hi
      have eb:atI (plc σ (bfs st ts i).length N) (i:Int)=some (.int ((gD σ i:Nat):Int)):=atI_nat (by rw[plc_at hi,if_pos gi])
      have qe:=S.qe hi
      have qel:(qes σ m (Ts.map (goodS en))).length=m:=by unfold qes;rw[List.length_map,List.length_range]
      have ge:bit (Ts.map (goodS en)) i=goodS en S':=by unfold bit;rw[List.getD_eq_getElem?_getD,List.getElem?_map,eT];rfl
      rw[ge]at qe
      have ea:atI ((qes σ m (Ts.map (goodS en))).map V.bl) ((gD σ i:Nat):Int)=some (.bl (goodS en S')):=by
        rw[← qe]
        exact bit_at (by omega)
      refine⟨_,rfl,_,_,_,_,rfl,rfl,SqT.of (sG _ _ hap),rfl,_,rfl,_,rfl,_,_,_,_,rfl,rfl,SqL.of bG,eb,_,_,_,_,rfl,rfl,SqT.of (sG _ _ haep),ea,_,rfl,_,rfl,_,rfl,_,_,_,_,rfl,rfl,SqL.of (sG _ _ hf),atI_nat eu,.ref p,u,l,n,st,ts,en,S',rfl,⟨hM.same sG.t,O,qS.same sG.t,W.ok S' mS⟩,fun G5 s5=>?_⟩
      refine⟨.bool _,.bool _,.bl _,.bl _,(by simp[shaped,PyData.canLay0,PyData.depth]),(by simp[shaped,PyData.canLay0,PyData.depth]),(by simp[noMix]),_,rfl,?_⟩
      dsimp only
      rw[same_refl]
      (try refine iteF ?_)
      have sG5:=sG.trans s5
      have bG5:=s5 _ _ bG
      clear bG eb
      have ll:LenV K (vT l) G5 (tx l).length:=⟨by rw[tx_len];omega,rfl⟩
      rw[tx_len]at ll
      refine⟨_,rfl,_,_,_,_,rfl,rfl,SqT.of (sG5 _ _ hp),rfl,_,_,rfl,ll,_,rfl,(by omega),(by omega),for_it (n:=ts.length) (fun q σ' F=>∃v6 v7 v8,σ'=[some (.ref p),some (.ref fa),some (.ref ap),some (.ref sa),some (.ref bp),some (.int (i:Int)),v6,v7,v8]∧Same H F∧F bp=some (.lst (plc σ (growS (ts.take q) (bfs st ts i) S').length N))) ⟨_,_,_,rfl,sG5,bG5⟩ ?_ ?_⟩
      · rintro q σ' F hq ⟨w6,w7,w8,rfl,sF,bF⟩
        refine⟨(show q < (l.length:Int).toNat by omega),fun y F4 hy=>?_⟩
        obtain⟨rfl,rfl⟩:=hy
        have q0:(0:Int)+(q:Int)=(q:Int):=by omega
        rw[q0]
        obtain⟨mt,em⟩:∃mt,ts[q]? = some mt:=⟨_,List.getElem?_eq_getElem hq⟩
        have gt:=grow_take (Ts:=bfs st ts i) (S:=S') em
        have gp:growS (ts.take (q+1)) (bfs st ts i) S' <+: Ts:=(grow_split ts (q+1) _ S').trans (by rw[← bfs_succ eS];exact pre hi)
        have eP:i < (growS (ts.take q) (bfs st ts i) S').length:=Nat.lt_of_lt_of_le gi (grow_pre S' _ _).length_le
        rw[gt]at gp ⊢
        revert bF eP gp
        generalize growS (ts.take q) (bfs st ts i) S'=P
        intro bF gp eP
        refine⟨_,rfl,.inl ⟨rfl,_,SqL.of (sF _ _ hf)⟩,_,rfl,_,rfl,_,rfl,_,_,_,_,rfl,rfl,SqL.of (sF _ _ hf),atI_nat eu,_,rfl,.ref p,u,q,l,n,st,ts,en,mt,S',rfl,⟨hM.same sF.t,O,qS.same sF.t,em,W.ok S' mS⟩,fun av F5 s5 q5=>?_⟩
        have sF5:=sF.trans s5
        have bF5:=s5 _ _ bF
        clear bF
        have mT:=W.cl mt (List.mem_of_getElem? em) S' mS
        have hj:Ts.idxOf (nxtS mt S') < N:=by rw[← hN];exact List.idxOf_lt_length_iff.mpr mT
        refine⟨_,_,_,_,rfl,q5.is,(hF.same sF5).is,dS_sh _,dl_sh _,dl_nm _ _,by rw[List.length_map];omega,first_dS mT,?_⟩
        have eb5:atI (plc σ P.length N) (i:Int)=some (.int ((gD σ i:Nat):Int)):=atI_nat (by rw[plc_at hi,if_pos eP])
        obtain⟨rv,erv,row,erow,rb,rfl,hrb⟩:=esa.2 (gD σ i) si
        rw[rowsOf_at _ si]at erow
        cases erow
        have cm:colS Ts mt∈ts.map (colS Ts):=List.mem_map.mpr ⟨mt,List.mem_of_getElem? em,rfl⟩
        have cg:gD (colS Ts mt) i=Ts.idxOf (nxtS mt S'):=by
          show(colS Ts mt).getD i 0=_
          unfold colS
          rw[List.getD_eq_getElem?_getD,List.getElem?_map,eT];rfl
        have qc:=S.qc hi cm
        rw[cg]at qc
        have ej:(vS ((qcs σ m (ts.map (colS Ts))).map fun c=>c.getD (gD σ i) 0))[q]? = some (.int ((gD σ (Ts.idxOf (nxtS mt S')):Nat):Int)):=vS_at (by
          unfold qcs
          rw[List.getElem?_map,List.getElem?_map,List.getElem?_map,em]
          exact congrArg some qc)
        refine⟨_,rfl,_,rfl,_,rfl,_,_,_,_,rfl,rfl,SqL.of bF5,eb5,_,_,_,_,rfl,rfl,SqL.of (sF5 _ _ hsa),atI_nat erv,_,rfl,_,_,_,_,rfl,rfl,SqL.of (sF5 _ _ hrb),atI_nat ej,?_⟩
        have stp:=step_ix gp
        generalize Ts.idxOf (nxtS mt S')=j at *
        show gName 8 (.int ((gD σ j:Nat):Int)) [some (.ref p),some (.ref fa),some (.ref ap),some (.ref sa),some (.ref bp),some (.int (i:Int)),some (.int (q:Int)),some (.int (j:Int)),w8] F5 _
        have fin:∀F6:Hp,Same H F6→F6 bp=some (.lst (plc σ (addS P (nxtS mt S')).length N))→∃(v6 v7 v8:Option V),([some (.ref p),some (.ref fa),some (.ref ap),some (.ref sa),some (.ref bp),some (.int (i:Int)),some (.int (q:Int)),some (.int (j:Int)),some (.int ((gD σ j:Nat):Int))]:L2.St)=[some (.ref p),some (.ref fa),some (.ref ap),some (.ref sa),some (.ref bp),some (.int (i:Int)),v6,v7,v8]∧Same H F6∧F6 bp=some (.lst (plc σ (addS P (nxtS mt S')).length N)):=fun F6 a b=>⟨_,_,_,rfl,a,b⟩
        have shi:∀x:Int,shaped (.int x)=true:=fun x=>by simp[shaped,PyData.canLay0,PyData.depth]
        rcases stp with ⟨g1,g2,g3,g4⟩ | ⟨g1,g2,g3⟩
        · have ew:atI (plc σ P.length N) (j:Int)=some (.int ((gD σ j:Nat):Int)):=atI_nat (by rw[plc_at hj,if_pos g2])
          refine⟨_,rfl,_,rfl,_,_,_,_,rfl,rfl,SqL.of bF5,ew,rfl,_,rfl,?_⟩
          dsimp only
          refine iteN (by simp) ?_
          refine⟨_,rfl,_,rfl,_,_,_,_,rfl,rfl,SqL.of bF5,ew,_,rfl,.int _,.int _,.int _,.int _,shi _,shi _,(by simp[noMix]),_,rfl,?_⟩
          dsimp only
          rw[same_refl]
          refine iteN rfl ?_
          exact fin F5 sF5 (by rw[g3];exact bF5)
        · have ew:atI (plc σ P.length N) (j:Int)=some .non:=atI_nat (by rw[plc_at hj,if_neg (by omega)])
          refine⟨_,rfl,_,rfl,_,_,_,_,rfl,rfl,SqL.of bF5,ew,rfl,_,rfl,?_⟩
          dsimp only
          refine iteY (by simp) ?_
          refine⟨_,rfl,_,rfl,_,rfl,bp,_,_,_,rfl,rfl,bF5,(by rw[plc_len];exact ixN_of hj),?_⟩
          have b6:upd F5 bp (.lst ((plc σ P.length N).set j (.int ((gD σ j:Nat):Int)))) bp=some (.lst (plc σ (P.length+1) N)):=by
            rw[upd_same,g2,plc_set (by omega)]
          have s6:Same H (upd F5 bp (.lst ((plc σ P.length N).set j (.int ((gD σ j:Nat):Int))))):=fun c o hc=>by rw[upd_ne (ne_of_none hc nb2)];exact sF5 _ _ hc
          revert b6 s6
          generalize upd F5 bp (.lst ((plc σ P.length N).set j (.int ((gD σ j:Nat):Int))))=F6
          intro b6 s6
          have ew6:atI (plc σ (P.length+1) N) (j:Int)=some (.int ((gD σ j:Nat):Int)):=atI_nat (by rw[plc_at hj,if_pos (by omega)])
          refine⟨_,rfl,_,rfl,_,_,_,_,rfl,rfl,SqL.of b6,ew6,_,rfl,.int _,.int _,.int _,.int _,shi _,shi _,(by simp[noMix]),_,rfl,?_⟩
          dsimp only
          rw[same_refl]
          refine iteN rfl ?_
          exact fin F6 s6 (by rw[g3,List.length_append,List.length_singleton];exact b6)
      · rintro σ' F ⟨w6,w7,w8,rfl,sF,bF⟩
        rw[List.take_length,← bfs_succ eS]at bF
        exact⟨(show(l.length:Int).toNat≤ts.length by omega),_,_,_,_,rfl,sF,bF⟩
    · rintro σ' G ⟨v5,v6,v7,v8,rfl,sG,bG⟩
      refine⟨(show(N:Int).toNat≤N by omega),?_⟩
      rw[eTs,hN,plc_all S.st.len]at bG
      refine⟨_,rfl,bp,σ,rfl,SqL.of bG,(by rw[S.st.len];exact S.st.st),(by rw[S.st.len];have:=S.st.top;show tpS σ N≤20;omega),fun rp nrp=>?_⟩
      have tp:tpN (fun i=>σ.getD i 0) σ.length=m:=by rw[S.st.len];exact S.st.top
      rw[tp]
      have t6:=same_upd (o:=.lst ((List.range m).map fun i=>V.int (i:Nat))) nrp
      have k6:upd G rp (.lst ((List.range m).map fun i=>V.int (i:Nat))) rp=some (.lst (vS (List.range m))):=upd_same
      revert t6 k6
      generalize upd G rp (.lst ((List.range m).map fun i=>V.int (i:Nat)))=G6
      intro t6 k6
      refine⟨_,rfl,_,_,rfl,.inl ⟨_,SqL.of (t6 _ _ (sG _ _ hsa)),esa.1.symm⟩,m,rfl,(by omega),fun xp nxp=>?_⟩
      have t7:=same_upd (o:=.lst ((List.range m).map fun i=>V.int (i:Nat))) nxp
      refine⟨_,_,is_vS (t7 _ _ k6),is_vS (c:=List.range m) upd_same,shaped_ints _,shaped_ints _,nm_ints _ _,?_⟩
      rw[same_refl]
      exact k _ ((sG.trans t6).trans t7)
theorem Dr.put{a b:Addr}{H:Hp}{o:HO}(d:Dr H a)(n:b≠a):Dr (L2.upd H b o) a:=by
  obtain⟨x,h | ⟨y,h⟩⟩:=d
  · exact⟨x,.inl (by rw[upd_ne (Ne.symm n)];exact h)⟩
  · exact⟨x,.inr ⟨y,by rw[upd_ne (Ne.symm n)];exact h⟩⟩
theorem Dr.ne{a b:Addr}{H:Hp}(d:Dr H a)(n:H b=none):b≠a:=fun e=>by
  obtain⟨xs,h⟩:=d.lst
  rw[e,h]at n;cases n
theorem SameX.put{a b:Addr}{H H':Hp}{o:HO}(s:SameX a H H')(n:H b=none):SameX a H (L2.upd H' b o):=fun c u h e=>by
  rw[upd_ne (fun z=>by rw[z,n]at e;cases e)];exact s c u h e
structure Own(os:List Nat)(n:Nat):Prop where
  lt:∀k∈os,k < n
  all:∀k,k < n→k∈os
  l20:os.length≤20
def posO(os:List Nat)(k j:Nat):Bool:=decide (os[j]? = some k)
structure Spr(os:List Nat)(n:Nat)(r r':List Bool):Prop where
  len:r'.length=os.length
  dn:∀j,bit r' j=true→∃x,os[j]? = some x∧bit r x=true
  up:∀x,x < n→bit r x=true→∃j,os[j]? = some x∧bit r' j=true
theorem bit_app(rr:List Bool)(bb:Bool)(j:Nat):bit (rr++[bb]) j=if j < rr.length then bit rr j else if j=rr.length then bb else false:=by
  unfold bit
  rw[List.getD_eq_getElem?_getD,List.getD_eq_getElem?_getD]
  by_cases h:j < rr.length
  · rw[if_pos h,List.getElem?_append_left h]
  · rw[if_neg h,List.getElem?_append_right (by omega)]
    by_cases e:j=rr.length
    · rw[if_pos e,e,Nat.sub_self];rfl
    · rw[if_neg e,List.getElem?_eq_none (by rw[List.length_singleton];omega)];rfl
def sp_spread:Sp:=fun vs H Q _=>∃(a op:Addr) (os:List Nat) (n:Nat) (r:List Bool) (lv:V),vs=[.ref a,.ref op,lv]∧(Dr H a∧op≠a∧H op=some (.lst (vS os))∧Own os n∧BR r lv H∧r.length=n∧n≤20)∧∀r' v H',SameX a H H'→Dr H' a→Spr os n r r'→BR r' v H'→Q v H'
theorem ok_law_spread(T:Txt K mg t):FnOk Pr w K mg base CX0 2 t.law_spread t.d_law_spread ["_law_state_here","_law_owners","_law_line"] sp_spread:=by
  refine T.F_law_spread.ok sc_law_spread (fun vs H Q E h=>?_) (fun cdv A outer s H vs Q E hr h=>?_)
  · obtain⟨a,op,os,n,r,lv,rfl,_⟩:=h
    rfl
  · obtain⟨a,op,os,n,r,lv,rfl,⟨hD,opa,hop,OW,⟨lp,rfl,hlp⟩,rl,n20⟩,k⟩:=h
    have zl:10000 < sizeLine:=by decide
    have ol:=OW.l20
    refine⟨_,(pss_cons (ps_set (i:=3) sc_law_spread.nd rfl (Or.inl rfl) (pe_lst pa_nil)) (pss_cons (ps_for PassesOwn.never rfl (pi_range1 rfl T.z_range (pa_cons (pe_callB call_len (by rfl) T.z_len PySem.boot_len (pa_cons (pv 2) pa_nil)) pa_nil)) (pg_name (i:=4) sc_law_spread.nd rfl (Or.inr rfl)) (pss_cons (ps_hideA 7 "#1" (by decide) (ps_setCI (i₀:=5) (xs:=["_law_j"]) (by show List.Nodup (["_law_state_here","_law_owners","_law_line","_law_chosen","_law_k","_law_some","_law_row_here","#1","_law_also"]:List Str);decide +kernel) rfl (Or.inl rfl) rfl (show CompOk ["_law_state_here","_law_owners","_law_line","_law_chosen","_law_k","_law_some","_law_row_here","#1","_law_also"] (defScope s_law_spread) _ from⟨rfl,by decide +kernel,by decide +kernel,by decide +kernel,by decide +kernel,by decide +kernel⟩) (pi_range1 rfl T.z_range (pa_cons (pe_callB call_len (by rfl) T.z_len PySem.boot_len (pa_cons (pv 1) pa_nil)) pa_nil)) (fun _ _ _ _ _=>(pg_name (i:=9) (by show List.Nodup (["_law_state_here","_law_owners","_law_line","_law_chosen","_law_k","_law_some","_law_row_here","#1","_law_also","_law_j"]:List Str);decide +kernel) rfl (Or.inl rfl))) (fun _ _ _ _ _=>(pt_cmpR op_eq (pe_ix (show IxR _ (rIxL K)from ix_list) (pv 1) (pv 9) (fun _ _=>rfl)) (pv 4) (nomark _))) (fun _ _ _ _ _=>(pv 9)))) (pss_one (ps_expr (pe_bm PySem.F.plainAttrs_list PySem.F.slot_list_append PySem.F.type_list_append mt_append (pv 3) (pa_cons (pe_ix ix_list (pv 5) (pe_call (ok_law_next T) hr.m rfl T.m_law_next T.F_law_next.kp T.b_law_next .nil pass0 (pa_cons (pv 0) (pa_cons (pe_callB call_len (by rfl) T.z_len PySem.boot_len (pa_cons (pv 5) pa_nil)) pa_nil))) (fun _ _=>rfl)) pa_nil)))))) (pss_cons (ps_set (i:=6) sc_law_spread.nd rfl (Or.inl rfl) (pe_lst pa_nil)) (pss_cons (ps_for PassesOwn.never rfl (pi_range1 rfl T.z_range (pa_cons (pe_callB call_len (by rfl) T.z_len PySem.boot_len (pa_cons (pv 1) pa_nil)) pa_nil)) (pg_name (i:=7) sc_law_spread.nd rfl (Or.inl rfl)) (pss_cons (ps_set (i:=8) sc_law_spread.nd rfl (Or.inl rfl) (pe_cmpR op_eq (pe_call (ok_law_next T) hr.m rfl T.m_law_next T.F_law_next.kp T.b_law_next .nil pass0 (pa_cons (pv 0) (pa_cons pe_int pa_nil))) pe_int (nomark _))) (pss_one (ps_expr (pe_bm PySem.F.plainAttrs_list PySem.F.slot_list_append PySem.F.type_list_append mt_append (pv 6) (pa_cons (pe_and (pe_ix ix_tup (pv 2) (pe_ix ix_list (pv 1) (pv 7) (fun _ _=>rfl)) (fun _ _=>rfl)) (pe_one (pe_or (pv 8) (pe_one (pe_cmpR op_eq (pe_ix ix_list (pv 3) (pe_ix ix_list (pv 1) (pv 7) (fun _ _=>rfl)) (fun _ _=>rfl)) (pv 7) (nomark _)))))) pa_nil)))))) (pss_one (ps_ret (pe_callTy call_tuple_of (by rfl) T.z_tuple boot_tuple (pa_cons (pv 6) pa_nil)))))))),?_⟩
    refine⟨Nat.zero_le _,fun cp ncp=>?_⟩
    have cpa:=hD.ne ncp
    have ll:∀{H':Hp},H' lp=some (.tup (r.map V.bl))→LenV K (.ref lp) H' n:=fun h=>.inr ⟨_,SqT.of h,by rw[List.length_map,rl]⟩
    have lo:∀{H':Hp},H' op=some (.lst (vS os))→LenV K (.ref op) H' os.length:=fun h=>.inl ⟨_,SqL.of h,(vS_len os).symm⟩
    have t1:=same_upd (o:=.lst []) ncp
    show gName 3 (.ref cp) [some (.ref a),some (.ref op),some (.ref lp),none,none,none,none,none,none] (upd H cp (.lst [])) _
    refine⟨_,rfl,_,_,rfl,ll (t1 _ _ hlp),_,rfl,(by omega),(by omega),for_range (lo:=0) (n:=(n:Int).toNat) (fun i σ H2=>∃v4 v5 cs,σ=[some (.ref a),some (.ref op),some (.ref lp),some (.ref cp),v4,v5,none,none,none]∧SameX a H H2∧Dr H2 a∧H2 cp=some (.lst (vS cs))∧cs.length=i∧∀(x y:Nat),cs[x]? = some y→os[y]? = some x) ⟨_,_,[],rfl,(SameX.refl _ _).put ncp,hD.put cpa,upd_same,rfl,fun x y h=>by simp at h⟩ ?_ ?_⟩
    · rintro i σ H2 hi ⟨v4,v5,cs,rfl,s2,d2,k2,cl,chs⟩
      have i0:(0:Int)+(i:Int)=((i:Nat):Int):=by omega
      rw[i0]
      have hop2:=s2 _ _ opa hop
      refine⟨rfl,_,rfl,_,_,rfl,lo hop2,_,rfl,(by omega),(by omega),comp_goI (n:=os.length) (fun j ys H3=>H3=H2∧ys=vS ((List.range j).filter (posO os i))) (by omega) ⟨rfl,rfl⟩ (fun j ys H3 h=>by rw[h.2];exact filt_len _ _) ?_ ?_ ?_⟩
      · rintro j ys H3 hj ⟨rfl,rfl⟩
        refine⟨(show j < (os.length:Int).toNat by omega),fun y H' hy=>?_⟩
        obtain⟨rfl,rfl⟩:=hy
        have j0:(0:Int)+(j:Int)=((j:Nat):Int):=by omega
        rw[j0]
        obtain⟨x,ex⟩:∃x,os[j]? = some x:=⟨_,List.getElem?_eq_getElem hj⟩
        refine⟨⟨[some _],rfl,rfl⟩,_,rfl,_,rfl,_,_,_,_,rfl,rfl,SqL.of hop2,vS_at' ex,_,rfl,rfl,_,rfl,?_⟩
        rw[filt_succ]
        refine iteI (fun e=>?_) (fun e=>?_)
        · have:posO os i j=true:=by unfold posO;rw[ex];simp;omega
          rw[if_pos this]
          exact⟨_,rfl,rfl,rfl⟩
        · have:¬posO os i j=true:=by unfold posO;rw[ex];simp;omega
          rw[if_neg this]
          exact⟨rfl,rfl⟩
      · rintro ys H3 ⟨rfl,rfl⟩
        show(os.length:Int).toNat≤os.length
        omega
      rintro ys H3 sp ⟨rfl,rfl⟩ nsp
      have spa:=d2.ne nsp
      have t3:=same_upd (o:=.lst (vS ((List.range os.length).filter (posO os i)))) nsp
      have k3:upd H3 sp (.lst (vS ((List.range os.length).filter (posO os i)))) sp=some (.lst (vS ((List.range os.length).filter (posO os i)))):=upd_same
      have s3:=s2.trans (.of t3)
      have d3:=d2.same t3
      have kc3:=t3 _ _ k2
      clear t3
      revert k3 s3 d3 kc3
      generalize upd H3 sp (.lst (vS ((List.range os.length).filter (posO os i))))=H4
      intro k3 s3 d3 kc3
      show gName 5 (.ref sp) [some (.ref a),some (.ref op),some (.ref lp),some (.ref cp),some (.int (i:Int)),v5,none,none,none] H4 _
      have fpos:0 < ((List.range os.length).filter (posO os i)).length:=by
        obtain⟨j,hj⟩:=List.getElem?_of_mem (OW.all i (by omega))
        exact List.length_pos_of_mem (List.mem_filter.mpr ⟨List.mem_range.mpr (List.getElem?_eq_some_iff.mp hj).1,by unfold posO;rw[hj];simp⟩)
      have flen:((List.range os.length).filter (posO os i)).length≤20:=by have:=filt_len (posO os i) os.length;rw[vS_len]at this;omega
      have fmem:∀x∈((List.range os.length).filter (posO os i)),os[x]? = some i:=fun x hx=>of_decide_eq_true (List.mem_filter.mp hx).2
      generalize ((List.range os.length).filter (posO os i))=fs at *
      have ls:LenV K (.ref sp) H4 fs.length:=.inl ⟨_,SqL.of k3,(vS_len fs).symm⟩
      refine⟨_,rfl,.inl ⟨rfl,_,SqL.of kc3⟩,_,rfl,_,rfl,_,rfl,_,_,rfl,ls,a,_,rfl,⟨d3,by omega,by omega⟩,fun z H5 s5 d5 z0 z1=>?_⟩
      obtain⟨z,rfl⟩:∃k:Nat,z=(k:Int):=⟨z.toNat,by omega⟩
      obtain⟨x,ex⟩:∃x,fs[z]? = some x:=⟨_,List.getElem?_eq_getElem (by omega)⟩
      have kc5:=s5 _ _ cpa kc3
      refine⟨_,_,_,_,rfl,rfl,SqL.of (s5 _ _ spa k3),vS_at' ex,cp,_,_,rfl,rfl,kc5,(by rw[vS_len];omega),?_⟩
      refine⟨_,_,cs++[x],rfl,(s3.trans s5).put ncp,d5.put cpa,by rw[vS_app];exact upd_same,by simp[cl],fun x' y' h=>?_⟩
      by_cases hx:x' < cs.length
      · rw[List.getElem?_append_left hx]at h
        exact chs x' y' h
      · rw[List.getElem?_append_right (by omega)]at h
        have lx:=(List.getElem?_eq_some_iff.mp h).1
        rw[List.length_singleton]at lx
        have e1:x'=cs.length:=by omega
        rw[e1,Nat.sub_self]at h
        cases h
        rw[e1,cl]
        exact fmem _ (List.mem_of_getElem? ex)
    · rintro σ H2 ⟨v4,v5,cs,rfl,s2,d2,k2,cl,chs⟩
      have cl:cs.length=n:=by omega
      refine⟨Nat.zero_le _,fun rp nrp=>?_⟩
      have rpa:=d2.ne nrp
      have t3:=same_upd (o:=.lst []) nrp
      have nrp0:H rp=none:=by
        cases e:H rp with
        | none=>rfl
        | some o=>rw[s2 _ _ rpa e]at nrp;cases nrp
      have crp:cp≠rp:=fun e=>by rw[e,nrp]at k2;cases k2
      show gName 6 (.ref rp) [some (.ref a),some (.ref op),some (.ref lp),some (.ref cp),v4,v5,none,none,none] (upd H2 rp (.lst [])) _
      refine⟨_,rfl,_,_,rfl,lo (t3 _ _ (s2 _ _ opa hop)),_,rfl,(by omega),(by omega),for_range (lo:=0) (n:=(os.length:Int).toNat) (fun i σ H3=>∃v7 v8 rr,σ=[some (.ref a),some (.ref op),some (.ref lp),some (.ref cp),v4,v5,some (.ref rp),v7,v8]∧SameX a H H3∧Dr H3 a∧H3 cp=some (.lst (vS cs))∧H3 rp=some (.lst (rr.map V.bl))∧rr.length=i∧(∀j',bit rr j'=true→∃x,os[j']? = some x∧bit r x=true)∧(∀(j' x:Nat),j' < i→os[j']? = some x→cs[x]? = some j'→bit r x=true→bit rr j'=true)) ⟨_,_,[],rfl,s2.put nrp0,d2.put rpa,t3 _ _ k2,upd_same,rfl,(fun j' h=>by simp[bit]at h),(fun j' x h=>absurd h (Nat.not_lt_zero _))⟩ ?_ ?_⟩
      · rintro j σ H3 hj ⟨v7,v8,rr,rfl,s3,d3,kc,kr,rrl,r1,r2⟩
        have j0:(0:Int)+(j:Int)=((j:Nat):Int):=by omega
        rw[j0]
        refine⟨_,rfl,_,_,rfl,⟨d3,by decide,by decide⟩,fun z H4 s4 d4 z0 z1=>?_⟩
        have s34:=s3.trans s4
        have kc4:=s4 _ _ cpa kc
        have kr4:=s4 _ _ rpa kr
        have hop4:=s34 _ _ opa hop
        have hlp4:H4 lp=some (.tup (r.map V.bl)):=(s34.tt hD) _ _ hlp
        obtain⟨x,ex⟩:∃x,os[j]? = some x:=⟨_,List.getElem?_eq_getElem (by omega)⟩
        have xn:=OW.lt x (List.mem_of_getElem? ex)
        obtain⟨y,ey⟩:∃y,cs[x]? = some y:=⟨_,List.getElem?_eq_getElem (by omega)⟩
        refine⟨rfl,?_⟩
        refine⟨_,rfl,.inl ⟨rfl,_,SqL.of kr4⟩,_,rfl,_,rfl,_,rfl,_,_,_,_,rfl,rfl,SqL.of hop4,vS_at' ex,_,_,_,_,rfl,rfl,SqT.of hlp4,bit_at (by omega),?_⟩
        have fin:∀bb:Bool,(bb=true→bit r x=true)→(cs[x]? = some j→bit r x=true→bb=true)→∃(v7' v8':Option V) (rr':List Bool),([some (.ref a),some (.ref op),some (.ref lp),some (.ref cp),v4,v5,some (.ref rp),some (.int (j:Int)),some (V.bl (decide (V.int z=V.int 0)))]:L2.St)=[some (.ref a),some (.ref op),some (.ref lp),some (.ref cp),v4,v5,some (.ref rp),v7',v8']∧SameX a H (upd H4 rp (.lst (rr.map V.bl++[.bl bb])))∧Dr (upd H4 rp (.lst (rr.map V.bl++[.bl bb]))) a∧upd H4 rp (.lst (rr.map V.bl++[.bl bb])) cp=some (.lst (vS cs))∧upd H4 rp (.lst (rr.map V.bl++[.bl bb])) rp=some (.lst (rr'.map V.bl))∧rr'.length=j+1∧(∀j',bit rr' j'=true→∃x,os[j']? = some x∧bit r x=true)∧(∀(j' x:Nat),j' < j+1→os[j']? = some x→cs[x]? = some j'→bit r x=true→bit rr' j'=true):=fun bb b1 b2=>
          ⟨_,_,rr++[bb],rfl,s34.put nrp0,d4.put rpa,by rw[upd_ne crp];exact kc4,by rw[List.map_append];exact upd_same,by simp[rrl],(fun j' h=>by
            rw[bit_app,rrl]at h
            by_cases q1:j' < j
            · rw[if_pos q1]at h;exact r1 j' h
            · rw[if_neg q1]at h
              by_cases q2:j'=j
              · rw[if_pos q2]at h;exact⟨x,by rw[q2];exact ex,b1 h⟩
              · rw[if_neg q2]at h;cases h),(fun j' x' hj' e1 e2 e3=>by
            rw[bit_app,rrl]
            by_cases q1:j' < j
            · rw[if_pos q1];exact r2 j' x' q1 e1 e2 e3
            · have q2:j'=j:=by omega
              subst q2
              rw[ex]at e1
              cases e1
              rw[if_neg q1,if_pos rfl]
              exact b2 e2 e3)⟩
        cases ebr:bit r x with
        | false=>
          refine⟨_,rfl,iteN rfl ?_⟩
          exact⟨rp,_,_,rfl,rfl,kr4,(by rw[List.length_map];omega),fin false (fun h=>by cases h) (fun _ h=>by rw[ebr]at h;cases h)⟩
        | true=>
          refine⟨_,rfl,iteY rfl ?_⟩
          refine⟨_,rfl,_,rfl,?_⟩
          refine iteI (fun e=>?_) (fun e=>?_)
          · exact⟨rp,_,_,rfl,rfl,kr4,(by rw[List.length_map];omega),fin _ (fun _=>ebr) (fun _ _=>by first | rfl | exact decide_eq_true e)⟩
          · refine⟨_,rfl,_,rfl,_,rfl,_,_,_,_,rfl,rfl,SqL.of hop4,vS_at' ex,_,_,_,_,rfl,rfl,SqL.of kc4,vS_at' ey,_,rfl,rfl,?_⟩
            exact⟨rp,_,_,rfl,rfl,kr4,(by rw[List.length_map];omega),fin _ (fun _=>ebr) (fun h _=>by
              rw[ey]at h
              cases h
              exact decide_eq_true rfl)⟩
      · rintro σ H3 ⟨v7,v8,rr,rfl,s3,d3,kc,kr,rrl,r1,r2⟩
        refine⟨_,rfl,rp,_,rfl,.inl ⟨SqL.of kr,fun q nq=>?_⟩⟩
        have t4:=same_upd (o:=.tup (rr.map V.bl)) nq
        refine k rr _ _ (s3.trans (.of t4)) (d3.same t4) ⟨by omega,r1,fun x hx e=>?_⟩ ⟨q,rfl,upd_same⟩
        obtain⟨y,ey⟩:∃y,cs[x]? = some y:=⟨_,List.getElem?_eq_getElem (by omega)⟩
        have oy:=chs x y ey
        have ly:=(List.getElem?_eq_some_iff.mp oy).1
        exact⟨y,oy,r2 y x (by omega) oy ey e⟩
theorem swap_in{os:List Nat}{k j x y z:Nat}(hk:os[k]? = some x)(hj:os[j]? = some y)(hz:z∈os):z∈(os.set k y).set j x:=by
  obtain⟨i,hi⟩:=List.getElem?_of_mem hz
  have lk:=(List.getElem?_eq_some_iff.mp hk).1
  have lj:=(List.getElem?_eq_some_iff.mp hj).1
  by_cases e1:i=j
  · subst e1
    rw[hj]at hi;cases hi
    by_cases e2:k=i
    · subst e2
      rw[hk]at hj;cases hj
      exact List.mem_of_getElem? (i:=k) (by rw[List.getElem?_set_self (by rw[List.length_set];exact lk)])
    · exact List.mem_of_getElem? (i:=k) (by rw[List.getElem?_set_ne (Ne.symm e2),List.getElem?_set_self lk])
  · by_cases e2:i=k
    · subst e2
      rw[hk]at hi;cases hi
      exact List.mem_of_getElem? (i:=j) (by rw[List.getElem?_set_self (by rw[List.length_set];exact lj)])
    · exact List.mem_of_getElem? (i:=i) (by rw[List.getElem?_set_ne (Ne.symm e1),List.getElem?_set_ne (Ne.symm e2)];exact hi)
theorem Own.swap{os:List Nat}{n k j x y:Nat}(O:Own os n)(hk:os[k]? = some x)(hj:os[j]? = some y):Own ((os.set k y).set j x) n:=by
  refine⟨fun z hz=>?_,fun z hz=>swap_in hk hj (O.all z hz),by rw[List.length_set,List.length_set];exact O.l20⟩
  rcases List.mem_or_eq_of_mem_set hz with h | h
  · rcases List.mem_or_eq_of_mem_set h with h | h
    · exact O.lt z h
    · rw[h];exact O.lt y (List.mem_of_getElem? hj)
  · rw[h];exact O.lt x (List.mem_of_getElem? hk)
theorem vS_set(os:List Nat)(k y:Nat):(vS os).set k (.int (y:Int))=vS (os.set k y):=by
  unfold vS;rw[List.map_set]
theorem rep_one(v:V)(k:Nat):(List.replicate k [v]).flatten=List.replicate k v:=by
  induction k with
  | zero=>rfl
  | succ k ih=>rw[List.replicate_succ,List.flatten_cons,ih];rfl
theorem vS_more(os:List Nat)(k i:Nat):vS os++List.replicate k (.int (i:Int))=vS (os++List.replicate k i):=by
  unfold vS;rw[List.map_append,List.map_replicate]
def DT(os:List Nat)(n:Nat)(m m':List (List Bool)):Prop:=∀(j o:Nat) (r r':List Bool),os[j]? = some o→m[o]? = some r→m'[j]? = some r'→Spr os n r r'
structure Dbl(os:List Nat)(n:Nat)(st en:List Bool)(ts:List (List (List Bool)))(st' en':List Bool)(ts':List (List (List Bool))):Prop where
  own:Own os n
  s:Spr os n st st'
  t:∀(q:Nat) (m m':List (List Bool)),ts[q]? = some m→ts'[q]? = some m'→DT os n m m'
  e:en'=os.map (bit en)
def sp_doubled:Sp:=fun vs H Q _=>∃(a:Addr) (mv:V) (l:List Nat) (n:Nat) (st en:List Bool) (ts:List (List (List Bool))),vs=[.ref a,mv]∧(Dr H a∧BM l st ts en mv H∧BMok l n st ts en∧n≤10)∧∀os st' ts' en' v H',SameX a H H'→Dr H' a→BMok l os.length st' ts' en'→Dbl os n st en ts st' en' ts'→BM l st' ts' en' v H'→Q v H'
theorem ok_law_doubled(T:Txt K mg t):FnOk Pr w K mg base CX0 3 t.law_doubled t.d_law_doubled ["_law_state_here","_law_machine_here"] sp_doubled:=by
  refine T.F_law_doubled.ok sc_law_doubled (fun vs H Q E h=>?_) (fun cdv A outer s H vs Q E hr h=>?_)
  · obtain⟨a,mv,l,n,st,en,ts,rfl,_⟩:=h
    rfl
  · obtain⟨a,mv,l,n,st,en,ts,rfl,⟨hD,⟨p,sv,tv,ev,rfl,hp,⟨sp,rfl,hsp⟩,⟨tp,tvs,rfl,htp,et⟩,⟨ep,rfl,hep⟩⟩,O,n10⟩,k⟩:=h
    have zl:10000 < sizeLine:=by decide
    have sl:=O.sl
    have l3:=O.lk.h3
    have tl:=O.tl
    have el:=O.el
    refine⟨_,(pss_cons (ps_set (i:=2) sc_law_doubled.nd rfl (Or.inr rfl) (pe_lst pa_nil)) (pss_cons (ps_for PassesOwn.never rfl (pi_range1 rfl T.z_range (pa_cons (pe_callB call_len (by rfl) T.z_len PySem.boot_len (pa_cons (pe_ix ix_tup (pv 1) pe_int (fun _ _=>rfl)) pa_nil)) pa_nil)) (pg_name (i:=3) sc_law_doubled.nd rfl (Or.inl rfl)) (pss_one (ps_aug (i:=2) sc_law_doubled.nd rfl (Or.inr rfl) (pe_op op_rep (pe_lst (pa_cons (pv 3) pa_nil)) (pe_op op_add pe_int (pe_call (ok_law_next T) hr.m rfl T.m_law_next T.F_law_next.kp T.b_law_next .nil pass0 (pa_cons (pv 0) (pa_cons pe_int pa_nil))))) ip_lst))) (pss_cons (ps_for PassesOwn.never rfl (pi_range1 rfl T.z_range (pa_cons (pe_callB call_len (by rfl) T.z_len PySem.boot_len (pa_cons (pv 2) pa_nil)) pa_nil)) (pg_name (i:=3) sc_law_doubled.nd rfl (Or.inl rfl)) (pss_cons (ps_set (i:=4) sc_law_doubled.nd rfl (Or.inl rfl) (pe_call (ok_law_next T) hr.m rfl T.m_law_next T.F_law_next.kp T.b_law_next .nil pass0 (pa_cons (pv 0) (pa_cons (pe_callB call_len (by rfl) T.z_len PySem.boot_len (pa_cons (pv 2) pa_nil)) pa_nil)))) (pss_one (ps_asg (pe_tup (pa_cons (pe_ix ix_list (pv 2) (pv 4) (fun _ _=>rfl)) (pa_cons (pe_ix ix_list (pv 2) (pv 3) (fun _ _=>rfl)) pa_nil))) (pg_tup rfl (pgs_cons (pg_sub (pv 2) (pv 3) set_list) (pgs_cons (pg_sub (pv 2) (pv 4) set_list) pgs_nil))))))) (pss_cons (ps_set (i:=5) sc_law_doubled.nd rfl (Or.inl rfl) (pe_lst pa_nil)) (pss_cons (ps_forget 3 (ps_for PassesOwn.never rfl (pi_tup (pe_ix ix_tup (pv 1) pe_int (fun _ _=>rfl))) (pg_name (i:=6) sc_law_doubled.nd rfl (Or.inr rfl)) (pss_one (ps_expr (pe_bm PySem.F.plainAttrs_list PySem.F.slot_list_append PySem.F.type_list_append mt_append (pv 5) (pa_cons (pe_callTy call_tuple_of (by rfl) T.z_tuple boot_tuple (pa_cons (pe_hide 3 "#1" (pe_comp (xs:=["_law_k"]) rfl (show CompOk ["_law_state_here","_law_machine_here","_law_owners","#1","_law_j","_law_tables","_law_table","_law_ends"] (defScope s_law_doubled) _ from⟨rfl,by decide +kernel,by decide +kernel,by decide +kernel,by decide +kernel,by decide +kernel⟩) (pi_list (pv 2)) (fun _ _ _ _ _=>(pg_name (i:=8) (by show List.Nodup (["_law_state_here","_law_machine_here","_law_owners","#1","_law_j","_law_tables","_law_table","_law_ends","_law_k"]:List Str);decide +kernel) rfl (Or.inl rfl))) (fun _ _ _ _ _=>(pe_call (ok_law_spread (w:=w) (base:=base) T) hr.m rfl T.m_law_spread T.F_law_spread.kp T.b_law_spread .nil pass0 (pa_cons (pv 0) (pa_cons (pv 2) (pa_cons (pe_ix (show IxR _ (rIxT K)from ix_tup) (pv 6) (pv 8) (fun _ _=>rfl)) pa_nil))))))) pa_nil)) pa_nil)))))) (pss_cons (ps_set (i:=7) sc_law_doubled.nd rfl (Or.inl rfl) (pe_callTy call_tuple_of (by rfl) T.z_tuple boot_tuple (pa_cons (pe_hide 3 "#1" (pe_comp (xs:=["_law_k"]) rfl (show CompOk ["_law_state_here","_law_machine_here","_law_owners","#1","_law_j","_law_tables","_law_table","_law_ends"] (defScope s_law_doubled) _ from⟨rfl,by decide +kernel,by decide +kernel,by decide +kernel,by decide +kernel,by decide +kernel⟩) (pi_list (pv 2)) (fun _ _ _ _ _=>(pg_name (i:=8) (by show List.Nodup (["_law_state_here","_law_machine_here","_law_owners","#1","_law_j","_law_tables","_law_table","_law_ends","_law_k"]:List Str);decide +kernel) rfl (Or.inl rfl))) (fun _ _ _ _ _=>(pe_ix (show IxR _ (rIxT K)from ix_tup) (pe_ix (show IxR _ (rIxT K)from ix_tup) (pv 1) pe_int (fun _ _=>rfl)) (pv 8) (fun _ _=>rfl))))) pa_nil))) (pss_one (ps_ret (pe_tup (pa_cons (pe_ix ix_tup (pv 1) pe_int (fun _ _=>rfl)) (pa_cons (pe_call (ok_law_spread T) hr.m rfl T.m_law_spread T.F_law_spread.kp T.b_law_spread .nil pass0 (pa_cons (pv 0) (pa_cons (pv 2) (pa_cons (pe_ix ix_tup (pv 1) pe_int (fun _ _=>rfl)) pa_nil)))) (pa_cons (pe_callTy call_tuple_of (by rfl) T.z_tuple boot_tuple (pa_cons (pv 5) pa_nil)) (pa_cons (pv 7) pa_nil))))))))))))),?_⟩
    refine⟨Nat.zero_le _,fun op nop=>?_⟩
    have opa:=hD.ne nop
    have t1:=same_upd (o:=.lst []) nop
    have ll:∀{H':Hp},H' sp=some (.tup (st.map V.bl))→LenV K (.ref sp) H' n:=fun h=>.inr ⟨_,SqT.of h,by rw[List.length_map,sl]⟩
    show gName 2 (.ref op) [some (.ref a),some (.ref p),none,none,none,none,none,none] (upd H op (.lst [])) _
    refine⟨_,rfl,_,_,_,_,rfl,rfl,SqT.of (t1 _ _ hp),rfl,_,_,rfl,ll (t1 _ _ hsp),_,rfl,(by omega),(by omega),for_range (lo:=0) (n:=(n:Int).toNat) (fun i σ H2=>∃v3 os,σ=[some (.ref a),some (.ref p),some (.ref op),v3,none,none,none,none]∧SameX a H H2∧Dr H2 a∧H2 op=some (.lst (vS os))∧(∀k∈os,k < i)∧(∀k,k < i→k∈os)∧os.length≤2 * i) ⟨_,[],rfl,(SameX.refl _ _).put nop,hD.put opa,upd_same,(fun _ h=>by cases h),(fun _ h=>by omega),Nat.le_refl _⟩ ?_ ?_⟩
    · rintro i σ H2 hi ⟨v3,os,rfl,s2,d2,k2,o1,o2,o3⟩
      have i0:(0:Int)+(i:Int)=((i:Nat):Int):=by omega
      rw[i0]
      refine⟨_,rfl,_,rfl,(by show 1≤sizeLine;omega),fun np nnp=>?_⟩
      have t3:=same_upd (o:=.lst [.int (i:Int)]) nnp
      have kn:upd H2 np (.lst [.int (i:Int)]) np=some (.lst [.int (i:Int)]):=upd_same
      have npa:=d2.ne nnp
      have s3:=s2.trans (.of t3)
      have d3:=d2.same t3
      have k3:=t3 _ _ k2
      clear t3
      revert kn s3 d3 k3
      generalize upd H2 np (.lst [.int (i:Int)])=H3
      intro kn s3 d3 k3
      refine⟨_,rfl,_,_,rfl,⟨d3,by decide,by decide⟩,fun z H4 s4 d4 z0 z1=>?_⟩
      have k4:=s4 _ _ opa k3
      obtain⟨z,rfl⟩:∃k:Nat,z=(k:Int):=⟨z.toNat,by omega⟩
      refine⟨_,_,rfl,rfl,np,_,_,rfl,rfl,s4 _ _ npa kn,(by omega),(by omega),(by show 1 * _≤_;omega),fun rp nrp=>?_⟩
      have t5:=same_upd (o:=.lst (List.replicate (1+(z:Int)).toNat [V.int (i:Int)]).flatten) nrp
      have er:(List.replicate (1+(z:Int)).toNat [V.int (i:Int)]).flatten=List.replicate (z+1) (V.int (i:Int)):=by rw[rep_one,show(1+(z:Int)).toNat=z+1 by omega]
      rw[er]at t5 ⊢
      refine⟨op,rp,_,_,rfl,rfl,t5 _ _ k4,upd_same,(by rw[vS_len,List.length_replicate];omega),?_⟩
      rw[vS_more]
      refine⟨_,os++List.replicate (z+1) i,rfl,((s3.trans s4).trans (.of t5)).put nop,(d4.same t5).put opa,upd_same,fun k hk=>?_,fun k hk=>?_,by rw[List.length_append,List.length_replicate];omega⟩
      · rcases List.mem_append.mp hk with hk | hk
        · exact Nat.lt_succ_of_lt (o1 k hk)
        · rw[List.eq_of_mem_replicate hk];exact Nat.lt_succ_self _
      · rcases Nat.lt_succ_iff_lt_or_eq.mp hk with hk | rfl
        · exact List.mem_append_left _ (o2 k hk)
        · exact List.mem_append_right _ (List.mem_replicate.mpr ⟨by omega,rfl⟩)
    · rintro σ H2 ⟨v3,os,rfl,s2,d2,k2,o1,o2,o3⟩
      have OW:Own os n:=⟨fun k hk=>by have:=o1 k hk;omega,fun k hk=>o2 k (by omega),by omega⟩
      have oL:=OW.l20
      clear o1 o2 o3
      refine⟨_,rfl,_,_,rfl,.inl ⟨_,SqL.of k2,(vS_len os).symm⟩,_,rfl,(by omega),(by omega),for_range (lo:=0) (n:=(os.length:Int).toNat) (fun i σ H3=>∃v3 v4 os',σ=[some (.ref a),some (.ref p),some (.ref op),v3,v4,none,none,none]∧SameX a H H3∧Dr H3 a∧H3 op=some (.lst (vS os'))∧os'.length=os.length∧Own os' n) ⟨_,_,os,rfl,s2,d2,k2,rfl,OW⟩ ?_ ?_⟩
      · clear k2 s2 d2 v3
        rintro i σ H3 hi ⟨v3,v4,os',rfl,s3,d3,k3,ol,OW'⟩
        have i0:(0:Int)+(i:Int)=((i:Nat):Int):=by omega
        rw[i0]
        refine⟨_,rfl,_,rfl,_,_,rfl,.inl ⟨_,SqL.of k3,(vS_len os').symm⟩,a,_,rfl,⟨d3,by omega,by omega⟩,fun z H4 s4 d4 z0 z1=>?_⟩
        obtain⟨z,rfl⟩:∃k:Nat,z=(k:Int):=⟨z.toNat,by omega⟩
        obtain⟨x,ex⟩:∃x,os'[i]? = some x:=⟨_,List.getElem?_eq_getElem (by omega)⟩
        obtain⟨y,ey⟩:∃y,os'[z]? = some y:=⟨_,List.getElem?_eq_getElem (by omega)⟩
        have k4:=s4 _ _ opa k3
        refine⟨_,rfl,_,rfl,_,_,_,_,rfl,rfl,SqL.of k4,vS_at' ey,_,rfl,_,rfl,_,_,_,_,rfl,rfl,SqL.of k4,vS_at' ex,(by show 2≤sizeLine;omega),fun up nup=>?_⟩
        have t5:=same_upd (o:=.tup [.int (y:Int),.int (x:Int)]) nup
        refine⟨up,_,rfl,SqT.of upd_same,rfl,_,_,rfl,_,rfl,_,rfl,op,_,_,i,rfl,rfl,t5 _ _ k4,ixN_of (by rw[vS_len];omega),?_⟩
        rw[vS_set]
        refine⟨_,_,rfl,_,rfl,_,rfl,op,_,_,z,rfl,rfl,upd_same,ixN_of (by rw[vS_len,List.length_set];omega),rfl,?_⟩
        rw[vS_set]
        exact⟨_,_,(os'.set i y).set z x,rfl,(((s3.trans s4).trans (.of t5)).put nop).put nop,((d4.same t5).put opa).put opa,upd_same,by simp[ol],OW'.swap ex ey⟩
      · clear k2 s2 d2 v3
        rintro σ H3 ⟨v3,v4,os',rfl,s3,d3,k3,ol,OW'⟩
        have oL:=OW'.l20
        refine⟨Nat.zero_le _,fun bp nbp=>?_⟩
        have bpa:=d3.ne nbp
        have t4:=same_upd (o:=.lst []) nbp
        have bop:op≠bp:=fun e=>by rw[e,nbp]at k3;cases k3
        have nbp0:H bp=none:=by
          cases e:H bp with
          | none=>rfl
          | some o=>rw[s3 _ _ bpa e]at nbp;cases nbp
        show gName 5 (.ref bp) [some (.ref a),some (.ref p),some (.ref op),v3,v4,none,none,none] (upd H3 bp (.lst [])) _
        refine⟨_,rfl,_,_,_,_,rfl,rfl,SqT.of (t4 _ _ (s3.tt hD _ _ hp)),rfl,tp,rfl,⟨_,SqT.of (t4 _ _ (s3.tt hD _ _ htp))⟩,for_it (n:=ts.length) (fun q σ H4=>∃v6 ys ts',σ=[some (.ref a),some (.ref p),some (.ref op),none,v4,some (.ref bp),v6,none]∧SameX a H H4∧Dr H4 a∧H4 op=some (.lst (vS os'))∧H4 bp=some (.lst ys)∧Ents (fun i u H=>∃r,ts'[i]? = some r∧BT r u H) ys ts'.length H4∧ts'.length=q∧(∀m∈ts',m.length=os'.length∧∀r∈m,r.length=os'.length)∧∀(q':Nat) (m m':List (List Bool)),ts[q']? = some m→ts'[q']? = some m'→DT os' n m m') ⟨_,[],[],rfl,s3.put nbp0,d3.put bpa,t4 _ _ k3,upd_same,Ents.nil,rfl,(fun _ h=>by cases h),(fun q' m m' _ h=>by simp at h)⟩ ?_ ?_⟩
        · rintro q σ H4 hq ⟨v6,ys,ts',rfl,s4,d4,ko4,k4,e4,tl4,g4,dt4⟩
          obtain⟨u,eu,mt,em,hu⟩:=et.2 q hq
          have u4:=s4.tt hD
          refine⟨⟨_,_,SqT.of (u4 _ _ htp),eu⟩,fun y G4 hy=>?_⟩
          obtain⟨rfl,hy⟩:=hy
          have:=hy _ (SqT.of (u4 _ _ htp))
          rw[eu]at this;cases this
          have ob:=O.tb mt (List.mem_of_getElem? em)
          obtain⟨up,uvs,rfl,hup,eup⟩:=hu
          refine⟨_,rfl,.inl ⟨rfl,_,SqL.of k4⟩,rfl,_,rfl,op,rfl,⟨_,SqL.of ko4⟩,comp_go (n:=os'.length) (fun j zs H5=>∃b,SameX a G4 H5∧Dr H5 a∧Ents (fun i u H=>∃r,b[i]? = some r∧BR r u H) zs b.length H5∧b.length=j∧(∀r∈b,r.length=os'.length)∧DT os' n mt b) (by omega) ⟨[],SameX.refl _ _,d4,Ents.nil,rfl,(fun _ h=>by cases h),(fun j o r r' _ _ h=>by simp at h)⟩ (fun j zs H5 ⟨b,_,_,e,q,_⟩=>by rw[e.1,q]) ?_ ?_ ?_⟩
          · rintro j zs H5 hj ⟨b,s5,d5,e5,b5,g5,dt5⟩
            have ko5:=s5 _ _ opa ko4
            obtain⟨o,eo⟩:∃o,os'[j]? = some o:=⟨_,List.getElem?_eq_getElem hj⟩
            refine⟨⟨_,_,SqL.of ko5,vS_at eo⟩,fun y H' hy=>?_⟩
            obtain⟨rfl,hy⟩:=hy
            have:=hy _ (SqL.of ko5)
            rw[vS_at eo]at this;cases this
            have on:=OW'.lt o (List.mem_of_getElem? eo)
            obtain⟨w',ew,r,er,hrr⟩:=eup.2 o (by rw[ob.1];exact on)
            have u5:=u4.trans (s5.tt d4)
            refine⟨⟨[some _],rfl,rfl⟩,_,rfl,_,rfl,_,rfl,_,rfl,up,uvs,_,_,rfl,rfl,SqT.of (u5 _ _ hup),atI_nat ew,a,op,os',n,r,w',rfl,⟨d5,opa,ko5,OW',hrr.same u5,ob.2 r (List.mem_of_getElem? er),by omega⟩,fun r' rv H6 s6 d6 rl6 hr6=>?_⟩
            refine⟨b++[r'],s5.trans s6,d6,ents_snoc e5 (fun _ _=>BR.same (s6.tt d5)) hr6,by simp[b5],fun x hx=>?_,fun j' o' x x' h1 h2 h3=>?_⟩
            · rcases List.mem_append.mp hx with hx | hx
              · exact g5 x hx
              · rw[List.mem_singleton.mp hx];exact rl6.len
            · by_cases q1:j' < b.length
              · rw[List.getElem?_append_left q1]at h3
                exact dt5 j' o' x x' h1 h2 h3
              · rw[List.getElem?_append_right (by omega)]at h3
                have lx:=(List.getElem?_eq_some_iff.mp h3).1
                rw[List.length_singleton]at lx
                have e1:j'=b.length:=by omega
                rw[e1,Nat.sub_self]at h3
                cases h3
                rw[e1,b5,eo]at h1
                cases h1
                rw[er]at h2
                cases h2
                exact rl6
          · rintro zs H5 ⟨b,s5,d5,e5,b5,g5,dt5⟩
            exact⟨_,SqL.of (s5 _ _ opa ko4),by rw[vS_len];exact Nat.le_refl _⟩
          · rintro zs H5 lp ⟨b,s5,d5,e5,b5,g5,dt5⟩ nl
            have t1:=same_upd (o:=.lst zs) nl
            refine⟨lp,_,rfl,.inl ⟨SqL.of upd_same,fun l2 n2=>?_⟩⟩
            have t2:=same_upd (o:=.tup zs) n2
            have t12:=t1.trans t2
            have k5:=t12 _ _ (s5 bp _ bpa k4)
            have ko5:=t12 _ _ (s5 op _ opa ko4)
            have ht:BT b (.ref l2) (upd (upd H5 lp (.lst zs)) l2 (.tup zs)):=⟨l2,zs,rfl,upd_same,e5.mono fun _ _ _ ⟨r,q1,q2⟩=>⟨r,q1,q2.same t12.t⟩⟩
            have d5':=d5.same t12
            have s5':SameX a G4 (upd (upd H5 lp (.lst zs)) l2 (.tup zs)):=s5.trans (.of t12)
            clear t1 t2 t12 nl n2
            revert k5 ko5 ht d5' s5'
            generalize upd (upd H5 lp (.lst zs)) l2 (.tup zs)=H6
            intro k5 ko5 ht d5' s5'
            refine⟨bp,ys,_,rfl,rfl,k5,(by rw[e4.1,tl4];omega),?_⟩
            have nx:∀o,SameT H6 (upd H6 bp (.lst o)):=fun o p vs hp=>by
              by_cases q:p=bp
              · subst q;rw[hp]at k5;cases k5
              · rw[upd_ne q];exact hp
            refine⟨_,ys++[.ref l2],ts'++[b],rfl,(s4.trans s5').put nbp0,d5'.put bpa,by rw[upd_ne bop];exact ko5,upd_same,ents_snoc e4 (fun _ _ h=>(h.same (s5'.tt d4)).same (nx _)) (ht.same (nx _)),by simp[tl4],fun x hx=>?_,fun q' x x' h1 h2=>?_⟩
            · rcases List.mem_append.mp hx with hx | hx
              · exact g4 x hx
              · rw[List.mem_singleton.mp hx];exact⟨b5,g5⟩
            · by_cases q1:q' < ts'.length
              · rw[List.getElem?_append_left q1]at h2
                exact dt4 q' x x' h1 h2
              · rw[List.getElem?_append_right (by omega)]at h2
                have lx:=(List.getElem?_eq_some_iff.mp h2).1
                rw[List.length_singleton]at lx
                have e1:q'=ts'.length:=by omega
                rw[e1,Nat.sub_self]at h2
                cases h2
                rw[e1,tl4,em]at h1
                cases h1
                exact dt5
        · rintro σ H4 ⟨v6,ys,ts',rfl,s4,d4,ko4,k4,e4,tl4,g4,dt4⟩
          refine⟨⟨_,SqT.of (s4.tt hD _ _ htp),by rw[et.1];exact Nat.le_refl _⟩,?_⟩
          have u4:=s4.tt hD
          refine⟨rfl,_,rfl,op,rfl,⟨_,SqL.of ko4⟩,comp_go (n:=os'.length) (fun j zs H5=>H5=H4∧∃b:List Bool,zs=b.map V.bl∧b.length=j∧b=(os'.take j).map (bit en)) (by omega) ⟨rfl,[],rfl,rfl,rfl⟩ (fun j zs H5 ⟨_,b,e,q,_⟩=>by rw[e,List.length_map,q]) ?_ ?_ ?_⟩
          · rintro j zs H5 hj ⟨rfl,b,rfl,bl,eb⟩
            obtain⟨o,eo⟩:∃o,os'[j]? = some o:=⟨_,List.getElem?_eq_getElem hj⟩
            refine⟨⟨_,_,SqL.of ko4,vS_at eo⟩,fun y H' hy=>?_⟩
            obtain⟨rfl,hy⟩:=hy
            have:=hy _ (SqL.of ko4)
            rw[vS_at eo]at this;cases this
            have on:=OW'.lt o (List.mem_of_getElem? eo)
            refine⟨⟨[some _],rfl,rfl⟩,_,rfl,_,_,_,_,rfl,rfl,SqT.of (u4 _ _ hp),rfl,_,rfl,_,_,_,_,rfl,rfl,SqT.of (u4 _ _ hep),bit_at (by omega),?_⟩
            exact⟨rfl,b++[bit en o],by simp,by simp[bl],by rw[List.take_add_one,eo,List.map_append,eb];rfl⟩
          · rintro zs H5 ⟨rfl,b,rfl,bl,eb⟩
            exact⟨_,SqL.of ko4,by rw[vS_len];exact Nat.le_refl _⟩
          · rintro zs H5 lp ⟨rfl,b,rfl,bl,eb⟩ nl
            have t1:=same_upd (o:=.lst (b.map V.bl)) nl
            refine⟨lp,_,rfl,.inl ⟨SqL.of upd_same,fun l2 n2=>?_⟩⟩
            have t2:=same_upd (o:=.tup (b.map V.bl)) n2
            have t12:=t1.trans t2
            have k5:=t12 _ _ k4
            have ko5:=t12 _ _ ko4
            have hE:BR b (.ref l2) (upd (upd H5 lp (.lst (b.map V.bl))) l2 (.tup (b.map V.bl))):=⟨l2,rfl,upd_same⟩
            have d5:=d4.same t12
            have s5:SameX a H (upd (upd H5 lp (.lst (b.map V.bl))) l2 (.tup (b.map V.bl))):=s4.trans (.of t12)
            have e5:Ents (fun i u H=>∃r,ts'[i]? = some r∧BT r u H) ys ts'.length (upd (upd H5 lp (.lst (b.map V.bl))) l2 (.tup (b.map V.bl))):=e4.mono fun _ _ _ ⟨r,q1,q2⟩=>⟨r,q1,q2.same t12.t⟩
            clear t1 t2 t12 nl n2
            revert k5 ko5 hE d5 s5 e5
            generalize upd (upd H5 lp (.lst (b.map V.bl))) l2 (.tup (b.map V.bl))=H6
            intro k5 ko5 hE d5 s5 e5
            have u5:=s5.tt hD
            show gName 7 (.ref l2) [some (.ref a),some (.ref p),some (.ref op),none,v4,some (.ref bp),v6,none] H6 _
            refine⟨_,rfl,_,_,_,_,rfl,rfl,SqT.of (u5 _ _ hp),rfl,_,rfl,_,rfl,_,rfl,_,_,_,_,rfl,rfl,SqT.of (u5 _ _ hp),rfl,a,op,os',n,st,_,rfl,⟨d5,opa,ko5,OW',⟨sp,rfl,u5 _ _ hsp⟩,sl,by omega⟩,fun st' sv' H7 s7 d7 rl7 hr7=>?_⟩
            rw[List.take_length]at eb
            have k7:=s7 _ _ bpa k5
            have u7:=s7.tt d5
            refine⟨_,rfl,bp,_,rfl,.inl ⟨SqL.of k7,fun l3 n3=>?_⟩⟩
            have t8:=same_upd (o:=.tup ys) n3
            refine⟨_,rfl,(by show 4≤sizeLine;omega),fun rp nrp=>?_⟩
            have t9:=same_upd (o:=.tup [vT l,sv',.ref l3,.ref l2]) nrp
            have t89:=t8.trans t9
            have u9:=u7.trans t89.t
            exact k os' st' ts' b _ _ ((s5.trans s7).trans (.of t89)) (d7.same t89) ⟨O.lk,oL,rl7.len,by omega,g4,bl⟩ ⟨OW',rl7,dt4,eb⟩ ⟨rp,_,_,_,rfl,upd_same,hr7.same t89.t,⟨l3,ys,rfl,t9 _ _ upd_same,e5.mono fun _ _ _ ⟨r,q1,q2⟩=>⟨r,q1,q2.same u9⟩⟩,hE.same u9⟩
def Prj(os S' S:List Nat):Prop:=(∀j∈S',∃k∈S,os[j]? = some k)∧∀k∈S,∃j∈S',os[j]? = some k
theorem mem_fstS{st:List Bool}{k:Nat}:k∈fstS st↔k < st.length∧bit st k=true:=by
  unfold fstS
  rw[List.mem_filter,List.mem_range]
theorem mem_nxtS{m:List (List Bool)}{S:List Nat}{k:Nat}:k∈nxtS m S↔k < m.length∧∃o∈S,bit (m.getD o []) k=true:=by
  unfold nxtS
  rw[List.mem_filter,List.mem_range,List.any_eq_true]
theorem getD_row{m:List (List Bool)}{o:Nat}(h:o < m.length):m[o]? = some (m.getD o []):=by
  rw[List.getD_eq_getElem?_getD,List.getElem?_eq_getElem h];rfl
theorem Dbl.fst{os:List Nat}{n:Nat}{st en st' en':List Bool}{ts ts':List (List (List Bool))}(D:Dbl os n st en ts st' en' ts')(sl:st.length=n):Prj os (fstS st') (fstS st):=by
  refine⟨fun j hj=>?_,fun k hk=>?_⟩
  · obtain⟨x,e1,e2⟩:=D.s.dn j (mem_fstS.mp hj).2
    exact⟨x,mem_fstS.mpr ⟨by rw[sl];exact D.own.lt x (List.mem_of_getElem? e1),e2⟩,e1⟩
  · obtain⟨a,b⟩:=mem_fstS.mp hk
    obtain⟨j,e1,e2⟩:=D.s.up k (by omega) b
    exact⟨j,mem_fstS.mpr ⟨by rw[D.s.len];exact(List.getElem?_eq_some_iff.mp e1).1,e2⟩,e1⟩
theorem DT.nxt{os S S':List Nat}{n:Nat}{m m':List (List Bool)}(D:DT os n m m')(W:Own os n)(ml:m.length=n)(ml':m'.length=os.length)(P:Prj os S' S):Prj os (nxtS m' S') (nxtS m S):=by
  refine⟨fun j2 hj=>?_,fun x hx=>?_⟩
  · obtain⟨_,j,h1,h2⟩:=mem_nxtS.mp hj
    obtain⟨k,h3,h4⟩:=P.1 j h1
    have kn:=W.lt k (List.mem_of_getElem? h4)
    have sp:=D j k _ _ h4 (getD_row (by omega)) (getD_row (by rw[ml'];exact(List.getElem?_eq_some_iff.mp h4).1))
    obtain⟨x,e1,e2⟩:=sp.dn j2 h2
    exact⟨x,mem_nxtS.mpr ⟨by rw[ml];exact W.lt x (List.mem_of_getElem? e1),k,h3,e2⟩,e1⟩
  · obtain⟨h0,k,h1,h2⟩:=mem_nxtS.mp hx
    obtain⟨j,h3,h4⟩:=P.2 k h1
    have kn:=W.lt k (List.mem_of_getElem? h4)
    have sp:=D j k _ _ h4 (getD_row (by omega)) (getD_row (by rw[ml'];exact(List.getElem?_eq_some_iff.mp h4).1))
    obtain⟨j2,e1,e2⟩:=sp.up x (by omega) h2
    exact⟨j2,mem_nxtS.mpr ⟨by rw[ml'];exact(List.getElem?_eq_some_iff.mp e1).1,j,h3,e2⟩,e1⟩
theorem Prj.good{os S S':List Nat}{en:List Bool}(P:Prj os S' S):goodS en S=goodS (os.map (bit en)) S':=by
  have key:∀{j k:Nat},os[j]? = some k→bit (os.map (bit en)) j=bit en k:=fun{j k} h=>by
    show(os.map (bit en)).getD j false=_
    rw[List.getD_eq_getElem?_getD,List.getElem?_map,h];rfl
  unfold goodS
  rw[Bool.eq_iff_iff,List.any_eq_true,List.any_eq_true]
  refine⟨fun⟨k,h1,h2⟩=>?_,fun⟨j,h1,h2⟩=>?_⟩
  · obtain⟨j,h3,h4⟩:=P.2 k h1
    exact⟨j,h3,by rw[key h4];exact h2⟩
  · obtain⟨k,h3,h4⟩:=P.1 j h1
    exact⟨k,h3,by rw[← key h4];exact h2⟩
structure Lst(st en:List Bool)(ts:List (List (List Bool)))(n N:Nat)(σ:List Nat)(m:Nat):Prop where
  run:Run st ts N
  len:(bfs st ts N).length=N
  n20:N≤20
  n1:1≤N
  ok:TOk ts n (bfs st ts N)
  srt:Srt (csM st ts N) (esM st ts en N) N σ m
theorem at_idx{Ts:List (List Nat)}{x:List Nat}(h:x∈Ts):Ts[Ts.idxOf x]? = some x:=by
  have a:=List.idxOf_lt_length_iff.mpr h
  rw[List.getElem?_eq_getElem a,List.getElem_idxOf]
theorem col_at{Ts:List (List Nat)}{mt:List (List Bool)}{i:Nat}{S:List Nat}(h:Ts[i]? = some S):gD (colS Ts mt) i=Ts.idxOf (nxtS mt S):=by
  show(colS Ts mt).getD i 0=_
  unfold colS
  rw[List.getD_eq_getElem?_getD,List.getElem?_map,h];rfl
theorem es_at{Ts:List (List Nat)}{en:List Bool}{i:Nat}{S:List Nat}(h:Ts[i]? = some S):bit (Ts.map (goodS en)) i=goodS en S:=by
  show(Ts.map (goodS en)).getD i false=_
  rw[List.getD_eq_getElem?_getD,List.getElem?_map,h];rfl
theorem Lst.same{l:List Nat}{os:List Nat}{n N N' m m':Nat}{st en st' en':List Bool}{ts ts':List (List (List Bool))}{σ σ':List Nat}(O:BMok l n st ts en)(O':BMok l os.length st' ts' en')(D:Dbl os n st en ts st' en' ts')
    (h:Lst st en ts n N σ m) (h':Lst st' en' ts' os.length N' σ' m'):m=m'∧qcs σ m (csM st ts N)=qcs σ' m' (csM st' ts' N')∧qes σ m (esM st ts en N)=qes σ' m' (esM st' ts' en' N'):=by
  have P:Pair (csM st ts N) (csM st' ts' N') (esM st ts en N) (esM st' ts' en' N') N N' (fun i j=>∃S S',(bfs st ts N)[i]? = some S∧(bfs st' ts' N')[j]? = some S'∧Prj os S' S):=by
    refine⟨⟨_,_,pre_at (bfs_le (Nat.zero_le N)) rfl,pre_at (bfs_le (Nat.zero_le N')) rfl,D.fst O.sl⟩,fun i j hi hj ⟨S,S',e1,e2,p⟩=>?_,fun q c c' hc hc' i j hi hj ⟨S,S',e1,e2,p⟩=>?_,?_⟩
    · unfold esM
      rw[es_at e1,es_at e2,D.e]
      exact p.good
    · unfold csM at hc hc'
      rw[List.getElem?_map]at hc hc'
      cases f1:ts[q]? with
      | none=>rw[f1]at hc;cases hc
      | some mt=>
        cases f2:ts'[q]? with
        | none=>rw[f2]at hc';cases hc'
        | some mt'=>
          rw[f1]at hc;rw[f2]at hc'
          cases hc;cases hc'
          have mm:=List.mem_of_getElem? f1
          have mm':=List.mem_of_getElem? f2
          rw[col_at e1,col_at e2]
          exact⟨_,_,at_idx (h.ok.cl mt mm S (List.mem_of_getElem? e1)),at_idx (h'.ok.cl mt' mm' S' (List.mem_of_getElem? e2)),(D.t q mt mt' f1 f2).nxt D.own (O.tb mt mm).1 (O'.tb mt' mm').1 p⟩
    · unfold csM
      rw[List.length_map,List.length_map,O.tl,O'.tl]
  exact q_same P h.srt h'.srt (inord_bfs h.run h.len) (inord_bfs h'.run h'.len) h.n1 h'.n1
def dR(r:List Bool):PyData:=.tuple (r.map PyData.bool)
def dT(m:List (List Bool)):PyData:=.tuple (m.map dR)
def dM(l:List Nat)(st:List Bool)(ts:List (List (List Bool)))(en:List Bool):PyData:=.tuple [.str (tx l),dR st,.tuple (ts.map dT),dR en]
theorem BR.is{r:List Bool}{v:V}{H:Hp}(h:BR r v H):Is K H v (dR r):=by
  obtain⟨p,rfl,h⟩:=h
  exact .tup (SqT.of h) (isAll_bools r)
theorem LT.is{α:Type}{Pd:α→V→Hp→Prop}{d:α→PyData}{H:Hp}(hp:∀r u,Pd r u H→Is K H u (d r)){m:List α}{v:V}(h:LT Pd m v H):Is K H v (.tuple (m.map d)):=by
  obtain⟨p,vs,rfl,h,e⟩:=h
  refine .tup (SqT.of h) (isAll_pt (by rw[List.length_map];exact e.1) fun j v x ev ex=>?_)
  have hj:j < m.length:=by rw[← e.1];exact(List.getElem?_eq_some_iff.mp ev).1
  obtain⟨u,eu,r,er,hr⟩:=e.2 j hj
  rw[eu]at ev;cases ev
  rw[List.getElem?_map,er]at ex
  cases ex
  exact hp r _ hr
theorem BM.is{l:List Nat}{st:List Bool}{ts:List (List (List Bool))}{en:List Bool}{v:V}{H:Hp}(h:BM l st ts en v H):Is K H v (dM l st ts en):=by
  obtain⟨p,a,b,c,rfl,h,h1,h2,h3⟩:=h
  exact .tup (SqT.of h) (.cons (.str _) (.cons h1.is (.cons (LT.is (fun r u q=>LT.is (fun r u q=>BR.is q) q) h2) (.cons h3.is .nil))))
theorem all_deep{ds:List PyData}{k:Nat}(h:∀d∈ds,d.canLay0=true∧d.depth≤k):PyData.canLayAll0 ds=true∧PyData.depthAll ds≤k:=by
  induction ds with
  | nil=>exact⟨by simp[PyData.canLayAll0],by simp[PyData.depthAll]⟩
  | cons d ds ih=>
    obtain⟨a,b⟩:=h d List.mem_cons_self
    obtain⟨c,e⟩:=ih fun x hx=>h x (List.mem_cons_of_mem _ hx)
    exact⟨by simp[PyData.canLayAll0,a,c],by simp[PyData.depthAll];omega⟩
theorem all_nm{ds:List PyData}(h:∀d∈ds,noMix d d=true):noMixAll ds ds=true:=by
  induction ds with
  | nil=>simp[noMixAll]
  | cons d ds ih=>simp[noMixAll,h d List.mem_cons_self,ih fun x hx=>h x (List.mem_cons_of_mem _ hx)]
theorem dR_ok(r:List Bool):((dR r).canLay0=true∧(dR r).depth≤1)∧noMix (dR r) (dR r)=true:=by
  have h:=all_deep (ds:=r.map PyData.bool) (k:=0) fun d hd=>by
    obtain⟨b,_,rfl⟩:=List.mem_map.mp hd
    exact⟨by simp[PyData.canLay0],by simp[PyData.depth]⟩
  refine⟨⟨by rw[dR,PyData.canLay0];exact h.1,by rw[dR,PyData.depth];omega⟩,?_⟩
  rw[dR,noMix]
  exact all_nm fun d hd=>by
    obtain⟨b,_,rfl⟩:=List.mem_map.mp hd
    simp[noMix]
theorem dT_ok(m:List (List Bool)):((dT m).canLay0=true∧(dT m).depth≤2)∧noMix (dT m) (dT m)=true:=by
  have h:=all_deep (ds:=m.map dR) (k:=1) fun d hd=>by
    obtain⟨b,_,rfl⟩:=List.mem_map.mp hd
    exact(dR_ok b).1
  refine⟨⟨by rw[dT,PyData.canLay0];exact h.1,by rw[dT,PyData.depth];omega⟩,?_⟩
  rw[dT,noMix]
  exact all_nm fun d hd=>by
    obtain⟨b,_,rfl⟩:=List.mem_map.mp hd
    exact(dR_ok b).2
theorem dM_ok{l:List Nat}(L:LOk l)(st:List Bool)(ts:List (List (List Bool)))(en:List Bool):shaped (dM l st ts en)=true∧noMix (dM l st ts en) (dM l st ts en)=true:=by
  have h:=all_deep (ds:=ts.map dT) (k:=2) fun d hd=>by
    obtain⟨b,_,rfl⟩:=List.mem_map.mp hd
    exact(dT_ok b).1
  have e1:=(dR_ok st).1
  have e2:=(dR_ok en).1
  have hs:PyData.strOk (tx l)=true:=by
    show l.toArray.all (· < 0x110000)=true
    simp only[List.all_toArray,List.all_eq_true,decide_eq_true_eq]
    exact fun x hx=>Nat.lt_trans (L.as x hx) (by decide)
  have hn:noMixAll (ts.map dT) (ts.map dT)=true:=all_nm fun d hd=>by
    obtain⟨b,_,rfl⟩:=List.mem_map.mp hd
    exact(dT_ok b).2
  refine⟨?_,?_⟩
  · simp[dM,shaped,PyData.canLay0,PyData.canLayAll0,hs,h.1,e1.1,e2.1,PyData.depth,PyData.depthAll]
    omega
  · simp[dM,noMix,noMixAll,(dR_ok st).2,(dR_ok en).2,hn]
def sp_told:Sp:=fun vs H Q _=>∃mv l n st ts en,vs=[mv]∧(BM l st ts en mv H∧BMok l n st ts en)∧
  ∀q x H',Same H H'→H' q=some (.tup [.bl true,x])→(x=.non∨∃N σ m,Lst st en ts n N σ m∧BM l (unitB m 0) (sureT m (qcs σ m (csM st ts N))) (qes σ m (esM st ts en N)) x H')→Q (.ref q) H'
theorem ok_law_told(T:Txt K mg t):FnOk Pr w K mg base CX0 5 t.law_told t.d_law_told ["_law_machine_here"] sp_told:=by
  refine T.F_law_told.ok sc_law_told (fun vs H Q E h=>?_) (fun cdv A outer s H vs Q E hr h=>?_)
  · obtain⟨mv,l,n,st,ts,en,rfl,_⟩:=h
    rfl
  · obtain⟨mv,l,n,st,ts,en,rfl,⟨hM,O⟩,k⟩:=h
    have zl:10000 < sizeLine:=by decide
    have l3:=O.lk.h3
    have l1:=O.lk.h1
    have tl:=O.tl
    refine⟨_,(pss_cons (ps_set (i:=1) sc_law_told.nd rfl (Or.inl rfl) pe_bl) (pss_cons (ps_set (i:=2) sc_law_told.nd rfl (Or.inl rfl) pe_non) (pss_cons (ps_try (i:=3) (psx_one (psx_set (i:=2) sc_law_told.nd rfl (Or.inl rfl) (px_call (okx_least_sure T) hr.m rfl T.m_least_sure T.F_least_sure.kp T.b_least_sure .nil (pa_cons (pv 0) pa_nil)))) rfl rfl sc_law_told.nd rfl rfl rfl T.m_TooGreat (fun _=>(pss_one (ps_set (i:=1) sc_law_told.nd rfl (Or.inl rfl) (pe_and (pe_callB (call_isxK K rfl) (by rfl) T.z_isinstance boot_isinstance (pa_cons (pv 3) (pa_cons (pe_glob (v:=.ref t.WeighError) rfl T.m_WeighError rfl) pa_nil))) (pe_one (pe_callB (call_isxK K rfl) (by rfl) T.z_isinstance boot_isinstance (pa_cons (pv 3) (pa_cons (pe_bltn (v:=.ty "ValueError") rfl T.z_ValueError boot_VE rfl) pa_nil))))))))) (pss_cons (ps_set (i:=4) sc_law_told.nd rfl (Or.inl rfl) (pe_call (ok_law_all_sets T) hr.m rfl T.m_law_all_sets T.F_law_all_sets.kp T.b_law_all_sets .nil pass0 (pa_cons (pv 0) (pa_cons pe_int pa_nil)))) (pss_cons (ps_if (pt_cmpR op_gt (pe_callB call_len (by rfl) T.z_len PySem.boot_len (pa_cons (pv 4) pa_nil)) pe_int (nomark _)) (pss_one (ps_ret (pe_tup (pa_cons (pv 1) (pa_cons pe_non pa_nil))))) pss_nil) (pss_cons (ps_if (pt_val (pv 1)) (pss_one (ps_ret (pe_tup (pa_cons pe_bl (pa_cons pe_non pa_nil))))) pss_nil) (pss_cons (ps_set (i:=5) sc_law_told.nd rfl (Or.inl rfl) (pe_call (ok_law_steps T) hr.m rfl T.m_law_steps T.F_law_steps.kp T.b_law_steps .nil pass0 (pa_cons (pv 2) (pa_cons (pe_ix ix_tup (pv 0) pe_int (fun _ _=>rfl)) pa_nil)))) (pss_cons (ps_if (PW.pt (pw_or (pt_cmpR op_isN (pv 5) pe_non (nomark _)) (pw_or (pt_not (pt_val (pe_call (ok_law_in_order T) hr.m rfl T.m_law_in_order T.F_law_in_order.kp T.b_law_in_order .nil pass0 (pa_cons (pv 5) pa_nil)))) (pw_or1 (pt_not (pt_val (pe_call (ok_law_all_parted T) hr.m rfl T.m_law_all_parted T.F_law_all_parted.kp T.b_law_all_parted .nil pass0 (pa_cons (pv 5) (pa_cons (pe_ix ix_tup (pv 2) pe_int (fun _ _=>rfl)) pa_nil))))))))) (pss_one (ps_ret (pe_tup (pa_cons pe_bl (pa_cons pe_non pa_nil))))) pss_nil) (pss_one (ps_ret (pe_tup (pa_cons (pe_call (ok_law_beside T) hr.m rfl T.m_law_beside T.F_law_beside.kp T.b_law_beside .nil pass0 (pa_cons (pv 0) (pa_cons (pv 4) (pa_cons (pv 2) (pa_cons (pv 5) pa_nil))))) (pa_cons (pv 2) pa_nil))))))))))))),?_⟩
    refine⟨_,rfl,mv,l,n,st,ts,en,rfl,⟨hM,O⟩,fun N σ m av H6 s6 run hN l20 N1 W S hA=>?_,fun i H6 s6 run h20=>⟨_,rfl,T.e_G,fun xa nxa=>?_⟩⟩
    · refine⟨_,rfl,mv,l,n,st,ts,en,rfl,⟨hM.same s6.t,O⟩,fun i' a' H7 s7 sl7 run' hal=>?_⟩
      have ei:=run.uniq run' (.inl (by omega)) hal
      subst ei
      refine⟨_,rfl,_,_,rfl,sl7.len,?_⟩
      refine⟨_,_,rfl,rfl,_,rfl,?_⟩
      refine iteP (fun z=>absurd z (by omega)) (fun _=>?_)
      refine⟨_,rfl,_,rfl,?_⟩
      refine iteN rfl ?_
      have s67:=s6.trans s7
      have mN:=S.st.le
      have mp:=S.st.pos (show 0 < N by omega)
      have qel:(qes σ m (esM st ts en N)).length=m:=by unfold qes;rw[List.length_map,List.length_range]
      have cl:∀c∈qcs σ m (csM st ts N),c.length=m∧∀x∈c,x < m:=fun c hc=>by
        obtain⟨c0,hc0,rfl⟩:=List.mem_map.mp hc
        refine⟨by rw[List.length_map,List.length_range],fun x hx=>?_⟩
        obtain⟨k0,hk0,rfl⟩:=List.mem_map.mp hx
        exact S.lt (S.cl c0 hc0 _ (S.st.fst (List.mem_range.mp hk0)).1)
      have ql:(qcs σ m (csM st ts N)).length=l.length:=by unfold qcs csM;rw[List.length_map,List.length_map,O.tl]
      have C:CsOk l m (qcs σ m (csM st ts N)):=⟨O.lk,mp,by omega,ql,cl⟩
      obtain⟨p,sv,tv,ev,rfl,hp,h1,h2,h3⟩:=id hM
      refine⟨_,rfl,_,rfl,_,_,_,_,rfl,rfl,SqT.of (s67 _ _ hp),rfl,av,l,m,_,_,rfl,⟨hA.same s7.t,qel,C⟩,fun sa H8 s8 hL=>?_⟩
      have io:=q_inord S (inord_bfs run hN) (show 0 < N by omega)
      refine⟨_,rfl,rfl,_,rfl,?_⟩
      refine iteN (by simp) ?_
      refine⟨_,rfl,.ref sa,_,rfl,⟨hL,io,by rw[rowsOf_len];omega,fun r hr=>?_⟩,fun H9 s9=>?_⟩
      · obtain⟨k,_,rfl⟩:=List.mem_map.mp hr
        rw[List.length_map,ql]
        omega
      refine⟨_,rfl,?_⟩
      (try refine iteF ?_)
      have s79:=s8.trans s9
      have hA9:=hA.same (s7.trans s79).t
      have hL9:=hL.same s9
      have hM9:=hM.same (s67.trans s79).t
      have hF9:=sl7.same s79
      obtain⟨ap,asv,atv,aev,rfl,hap,a1,a2,ha3⟩:=id hA9
      show tNot (tB (tCall _ _ _ _)) [some (.ref p),some (.bl false),some (.ref ap),none,some (.ref a'),some (.ref sa)] H9 _
      refine⟨_,rfl,_,rfl,_,_,_,_,rfl,rfl,SqT.of hap,rfl,.ref sa,aev,_,_,m,rfl,⟨hL9,ha3,qel,by omega,by rw[ql];omega,cl,mk_last S mp⟩,fun Hx sx=>?_⟩
      refine⟨_,rfl,?_⟩
      (try refine iteF ?_)
      refine⟨_,rfl,_,rfl,_,rfl,_,rfl,.ref p,a',.ref ap,.ref sa,l,n,st,ts,en,N,σ,m,rfl,⟨hM9.same sx.t,O,hF9.same sx,run,hN,by omega,W,S,hA9.same sx.t,hL9.same sx⟩,fun Hy sy=>?_⟩
      refine⟨_,rfl,(by show 2≤sizeLine;omega),fun rp nrp=>?_⟩
      have t9:=same_upd (o:=.tup [.bl true,.ref ap]) nrp
      exact k rp (.ref ap) _ ((((s67.trans s79).trans sx).trans sy).trans t9) upd_same (.inr ⟨N,σ,m,⟨run,hN,by omega,N1,W,S⟩,hA9.same ((sx.trans sy).trans t9).t⟩)
    · have hx:upd H6 xa (ExcO xa t.TooGreat) xa=some (ExcO xa t.TooGreat):=upd_same
      have t7:=same_upd (o:=ExcO xa t.TooGreat) nxa
      refine⟨_,rfl,_,_,_,_,_,rfl,hx,T.x_TooGreat,rfl,T.k_GW,_,rfl,?_⟩
      (try refine iteT ?_)
      refine⟨_,rfl,_,_,_,_,_,rfl,hx,T.x_TooGreat,rfl,T.k_GV,?_⟩
      refine⟨_,rfl,mv,l,n,st,ts,en,rfl,⟨hM.same (s6.trans t7).t,O⟩,fun i' a' H7 s7 sl7 run' hal=>?_⟩
      have ei:=run.uniq run' (.inr h20) hal
      subst ei
      refine⟨_,rfl,_,_,rfl,sl7.len,?_⟩
      refine⟨_,_,rfl,rfl,_,rfl,?_⟩
      refine iteP (fun z=>?_) (fun z=>absurd (show((bfs st ts i).length:Int) > 20 by omega) z)
      refine⟨_,rfl,(by show 2≤sizeLine;omega),fun rp nrp=>?_⟩
      exact k rp .non _ (((s6.trans t7).trans s7).trans (same_upd nrp)) upd_same (.inl rfl)
def sp_law(K:PySem.W.Frag):Sp:=fun vs H Q _=>∃(a:Addr) (ns:List Int),vs=[.ref a]∧SqL K H a (ns.map V.int)∧ns.length≤63∧∀H',Q (.bl true) H'
theorem ok_law(T:Txt K mg t):FnOk Pr w K mg base CX0 50 t.law t.d_law ["_law_script"] (sp_law K):=by
  refine T.F_law.ok sc_law (fun vs H Q E h=>?_) (fun cdv A outer s H vs Q E hr h=>?_)
  · obtain⟨a,ns,rfl,_⟩:=h
    rfl
  · obtain⟨a0,ns,rfl,hS0,hlen,k⟩:=h
    have zl:10000 < sizeLine:=by decide
    refine⟨_,(pss_cons (ps_set (i:=1) sc_law.nd rfl (Or.inl rfl) (pe_call (ok_law_state T) hr.m rfl T.m_law_state T.F_law_state.kp T.b_law_state .nil pass0 (pa_cons (pv 0) pa_nil))) (pss_cons (ps_set (i:=2) sc_law.nd rfl (Or.inl rfl) (pe_call (ok_law_letters T) hr.m rfl T.m_law_letters T.F_law_letters.kp T.b_law_letters .nil pass0 (pa_cons (pv 1) pa_nil))) (pss_cons (ps_set (i:=3) sc_law.nd rfl (Or.inl rfl) (pe_call (ok_law_machine T) hr.m rfl T.m_law_machine T.F_law_machine.kp T.b_law_machine .nil pass0 (pa_cons (pv 1) (pa_cons (pv 2) (pa_cons (pe_call (ok_law_rooms T) hr.m rfl T.m_law_rooms T.F_law_rooms.kp T.b_law_rooms .nil pass0 (pa_cons (pv 1) (pa_cons pe_int (pa_cons pe_int pa_nil)))) (pa_cons (pe_op op_add pe_int (pe_call (ok_law_next T) hr.m rfl T.m_law_next T.F_law_next.kp T.b_law_next .nil pass0 (pa_cons (pv 1) (pa_cons pe_int pa_nil)))) pa_nil)))))) (pss_cons (ps_asg (pe_call (ok_law_told T) hr.m rfl T.m_law_told T.F_law_told.kp T.b_law_told .nil pass0 (pa_cons (pv 3) pa_nil)) (pg_tup rfl (pgs_cons (pg_name (i:=4) sc_law.nd rfl (Or.inl rfl)) (pgs_cons (pg_name (i:=5) sc_law.nd rfl (Or.inl rfl)) pgs_nil)))) (pss_cons (ps_asg (pe_call (ok_law_told T) hr.m rfl T.m_law_told T.F_law_told.kp T.b_law_told .nil pass0 (pa_cons (pe_call (ok_law_doubled T) hr.m rfl T.m_law_doubled T.F_law_doubled.kp T.b_law_doubled .nil pass0 (pa_cons (pv 1) (pa_cons (pv 3) pa_nil))) pa_nil)) (pg_tup rfl (pgs_cons (pg_name (i:=6) sc_law.nd rfl (Or.inl rfl)) (pgs_cons (pg_name (i:=7) sc_law.nd rfl (Or.inl rfl)) pgs_nil)))) (pss_one (ps_ret (pe_and (pv 4) (pe_and (pv 6) (pe_one (pe_or (pe_cmpR op_isN (pv 5) pe_non (nomark _)) (pe_or (pe_cmpR op_isN (pv 7) pe_non (nomark _)) (pe_one (pe_cmpR (op_eqD hr.units) (pv 5) (pv 7) (nomark _))))))))))))))),?_⟩
    refine⟨_,rfl,a0,ns,rfl,hS0,hlen,fun a H1 na s1 d1=>?_⟩
    refine⟨_,rfl,a,rfl,d1,fun pl l il H2 s2 d2 G i1 i3=>?_⟩
    have L:=G.ok i1 i3
    refine⟨_,rfl,_,rfl,_,rfl,a,6,9,rfl,⟨d2,by decide,by decide,by decide,by decide⟩,fun r H3 s3 d3 r0 r1=>?_⟩
    refine⟨_,rfl,a,4,rfl,⟨d3,by decide,by decide⟩,fun q H4 s4 d4 q0 q1=>?_⟩
    refine⟨_,_,rfl,rfl,a,l,r.toNat,_,_,rfl,⟨d4,L,by omega,by omega,by omega,by omega⟩,fun st ts en mv H5 s5 d5 O hM=>?_⟩
    refine⟨_,rfl,mv,l,r.toNat,st,ts,en,rfl,⟨hM,O⟩,fun p1 x1 H6 s6 k1 o1=>?_⟩
    have d6:=d5.same s6
    have hM6:=hM.same s6.t
    refine⟨p1,_,rfl,SqT.of k1,rfl,?_⟩
    refine⟨_,_,rfl,?_⟩
    refine⟨_,_,rfl,?_⟩
    refine⟨rfl,?_⟩
    refine⟨_,rfl,_,rfl,a,mv,l,r.toNat,st,en,ts,rfl,⟨d6,hM6,O,by omega⟩,fun os st2 ts2 en2 mv2 H7 s7 d7 O2 D hM2=>?_⟩
    refine⟨mv2,l,os.length,st2,ts2,en2,rfl,⟨hM2,O2⟩,fun p2 x2 H8 s8 k2 o2=>?_⟩
    have u68:=(s7.tt d6).trans s8.t
    refine⟨p2,_,rfl,SqT.of k2,rfl,?_⟩
    refine⟨_,_,rfl,?_⟩
    refine⟨_,_,rfl,?_⟩
    refine⟨rfl,?_⟩
    refine⟨_,rfl,_,rfl,iteY rfl ?_⟩
    refine⟨_,rfl,_,rfl,iteY rfl ?_⟩
    refine⟨_,rfl,rfl,_,rfl,?_⟩
    rcases o1 with rfl | ⟨N,σ,m,L1,B1⟩
    · refine iteY (by simp) ?_
      exact k _
    · have B1:=B1.same u68
      obtain⟨y1,_,_,_,rfl,_⟩:=id B1
      refine iteN (by simp) ?_
      refine⟨_,rfl,rfl,_,rfl,?_⟩
      rcases o2 with rfl | ⟨N2,σ2,m2,L2',B2⟩
      · refine iteY (by simp) ?_
        exact k _
      · obtain⟨y2,_,_,_,rfl,_⟩:=id B2
        refine iteN (by simp) ?_
        obtain⟨e1,e2,e3⟩:=L1.same O O2 D L2'
        rw[← e2,← e3,← e1]at B2
        obtain⟨g1,g2⟩:=dM_ok L (unitB m 0) (sureT m (qcs σ m (csM st ts N))) (qes σ m (esM st ts en N))
        refine⟨_,rfl,_,rfl,_,_,B1.is,B2.is,g1,g1,g2,?_⟩
        rw[same_refl]
        exact k _
theorem law_binds(T:Txt K mg t):∀(s:Shared) (u:Value),BindsTo s t.d_law ⟨[u],[]⟩ [("_law_script",u)]:=by
  obtain⟨oc,od,kV,doc,pm,an,cdv,ct,osl,e,_,_⟩:=T.F_law.ex
  rw[e]
  exact fun s u=>.of_eq rfl
end
abbrev NS(K:PySem.W.Frag)(x:Str)(a:Addr):Prop:=PySem.W.nsIn K mainGlobals x=some (some (.ref a))
abbrev KI(K:PySem.W.Frag)(a:Addr):Prop:=PySem.W.keepIn K (.ref a)=true
abbrev FX(K:PySem.W.Frag)(n q:Str)(s:Stmt)(a:Addr):Prop:=∃d,Fun K n q s a d
theorem fx{K:PySem.W.Frag}{x q:Str}{s:Stmt}{f:Addr}{b:Value}{u v:Option Addr}{w:Array (Option Value)}{c d e g j:Value}(l:K.lookup f=some ⟨b,u,.func (PySem.W.fnOf x q (defArgs s) (defBody s) (defScope s) .none c d e v g j),w⟩)(h:PySem.W.codeIn K g q=true)(k:KI K f):FX K x q s f:=⟨_,fun_mk l h k⟩
theorem bn1{K:PySem.W.Frag}{x q:Str}{s:Stmt}{f:Addr}{fd:FuncData}{p0:Str}(F:Fun K x q s f fd)(h:∀(c d e:Value) (v:Option Addr) (g j:Value) (u0:Value),bindArgs (PySem.W.fnOf x q (defArgs s) (defBody s) (defScope s) .none c d e v g j) ⟨[u0],[]⟩=pure (([p0]:List Str).zip [u0]):=by intros;rfl):Binds K fd [p0] []:=F.binds fun c d e v g j us hl=>match us,hl with | [u0],_=>h c d e v g j u0
theorem bn2{K:PySem.W.Frag}{x q:Str}{s:Stmt}{f:Addr}{fd:FuncData}{p0 p1:Str}(F:Fun K x q s f fd)(h:∀(c d e:Value) (v:Option Addr) (g j:Value) (u0 u1:Value),bindArgs (PySem.W.fnOf x q (defArgs s) (defBody s) (defScope s) .none c d e v g j) ⟨[u0,u1],[]⟩=pure (([p0,p1]:List Str).zip [u0,u1]):=by intros;rfl):Binds K fd [p0,p1] []:=F.binds fun c d e v g j us hl=>match us,hl with | [u0,u1],_=>h c d e v g j u0 u1
theorem bn3{K:PySem.W.Frag}{x q:Str}{s:Stmt}{f:Addr}{fd:FuncData}{p0 p1 p2:Str}(F:Fun K x q s f fd)(h:∀(c d e:Value) (v:Option Addr) (g j:Value) (u0 u1 u2:Value),bindArgs (PySem.W.fnOf x q (defArgs s) (defBody s) (defScope s) .none c d e v g j) ⟨[u0,u1,u2],[]⟩=pure (([p0,p1,p2]:List Str).zip [u0,u1,u2]):=by intros;rfl):Binds K fd [p0,p1,p2] []:=F.binds fun c d e v g j us hl=>match us,hl with | [u0,u1,u2],_=>h c d e v g j u0 u1 u2
theorem bn4{K:PySem.W.Frag}{x q:Str}{s:Stmt}{f:Addr}{fd:FuncData}{p0 p1 p2 p3:Str}(F:Fun K x q s f fd)(h:∀(c d e:Value) (v:Option Addr) (g j:Value) (u0 u1 u2 u3:Value),bindArgs (PySem.W.fnOf x q (defArgs s) (defBody s) (defScope s) .none c d e v g j) ⟨[u0,u1,u2,u3],[]⟩=pure (([p0,p1,p2,p3]:List Str).zip [u0,u1,u2,u3]):=by intros;rfl):Binds K fd [p0,p1,p2,p3] []:=F.binds fun c d e v g j us hl=>match us,hl with | [u0,u1,u2,u3],_=>h c d e v g j u0 u1 u2 u3
theorem txt_mk{K:PySem.W.Frag}{h:Heap}{mg:Str→Option Value}(X:K.In h)(G:h.Ns mainGlobals mg){A0 A1 A2 A3 A4 A5 A6 A7 A8 A9 A10 A11 A12 A13 A14 A15 A16 A17 A18 A19 A20 A21 A22 A23 A24 A25 A26 A27 A28 A29 A30 A31 A32 A33 A34:Addr}
 (N0:NS K "Truths" A0)
 (pg0:PySem.W.plainGet K A0 Str.empty=true)
 (hd0:PySem.W.hasDictIn K A0=true)
 (po0:PySem.W.plainOver K A0=true)
 (sa0:PySem.W.findIn K (.ref A0) "__setattr__"=some (some (.builtin "object.__setattr__")))
 (mk0:PySem.W.makesIn K A0=true)
 (kp0:KI K A0)
 (in0:PySem.W.findIn K (.ref A0) "__init__"=some (some (.builtin "object.__init__")))
 (N1:NS K "WeighError" A1)
 (X1:ExcK K A1)
 (N2:NS K "TooGreat" A2)
 (X2:ExcK K A2)
 (n0:PySem.W.findIn K (.ref A0) "nought"=some (some (.ref A3)))
 (i0:PySem.W.isFn K (.ref A3)=true)
 (f0:FX K "nought" "Truths.nought" s_Truths_nought A3)
 (n1:PySem.W.findIn K (.ref A0) "one"=some (some (.ref A4)))
 (i1:PySem.W.isFn K (.ref A4)=true)
 (f1:FX K "one" "Truths.one" s_Truths_one A4)
 (n2:NS K "unit" A5)
 (f2:FX K "unit" "unit" s_unit A5)
 (n3:NS K "first_set" A6)
 (f3:FX K "first_set" "first_set" s_first_set A6)
 (n4:NS K "next_set" A7)
 (f4:FX K "next_set" "next_set" s_next_set A7)
 (n5:NS K "ends_within" A8)
 (f5:FX K "ends_within" "ends_within" s_ends_within A8)
 (n6:NS K "sets_of" A9)
 (f6:FX K "sets_of" "sets_of" s_sets_of A9)
 (n7:NS K "steps_of" A10)
 (f7:FX K "steps_of" "steps_of" s_steps_of A10)
 (n8:NS K "ends_of" A11)
 (f8:FX K "ends_of" "ends_of" s_ends_of A11)
 (n9:NS K "sure_machine" A12)
 (f9:FX K "sure_machine" "sure_machine" s_sure_machine A12)
 (n10:NS K "numbered" A13)
 (f10:FX K "numbered" "numbered" s_numbered A13)
 (n11:NS K "sorts_of" A14)
 (f11:FX K "sorts_of" "sorts_of" s_sorts_of A14)
 (n12:NS K "least_sure" A15)
 (f12:FX K "least_sure" "least_sure" s_least_sure A15)
 (n13:NS K "_law_state" A16)
 (f13:FX K "_law_state" "_law_state" s_law_state A16)
 (n14:NS K "_law_next" A17)
 (f14:FX K "_law_next" "_law_next" s_law_next A17)
 (n15:NS K "_law_rooms" A18)
 (f15:FX K "_law_rooms" "_law_rooms" s_law_rooms A18)
 (n16:NS K "_law_letters" A19)
 (f16:FX K "_law_letters" "_law_letters" s_law_letters A19)
 (n17:NS K "_law_truths" A20)
 (f17:FX K "_law_truths" "_law_truths" s_law_truths A20)
 (n18:NS K "_law_machine" A21)
 (f18:FX K "_law_machine" "_law_machine" s_law_machine A21)
 (n19:NS K "_law_first" A22)
 (f19:FX K "_law_first" "_law_first" s_law_first A22)
 (n20:NS K "_law_after" A23)
 (f20:FX K "_law_after" "_law_after" s_law_after A23)
 (n21:NS K "_law_good" A24)
 (f21:FX K "_law_good" "_law_good" s_law_good A24)
 (n22:NS K "_law_all_sets" A25)
 (f22:FX K "_law_all_sets" "_law_all_sets" s_law_all_sets A25)
 (n23:NS K "_law_row" A26)
 (f23:FX K "_law_row" "_law_row" s_law_row A26)
 (n24:NS K "_law_steps" A27)
 (f24:FX K "_law_steps" "_law_steps" s_law_steps A27)
 (n25:NS K "_law_in_order" A28)
 (f25:FX K "_law_in_order" "_law_in_order" s_law_in_order A28)
 (n26:NS K "_law_spread" A29)
 (f26:FX K "_law_spread" "_law_spread" s_law_spread A29)
 (n27:NS K "_law_doubled" A30)
 (f27:FX K "_law_doubled" "_law_doubled" s_law_doubled A30)
 (n28:NS K "_law_all_parted" A31)
 (f28:FX K "_law_all_parted" "_law_all_parted" s_law_all_parted A31)
 (n29:NS K "_law_beside" A32)
 (f29:FX K "_law_beside" "_law_beside" s_law_beside A32)
 (n30:NS K "_law_told" A33)
 (f30:FX K "_law_told" "_law_told" s_law_told A33)
 (n31:NS K "law" A34)
 (f31:FX K "law" "law" s_law A34)
 (z_tuple:PySem.W.nsIn K mainGlobals "tuple"=some none)
 (z_range:PySem.W.nsIn K mainGlobals "range"=some none)
 (z_enumerate:PySem.W.nsIn K mainGlobals "enumerate"=some none)
 (z_len:PySem.W.nsIn K mainGlobals "len"=some none)
 (z_any:PySem.W.nsIn K mainGlobals "any"=some none)
 {tk_c_MOST_SETS:Tok}
 (c_MOST_SETS:PySem.W.nsIn K mainGlobals "MOST_SETS"=some (some (.int 20 tk_c_MOST_SETS)))
 (z_max:PySem.W.nsIn K mainGlobals "max"=some none)
 (z_isinstance:PySem.W.nsIn K mainGlobals "isinstance"=some none)
 (z_all:PySem.W.nsIn K mainGlobals "all"=some none)
 (z_bool:PySem.W.nsIn K mainGlobals "bool"=some none)
 (z_list:PySem.W.nsIn K mainGlobals "list"=some none)
 (z_int:PySem.W.nsIn K mainGlobals "int"=some none)
 (z_sorted:PySem.W.nsIn K mainGlobals "sorted"=some none)
 (z_set:PySem.W.nsIn K mainGlobals "set"=some none)
 (z_ValueError:PySem.W.nsIn K mainGlobals "ValueError"=some none)
 (k_tt:PySem.W.kitOne K (.type "tuple") (.type "tuple")=some true)
 (k_ll:PySem.W.kitOne K (.type "list") (.type "list")=some true)
 (e_G:PySem.W.exmOne K (.ref A2) (.ref A2)=some true)
 (k_GV:PySem.W.kitOne K (.ref A2) (.type "ValueError")=some true)
 (k_GW:PySem.W.kitOne K (.ref A2) (.ref A1)=some true)
 (k_bb:PySem.W.kitOne K (.type "bool") (.type "bool")=some true)
 : ∃t:Adr,Txt K mg t:=
 have M:∀{x:Str} {v:Value},PySem.W.nsIn K mainGlobals x=some (some v)→mg x=some v:=fun n=>PySem.W.mg_of X G n
 have Z:∀{x:Str},PySem.W.nsIn K mainGlobals x=some none→mg x=none:=fun n=>PySem.W.mg_none_of X G n
 have S:∀{n q:Str} {s:Stmt} {a:Addr} (f:FX K n q s a),Fun K n q s a f.choose:=fun f=>f.choose_spec
 ⟨{ Truths_nought:=A3,d_Truths_nought:=f0.choose,Truths_one:=A4,d_Truths_one:=f1.choose,unit:=A5,d_unit:=f2.choose,first_set:=A6,d_first_set:=f3.choose,next_set:=A7,d_next_set:=f4.choose,ends_within:=A8,d_ends_within:=f5.choose,sets_of:=A9,d_sets_of:=f6.choose,steps_of:=A10,d_steps_of:=f7.choose,ends_of:=A11,d_ends_of:=f8.choose,sure_machine:=A12,d_sure_machine:=f9.choose,numbered:=A13,d_numbered:=f10.choose,sorts_of:=A14,d_sorts_of:=f11.choose,least_sure:=A15,d_least_sure:=f12.choose,law_state:=A16,d_law_state:=f13.choose,law_next:=A17,d_law_next:=f14.choose,law_rooms:=A18,d_law_rooms:=f15.choose,law_letters:=A19,d_law_letters:=f16.choose,law_truths:=A20,d_law_truths:=f17.choose,law_machine:=A21,d_law_machine:=f18.choose,law_first:=A22,d_law_first:=f19.choose,law_after:=A23,d_law_after:=f20.choose,law_good:=A24,d_law_good:=f21.choose,law_all_sets:=A25,d_law_all_sets:=f22.choose,law_row:=A26,d_law_row:=f23.choose,law_steps:=A27,d_law_steps:=f24.choose,law_in_order:=A28,d_law_in_order:=f25.choose,law_spread:=A29,d_law_spread:=f26.choose,law_doubled:=A30,d_law_doubled:=f27.choose,law_all_parted:=A31,d_law_all_parted:=f28.choose,law_beside:=A32,d_law_beside:=f29.choose,law_told:=A33,d_law_told:=f30.choose,law:=A34,d_law:=f31.choose,Truths:=A0,WeighError:=A1,TooGreat:=A2 },
   { F_Truths_nought:=S f0,b_Truths_nought:=bn1 (S f0),t_Truths_nought:=⟨n0,i0,(S f0).kp⟩,F_Truths_one:=S f1,b_Truths_one:=bn1 (S f1),t_Truths_one:=⟨n1,i1,(S f1).kp⟩,F_unit:=S f2,b_unit:=bn3 (S f2),m_unit:=M n2,F_first_set:=S f3,b_first_set:=bn1 (S f3),m_first_set:=M n3,F_next_set:=S f4,b_next_set:=bn2 (S f4),m_next_set:=M n4,F_ends_within:=S f5,b_ends_within:=bn2 (S f5),m_ends_within:=M n5,F_sets_of:=S f6,b_sets_of:=bn1 (S f6),m_sets_of:=M n6,F_steps_of:=S f7,b_steps_of:=bn2 (S f7),m_steps_of:=M n7,F_ends_of:=S f8,b_ends_of:=bn2 (S f8),m_ends_of:=M n8,F_sure_machine:=S f9,b_sure_machine:=bn3 (S f9),m_sure_machine:=M n9,F_numbered:=S f10,b_numbered:=bn1 (S f10),m_numbered:=M n10,F_sorts_of:=S f11,b_sorts_of:=bn2 (S f11),m_sorts_of:=M n11,F_least_sure:=S f12,b_least_sure:=bn1 (S f12),m_least_sure:=M n12,F_law_state:=S f13,b_law_state:=bn1 (S f13),m_law_state:=M n13,F_law_next:=S f14,b_law_next:=bn2 (S f14),m_law_next:=M n14,F_law_rooms:=S f15,b_law_rooms:=bn3 (S f15),m_law_rooms:=M n15,F_law_letters:=S f16,b_law_letters:=bn1 (S f16),m_law_letters:=M n16,F_law_truths:=S f17,b_law_truths:=bn3 (S f17),m_law_truths:=M n17,F_law_machine:=S f18,b_law_machine:=bn4 (S f18),m_law_machine:=M n18,F_law_first:=S f19,b_law_first:=bn1 (S f19),m_law_first:=M n19,F_law_after:=S f20,b_law_after:=bn3 (S f20),m_law_after:=M n20,F_law_good:=S f21,b_law_good:=bn2 (S f21),m_law_good:=M n21,F_law_all_sets:=S f22,b_law_all_sets:=bn2 (S f22),m_law_all_sets:=M n22,F_law_row:=S f23,b_law_row:=bn2 (S f23),m_law_row:=M n23,F_law_steps:=S f24,b_law_steps:=bn2 (S f24),m_law_steps:=M n24,F_law_in_order:=S f25,b_law_in_order:=bn1 (S f25),m_law_in_order:=M n25,F_law_spread:=S f26,b_law_spread:=bn3 (S f26),m_law_spread:=M n26,F_law_doubled:=S f27,b_law_doubled:=bn2 (S f27),m_law_doubled:=M n27,F_law_all_parted:=S f28,b_law_all_parted:=bn2 (S f28),m_law_all_parted:=M n28,F_law_beside:=S f29,b_law_beside:=bn4 (S f29),m_law_beside:=M n29,F_law_told:=S f30,b_law_told:=bn1 (S f30),m_law_told:=M n30,F_law:=S f31,b_law:=bn1 (S f31),m_law:=M n31,C_Truths:=⟨pg0,hd0,po0,sa0⟩,m_Truths:=M N0,M_Truths:=⟨mk0,in0,kp0⟩,m_WeighError:=M N1,x_WeighError:=X1,m_TooGreat:=M N2,x_TooGreat:=X2,z_tuple:=Z z_tuple,z_range:=Z z_range,z_enumerate:=Z z_enumerate,z_len:=Z z_len,z_any:=Z z_any,c_MOST_SETS:=⟨_,M c_MOST_SETS⟩,z_max:=Z z_max,z_isinstance:=Z z_isinstance,z_all:=Z z_all,z_bool:=Z z_bool,z_list:=Z z_list,z_int:=Z z_int,z_sorted:=Z z_sorted,z_set:=Z z_set,z_ValueError:=Z z_ValueError,k_tt:=k_tt,k_ll:=k_ll,e_G:=e_G,k_GV:=k_GV,k_GW:=k_GW,k_bb:=k_bb }⟩
end K63
open PySem PySem.W PyProof.Rows
set_option maxRecDepth 100000 in
set_option maxHeartbeats 0 in
theorem PySem.Challenge.cw_weighwalk_k63_whole_least_sure_holds : PySem.Challenge.rw_weighwalk_k63_whole_least_sure.Holds := by
  w_on;o_law
  refine H63.holds_ (by assumption) ?hw ?hc
  (case hw=>w_witness2)
  unfold H63.hook
  k_fill
  refine L2.walk_ofK (l:=PySem.Challenge.rw_weighwalk_k63_whole_least_sure) (n:=63) (k:=50) (x:="_law_script") (CX:=L2.CX0) (sp:=K63.sp_law) rfl (by decide) rfl ⟨rfl,by decide,by decide⟩ (by decide +kernel) (fun w h Y=>PySem.W.kIn_of Y) ?F ?S ?C
  case F=>
    intro w mg fa h KX G hmg
    have T:∃t,K63.Txt (L2.KOf KX) mg t:=by
      dsimp only[L2.KOf]
      refine' K63.txt_mk KX G ?_ ?_ ?_ ?_ ?_ ?_ ?_ ?_ ?_ ?X1 ?_ ?X2 ?_ ?_ (K63.fx (H63.lk_Truths_nought _) ?_ ?_) ?_ ?_ (K63.fx (H63.lk_Truths_one _) ?_ ?_) ?_ (K63.fx (H63.lk_unit _) ?_ ?_) ?_ (K63.fx (H63.lk_first_set _) ?_ ?_) ?_ (K63.fx (H63.lk_next_set _) ?_ ?_) ?_ (K63.fx (H63.lk_ends_within _) ?_ ?_) ?_ (K63.fx (H63.lk_sets_of _) ?_ ?_) ?_ (K63.fx (H63.lk_steps_of _) ?_ ?_) ?_ (K63.fx (H63.lk_ends_of _) ?_ ?_) ?_ (K63.fx (H63.lk_sure_machine _) ?_ ?_) ?_ (K63.fx (H63.lk_numbered _) ?_ ?_) ?_ (K63.fx (H63.lk_sorts_of _) ?_ ?_) ?_ (K63.fx (H63.lk_least_sure _) ?_ ?_) ?_ (K63.fx (H63.lk__law_state _) ?_ ?_) ?_ (K63.fx (H63.lk__law_next _) ?_ ?_) ?_ (K63.fx (H63.lk__law_rooms _) ?_ ?_) ?_ (K63.fx (H63.lk__law_letters _) ?_ ?_) ?_ (K63.fx (H63.lk__law_truths _) ?_ ?_) ?_ (K63.fx (H63.lk__law_machine _) ?_ ?_) ?_ (K63.fx (H63.lk__law_first _) ?_ ?_) ?_ (K63.fx (H63.lk__law_after _) ?_ ?_) ?_ (K63.fx (H63.lk__law_good _) ?_ ?_) ?_ (K63.fx (H63.lk__law_all_sets _) ?_ ?_) ?_ (K63.fx (H63.lk__law_row _) ?_ ?_) ?_ (K63.fx (H63.lk__law_steps _) ?_ ?_) ?_ (K63.fx (H63.lk__law_in_order _) ?_ ?_) ?_ (K63.fx (H63.lk__law_spread _) ?_ ?_) ?_ (K63.fx (H63.lk__law_doubled _) ?_ ?_) ?_ (K63.fx (H63.lk__law_all_parted _) ?_ ?_) ?_ (K63.fx (H63.lk__law_beside _) ?_ ?_) ?_ (K63.fx (H63.lk__law_told _) ?_ ?_) ?_ (K63.fx (H63.lk_law _) ?_ ?_) ?_ ?_ ?_ ?_ ?_ ?_ ?_ ?_ ?_ ?_ ?_ ?_ ?_ ?_ ?_ ?k_tt ?k_ll ?e_G ?k_GV ?k_GW ?k_bb
      any_goals (show _=_;k_is)
      (case X1 | X2=>exact⟨by kernel_rfl,by kernel_rfl,by kernel_rfl,by kernel_rfl,by kernel_rfl,by kernel_rfl⟩)
      (case k_tt | k_ll | k_bb=>kit_is)
      (case e_G | k_GV | k_GW=>kernel_rfl)
    obtain⟨t,T⟩:=T
    have e0:=hmg.symm.trans T.m_law
    cases e0
    exact⟨_,K63.law_binds T,fun base kb nb=>K63.ok_law T⟩
  case S=>exact fun K H a ns hl hO hS=>⟨a,ns,rfl,hS,hl,fun _=>rfl⟩
  case C=>exact fun _ _ _ _ z=>z
