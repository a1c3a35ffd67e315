import PyProof.Rows.All
import Wide.All
import OpenK.AllK
import Wide.FinOn
import Lean
import PyProof.EqAt
import PyProof.EqKinds
import PyProof.TupleCall
import KE.KRevIter
import KE.KTryMore
import PySem.Challenge.RW_weighwalk_k27_building_refused
set_option Elab.async false
set_option linter.all false
set_option maxRecDepth 100000
namespace L2
open PySem PySem.Spec PyProof.Rows
abbrev Key:=Sum Int Str
def keyIs:Key→Value→Bool
  | .inl k,v=>Value.isInt k v
  | .inr x,v=>Value.isStrOf x v
def keyH(w:World):Key→Int
  | .inl k=>hashInt k
  | .inr x=>hashStr w x
theorem keyIs_shape:∀{k:Key} {v:Value},keyIs k v=true→(∃i t,k=Sum.inl i∧v=Value.int i t)∨(∃x t,k=Sum.inr x∧v=Value.str x t)
  | .inl i,v,h=>by
    obtain⟨t,e⟩:=Value.isInt_shape (k:=i) (v:=v) h
    exact .inl ⟨i,t,rfl,e⟩
  | .inr x,v,h=>by
    obtain⟨t,e⟩:=Value.isStrOf_shape (x:=x) (v:=v) h
    exact .inr ⟨x,t,rfl,e⟩
theorem keyIs_int(i:Int)(t:Tok):keyIs (.inl i) (.int i t)=true:=by simp[keyIs,Value.isInt]
theorem keyIs_str(x:Str)(t:Tok):keyIs (.inr x) (.str x t)=true:=by simp[keyIs,Value.isStrOf]
theorem key_ll(a b:Int):decide ((Sum.inl a:Key)=Sum.inl b)=(a == b):=by
  by_cases e:a=b
  · subst e;simp
  · have h:¬(Sum.inl a:Key)=Sum.inl b:=fun q=>e (Sum.inl.inj q)
    rw[decide_eq_false h]
    exact(beq_eq_false_iff_ne.mpr e).symm
theorem key_rr(a b:Str):decide ((Sum.inr a:Key)=Sum.inr b)=decide (a=b):=by
  by_cases e:a=b
  · subst e;simp
  · have h:¬(Sum.inr a:Key)=Sum.inr b:=fun q=>e (Sum.inr.inj q)
    rw[decide_eq_false h,decide_eq_false e]
theorem key_lr(a:Int)(b:Str):decide ((Sum.inl a:Key)=Sum.inr b)=false:=decide_eq_false (fun q=>nomatch q)
theorem key_rl(a:Str)(b:Int):decide ((Sum.inr a:Key)=Sum.inl b)=false:=decide_eq_false (fun q=>nomatch q)
def mixKind(prog:Program)(w:World):PySem.KeyKind prog w Key where
  is:=keyIs
  hash:=keyH w
  inj:=fun v a b ha hb=>by
    rcases keyIs_shape ha with ⟨i,t,rfl,rfl⟩ | ⟨x,t,rfl,rfl⟩
    · rcases keyIs_shape hb with ⟨j,u,rfl,e⟩ | ⟨y,u,rfl,e⟩
      · injection e with e1 _;rw[e1]
      · exact nomatch e
    · rcases keyIs_shape hb with ⟨j,u,rfl,e⟩ | ⟨y,u,rfl,e⟩
      · exact nomatch e
      · injection e with e1 _;rw[e1]
  byValue:=fun k v h=>by
    rcases keyIs_shape h with ⟨i,t,rfl,rfl⟩ | ⟨x,t,rfl,rfl⟩ <;>rfl
  pyHash:=fun hv h=>by
    rcases keyIs_shape hv with ⟨i,t,rfl,rfl⟩ | ⟨x,t,rfl,rfl⟩
    · exact wpAny_pyHash_int h
    · exact wpAny_pyHash_str h
  eqBool:=fun hu hv h=>by
    rcases keyIs_shape hu with ⟨i,t,rfl,rfl⟩ | ⟨x,t,rfl,rfl⟩
    · rcases keyIs_shape hv with ⟨j,u,rfl,rfl⟩ | ⟨y,u,rfl,rfl⟩
      · rw[key_ll]at h;exact wpAny_eqBool_int h
      · rw[key_lr]at h;exact SeqAt.EqAt.int_str i t y u _ _ _ _ h
    · rcases keyIs_shape hv with ⟨j,u,rfl,rfl⟩ | ⟨y,u,rfl,rfl⟩
      · rw[key_rl]at h;exact SeqAt.EqAt.str_int x t j u _ _ _ _ h
      · rw[key_rr]at h;exact wpAny_eqBool_str h
  «strs»:=fun k x t v h=>by
    rcases keyIs_shape h with ⟨i,u,rfl,e⟩ | ⟨y,u,rfl,e⟩
    · exact nomatch e
    · injection e with e1 _
      subst e1
      cases v <;>rfl
theorem mixKind_int(prog:Program)(w:World)(i:Int)(t:Tok):(mixKind prog w).is (.inl i) (.int i t)=true:=keyIs_int i t
theorem mixKind_str(prog:Program)(w:World)(x:Str)(t:Tok):(mixKind prog w).is (.inr x) (.str x t)=true:=keyIs_str x t
end L2
namespace L2
open PySem PySem.Spec PyProof.Rows
inductive V where
  | non | bl (b:Bool) | int (i:Int) | str (x:Str) | byt (b:Array UInt8) | flt (b:UInt64) | ref (a:Addr) | ty (n:String)
  deriving DecidableEq
def RelV:V→Value→Prop
  | .non,u=>u=Value.none
  | .bl b,u=>u=Value.bool b
  | .int i,u=>∃t,u=Value.int i t
  | .str x,u=>∃t,u=Value.str x t
  | .byt b,u=>∃t,u=Value.bytes b t
  | .flt b,u=>∃t,u=Value.float b t
  | .ref a,u=>u=Value.ref a
  | .ty n,u=>u=Value.type n
abbrev Vals:List V→List Value→Prop:=Paired RelV
theorem Vals.length{xs:List V}{us:List Value}(r:Vals xs us):xs.length=us.length:=Paired.length r
theorem Vals.get:∀{xs:List V} {us:List Value} {i:Nat} {x:V},Vals xs us→xs[i]? = some x→∃u,us[i]? = some u∧RelV x u
  | _,_,_,_,.nil,e=>by simp at e
  | _,_,0,_,.cons r _,e=>by simp at e;subst e;exact⟨_,rfl,r⟩
  | _,_,i+1,x,.cons _ t,e=>by
    obtain⟨u,h1,h2⟩:=Vals.get (i:=i) (x:=x) t (by simpa using e)
    exact⟨u,by simpa using h1,h2⟩
theorem Vals.set{x:V}{u:Value}(r:RelV x u):∀{xs:List V} {us:List Value} (i:Nat),Vals xs us→Vals (xs.set i x) (us.set i u)
  | _,_,_,.nil=>.nil
  | _,_,0,.cons _ t=>.cons r t
  | _,_,i+1,.cons q t=>.cons q (Vals.set r i t)
theorem Vals.append:∀{xs ys:List V} {us ws:List Value},Vals xs us→Vals ys ws→Vals (xs++ys) (us++ws)
  | _,_,_,_,.nil,s=>s
  | _,_,_,_,.cons r t,s=>.cons r (Vals.append t s)
theorem Vals.take:∀{xs:List V} {us:List Value} (n:Nat),Vals xs us→Vals (xs.take n) (us.take n)
  | _,_,0,_=>.nil
  | _,_,_+1,.nil=>.nil
  | _,_,n+1,.cons r t=>.cons r (Vals.take n t)
theorem Vals.drop:∀{xs:List V} {us:List Value} (n:Nat),Vals xs us→Vals (xs.drop n) (us.drop n)
  | _,_,0,r=>r
  | _,_,_+1,.nil=>.nil
  | _,_,n+1,.cons _ t=>Vals.drop n t
theorem Vals.none_of:∀{xs:List V} {us:List Value} {i:Nat},Vals xs us→xs[i]? = none→us[i]? = none:=fun{xs us i} r e=>by
  have h1:=r.length
  have h2:xs.length≤i:=List.getElem?_eq_none_iff.mp e
  exact List.getElem?_eq_none_iff.mpr (by omega)
def RelO:Option V→Option Value→Prop
  | some v,some u=>RelV v u
  | none,none=>True
  | _,_=>False
def KV{κ:Type}:List (κ × V)→List (κ × Value)→Prop:=Paired fun(p:κ × V) (q:κ × Value)=>p.1=q.1∧RelV p.2 q.2
def kV:Key→V
  | .inl i=>.int i
  | .inr x=>.str x
inductive HO where
  | lst (xs:List V)
  | tup (xs:List V)
  | dK (kvs:List (Key × V)) | dT (kvs:List (List Key × V))
  | set (S:Int→Bool) (n:Nat)
  | ins (C dx:Addr) (fs:List (Str × V))
  | own (x:Addr)
  | xd (fs:List (Str × V))
  | met (f x:Addr)
  | rng (lo hi:Int)
  | frz (o:Obj) (u:HO)
  | tbl (ps:Array Value)
  | ext (φ:Heap→Prop)
abbrev Hp:=Addr→Option HO
def upd(H:Hp)(a:Addr)(o:HO):Hp:=fun b=>if b=a then some o else H b
theorem upd_same{H:Hp}{a:Addr}{o:HO}:upd H a o a=some o:=by unfold upd;rw[if_pos rfl]
theorem upd_ne{H:Hp}{a b:Addr}{o:HO}(h:b≠a):upd H a o b=H b:=by unfold upd;rw[if_neg h]
theorem upd_upd{H:Hp}{a:Addr}{o u:HO}:upd (upd H a o) a u=upd H a u:=by
  funext b;unfold upd;split <;>rfl
theorem ne_of_none{H:Hp}{a b:Addr}{o:HO}(h:H a=some o)(h':H b=none):a≠b:=by
  intro e;subst e;rw[h]at h';cases h'
section
variable(P:Program)(w:World)
def ObjOk(H:Hp)(h:Heap)(a:Addr):HO→Prop
  | .lst xs=>xs.length≤sizeLine∧∃(its:List Value) (n:Nat),Vals xs its∧h.get? a=some { cls:=.type "list",data:=.seq its.toArray n }
  | .tup xs=>xs.length≤sizeLine∧∃its:List Value,Vals xs its∧IsTup h a its.toArray∧((∀i y,xs≠[.int i,y])→∃o,h.get? a=some o∧o.dict=none)
  | .dK kvs=>kvs.length≤sizeLine∧(a == sysModules)=false∧∃vs,KV kvs vs∧h.DictOf (mixKind P w) a vs
  | .dT kvs=>kvs.length≤sizeLine∧(a == sysModules)=false∧∃xs:List (List Key × Addr × Value),
      Paired (fun(p:List Key × V) (q:List Key × Addr × Value)=>p.1=q.1∧H q.2.1=some (.tup (p.1.map kV))∧RelV p.2 q.2.2) kvs xs∧
      ∃o es ep,h.get? a=some o∧o.ExactDict∧o.data=.dict es ep∧es.toList=xs.map (entryOfKey (tupleKind (mixKind P w)))∧(xs.map (·.1)).Nodup
  | .set S n=>h.SetOf (intKind P w) a S n
  | .ins C dx fs=>H dx=some (.own a)∧fs.length≤1000∧dx≠a∧h.get? a=some (PySem.W.instObj C dx)∧
      ∃mA,h.Ns1 dx mA∧(∀f,RelO (fs.lookup f) (mA f))∧PySem.Within mA (fs.map (·.1))
  | .own _=>∃o,h.get? a=some o
  | .xd fs=>∃mA,h.Ns1 a mA∧∀f,RelO (fs.lookup f) (mA f)
  | .rng lo hi=>∃t u v,h.get? a=some { cls:=.type "range",data:=.fields #[.int lo t,.int hi u,.int 1 v] }
  | .frz o u=>h.get? a=some o∧ObjOk H h a u
  | .tbl ps=>h.get? a=some { cls:=.none,data:=.fields ps }
  | .met f x=>h.get? a=some (PySem.W.methodObj (.ref f) (.ref x))
  | .ext φ=>φ h∧(∃o,h.get? a=some o)∧∀h1 h2:Heap,φ h1→(∀o,h1.get? a=some o→h2.get? a=some o)→φ h2
def HOk(H:Hp)(h:Heap):Prop:=∀a o,H a=some o→ObjOk P w H h a o
end
section
variable{P:Program}{w:World}{H H':Hp}{h h':Heap}{a:Addr}{o:HO}
theorem ObjOk.lt(x:ObjOk P w H h a o):a < h.objs.size:=by
  cases o with
  | lst xs=>obtain⟨_,_,_,_,e⟩:=x;exact Heap.lt_size e
  | tup xs=>obtain⟨_,_,_,p,_⟩:=x;exact p.lt
  | dK kvs=>obtain⟨_,_,_,_,o,_,_,e,_⟩:=x;exact Heap.lt_size e
  | dT kvs=>obtain⟨_,_,_,_,o,_,_,e,_⟩:=x;exact Heap.lt_size e
  | set S n=>obtain⟨o,_,_,_,e,_⟩:=x;exact Heap.lt_size e
  | ins C dx fs=>obtain⟨_,_,_,e,_⟩:=x;exact Heap.lt_size e
  | own y=>obtain⟨_,e⟩:=x;exact Heap.lt_size e
  | xd fs=>obtain⟨_,⟨_,_,_,e,_⟩,_⟩:=x;exact Heap.lt_size e
  | rng lo hi=>obtain⟨_,_,_,e⟩:=x;exact Heap.lt_size e
  | frz ob u=>obtain⟨e,_⟩:=x;exact Heap.lt_size e
  | tbl ps=>exact Heap.lt_size (show h.get? a=some _ from x)
  | met f y=>exact Heap.lt_size (show h.get? a=some _ from x)
  | ext φ=>obtain⟨_,⟨_,e⟩,_⟩:=x;exact Heap.lt_size e
theorem Paired.mapP{α β:Type}{F G:α→β→Prop}:∀{l₁:List α} {l₂:List β},Paired F l₁ l₂→(∀a b,F a b→G a b)→Paired G l₁ l₂
  | _,_,.nil,_=>.nil
  | _,_,.cons r t,f=>.cons (f _ _ r) (Paired.mapP t f)
theorem ObjOk.stay(x:ObjOk P w H h a o)(k:∀b u,(b=a∨H b=some (.own a))→h.get? b=some u→h'.get? b=some u)
    (ho:∀b,H b=some (.own a)→H' b=some (.own a)) (ht:∀b xs,H b=some (.tup xs)→H' b=some (.tup xs)):ObjOk P w H' h' a o:=by
  induction o with
  | lst xs=>obtain⟨z,its,n,r,e⟩:=x;exact⟨z,its,n,r,k _ _ (.inl rfl) e⟩
  | tup xs=>obtain⟨z,its,r,⟨ob,e,c⟩,d⟩:=x;exact⟨z,its,r,⟨ob,k _ _ (.inl rfl) e,c⟩,fun nx=>let⟨o,e2,d2⟩:=d nx;⟨o,k _ _ (.inl rfl) e2,d2⟩⟩
  | dK kvs=>obtain⟨z,y,vs,r,ob,es,ep,e,c⟩:=x;exact⟨z,y,vs,r,ob,es,ep,k _ _ (.inl rfl) e,c⟩
  | dT kvs=>
    obtain⟨z,y,xs,r,ob,es,ep,e,c⟩:=x
    exact⟨z,y,xs,Paired.mapP r fun p q z=>⟨z.1,ht _ _ z.2.1,z.2.2⟩,ob,es,ep,k _ _ (.inl rfl) e,c⟩
  | set S n=>obtain⟨ob,es,ep,t,e,c⟩:=x;exact⟨ob,es,ep,t,k _ _ (.inl rfl) e,c⟩
  | ins C dx fs=>
    obtain⟨d,z,ne,e,mA,⟨od,es,ep,e2,c⟩,r⟩:=x
    exact⟨ho _ d,z,ne,k _ _ (.inl rfl) e,mA,⟨od,es,ep,k _ _ (.inr d) e2,c⟩,r⟩
  | own y=>obtain⟨ob,e⟩:=x;exact⟨ob,k _ _ (.inl rfl) e⟩
  | xd fs=>obtain⟨mA,⟨od,es,ep,e,c⟩,r⟩:=x;exact⟨mA,⟨od,es,ep,k _ _ (.inl rfl) e,c⟩,r⟩
  | rng lo hi=>obtain⟨t,u,v,e⟩:=x;exact⟨t,u,v,k _ _ (.inl rfl) e⟩
  | frz ob u ih=>obtain⟨e,q⟩:=x;exact⟨k _ _ (.inl rfl) e,ih q⟩
  | tbl ps=>
    have e:h.get? a=some { cls:=.none,data:=.fields ps }:=x
    show h'.get? a=some { cls:=.none,data:=.fields ps }
    exact k a _ (.inl rfl) e
  | met f y=>
    have e:h.get? a=some (PySem.W.methodObj (.ref f) (.ref y)):=x
    show h'.get? a=some (PySem.W.methodObj (.ref f) (.ref y))
    exact k a _ (.inl rfl) e
  | ext φ=>obtain⟨p,⟨o,e⟩,st⟩:=x;exact⟨st _ _ p fun o q=>k _ _ (.inl rfl) q,⟨o,k _ _ (.inl rfl) e⟩,st⟩
theorem HOk.lt(x:HOk P w H h)(e:H a=some o):a < h.objs.size:=(x a o e).lt
theorem HOk.fresh(x:HOk P w H h)(e:h.objs.size≤a):H a=none:=by
  cases q:H a with
  | none=>rfl
  | some u=>exact absurd (Nat.lt_of_lt_of_le (x.lt q) e) (Nat.lt_irrefl _)
theorem HOk.kept(x:HOk P w H h)(k:∀b u,h.get? b=some u→h'.get? b=some u):HOk P w H h':=fun a o e=>
  (x a o e).stay (fun b u _ q=>k b u q) (fun _ q=>q) fun _ _ q=>q
theorem HOk.laid(x:HOk P w H h)(k:∀b u,h.get? b=some u→h'.get? b=some u)(hp:h.objs.size≤a)(new:ObjOk P w (upd H a o) h' a o):HOk P w (upd H a o) h':=fun b u e=>by
  have hn:=x.fresh hp
  by_cases hb:b=a
  · subst hb;rw[upd_same]at e;cases e;exact new
  · rw[upd_ne hb]at e
    exact(x b u e).stay (fun c v _ q=>k c v q) (fun c q=>by rw[upd_ne (ne_of_none q hn)];exact q) fun c xs q=>by rw[upd_ne (ne_of_none q hn)];exact q
end
def Rd(H:Hp)(a:Addr)(u:HO):Prop:=H a=some u∨∃o,H a=some (.frz o u)
theorem Rd.of{H:Hp}{a:Addr}{u:HO}(h:H a=some u):Rd H a u:=.inl h
theorem Rd.ok{P:Program}{w:World}{H:Hp}{h:Heap}{a:Addr}{u:HO}(r:Rd H a u)(x:HOk P w H h):ObjOk P w H h a u:=by
  rcases r with r | ⟨o,r⟩
  · exact x a u r
  · obtain⟨_,q⟩:=x a _ r
    exact q
def Mut:Option HO→Prop
  | some (.lst _)=>True
  | some (.dK _)=>True
  | some (.dT _)=>True
  | some (.set _ _)=>True
  | some (.ins _ _ _)=>True
  | some (.ext _)=>True
  | _=>False
section
variable{P:Program}{w:World}{H:Hp}{h h':Heap}{x e:Addr}{o':HO}
theorem HOk.write(ok:HOk P w H h)(mu:Mut (H x))(he:e=x∨H e=some (.own x))(k:∀b u,b≠e→h.get? b=some u→h'.get? b=some u)(heo:∃u,h'.get? e=some u)
    (new:ObjOk P w (upd H x o') h' x o'):HOk P w (upd H x o') h':=fun b u q=>by
  have nown:∀c y,H c=some (.own y)→c≠x:=fun c y r z=>by subst z;rw[r]at mu;exact mu
  have ntup:∀c xs,H c=some (.tup xs)→c≠x:=fun c xs r z=>by subst z;rw[r]at mu;exact mu
  by_cases hb:b=x
  · subst hb;rw[upd_same]at q;cases q;exact new
  · rw[upd_ne hb]at q
    by_cases hbe:b=e
    · have q':H b=some (.own x):=by
        rcases he with z | z
        · exact absurd (hbe.trans z) hb
        · rw[hbe];exact z
      rw[q]at q';cases q'
      obtain⟨v,hv⟩:=heo
      exact⟨v,by rw[hbe];exact hv⟩
    · refine(ok b u q).stay (fun c v hc r=>k c v ?_ r) (fun c r=>by rw[upd_ne (nown c b r)];exact r) fun c xs r=>by rw[upd_ne (ntup c xs r)];exact r
      rcases hc with rfl | hc
      · exact hbe
      · rintro rfl
        rcases he with z | z
        · exact nown c b hc z
        · rw[hc]at z;cases z;exact hb rfl
end
structure Un(fs ex:List Addr)(H H':Hp)(h h':Heap):Prop where
  keep:∀b o,h.get? b=some o→H b=none→b ∉ fs→b ∉ ex→h'.get? b=some o
  slot:∀b o,h.get? b=some o→H b=none→b∈fs→b ∉ ex→∃sl,h'.get? b=some { o with slots:=sl }
  free:∀b o,h.get? b=some o→H b=none→b ∉ ex→H' b=none
  there:∀b o,h.get? b=some o→b ∉ ex→∃o',h'.get? b=some o'
  tups:∀b xs,H b=some (.tup xs)→H' b=some (.tup xs)
  frzs:∀b o u,H b=some (.frz o u)→H' b=some (.frz o u)
  tbls:∀b ps,H b=some (.tbl ps)→∃more,H' b=some (.tbl (ps++more))
section
variable{fs fs' ex ex':List Addr}{H H1 H2:Hp}{h h1 h2 h':Heap}{a x e:Addr}{o:HO}
theorem Un.any(u:Un fs ex H H1 h h1){b:Addr}{ob:Obj}(q:h.get? b=some ob)(n:H b=none)(hx:b ∉ ex):∃sl,h1.get? b=some { ob with slots:=sl }:=by
  by_cases hb:b∈fs
  · exact u.slot b ob q n hb hx
  · exact⟨ob.slots,u.keep b ob q n hb hx⟩
theorem Un.trans(a:Un fs ex H H1 h h1)(b:Un fs ex H1 H2 h1 h2):Un fs ex H H2 h h2 where
  keep:=fun c ob q n hc hx=>b.keep c ob (a.keep c ob q n hc hx) (a.free c ob q n hx) hc hx
  slot:=fun c ob q n hc hx=>by
    obtain⟨sl,e1⟩:=a.slot c ob q n hc hx
    obtain⟨sl',e2⟩:=b.slot c _ e1 (a.free c ob q n hx) hc hx
    exact⟨sl',e2⟩
  free:=fun c ob q n hx=>by
    obtain⟨o',e1⟩:=a.there c ob q hx
    exact b.free c o' e1 (a.free c ob q n hx) hx
  there:=fun c ob q hx=>by
    obtain⟨o',e1⟩:=a.there c ob q hx
    exact b.there c o' e1 hx
  tups:=fun c xs q=>b.tups c xs (a.tups c xs q)
  frzs:=fun c ob xs q=>b.frzs c ob xs (a.frzs c ob xs q)
  tbls:=fun c ps q=>by
    obtain⟨m1,e1⟩:=a.tbls c ps q
    obtain⟨m2,e2⟩:=b.tbls c _ e1
    exact⟨m1++m2,by rw[e2,Array.append_assoc]⟩
theorem Un.kept(k:∀b u,h.get? b=some u→h'.get? b=some u):Un fs ex H H h h':=
  ⟨fun b ob q _ _ _=>k b ob q,fun b ob q _ _ _=>⟨ob.slots,k b ob q⟩,fun _ _ _ n _=>n,fun b ob q _=>⟨ob,k b ob q⟩,fun _ _ q=>q,fun _ _ _ q=>q,fun _ ps q=>⟨#[],by rw[q];simp⟩⟩
theorem Un.refl:Un fs ex H H h h:=Un.kept fun _ _ q=>q
theorem Un.laid(k:∀b u,h.get? b=some u→h'.get? b=some u)(hp:h.objs.size≤a)(hn:H a=none):Un fs ex H (upd H a o) h h' where
  keep:=fun b u q _ _ _=>k b u q
  slot:=fun b u q _ _ _=>⟨u.slots,k b u q⟩
  free:=fun b u q n _=>by rw[upd_ne (Nat.ne_of_lt (Nat.lt_of_lt_of_le (Heap.lt_size q) hp))];exact n
  there:=fun b u q _=>⟨u,k b u q⟩
  tups:=fun b xs q=>by rw[upd_ne (ne_of_none q hn)];exact q
  frzs:=fun b u xs q=>by rw[upd_ne (ne_of_none q hn)];exact q
  tbls:=fun b ps q=>⟨#[],by rw[upd_ne (ne_of_none q hn),q];simp⟩
theorem Un.write(mu:Mut (H x))(he:e=x∨H e=some (.own x))(k:∀b u,b≠e→h.get? b=some u→h'.get? b=some u)(heo:∃u,h'.get? e=some u):Un fs ex H (upd H x o) h h':=by
  have hx:∀b,H b=none→b≠x:=fun b n z=>by subst z;rw[n]at mu;exact mu
  have hb:∀b,H b=none→b≠e:=fun b n z=>by
    subst z
    rcases he with r | r
    · exact hx b n r
    · rw[n]at r;cases r
  have hm:∀b u,H b=some u→¬Mut (some u)→b≠x:=fun b u q nm z=>by subst z;rw[q]at mu;exact nm mu
  refine⟨fun b u q n _ _=>k b u (hb b n) q,fun b u q n _ _=>⟨u.slots,k b u (hb b n) q⟩,fun b u q n _=>by rw[upd_ne (hx b n)];exact n,fun b u q _=>?_,
    fun b xs q=>by rw[upd_ne (hm b _ q fun z=>z)];exact q,fun b u xs q=>by rw[upd_ne (hm b _ q fun z=>z)];exact q,fun b ps q=>⟨#[],by rw[upd_ne (hm b _ q fun z=>z),q];simp⟩⟩
  by_cases hbe:b=e
  · subst hbe;exact heo
  · exact⟨u,k b u hbe q⟩
theorem Un.mono(u:Un fs ex H H1 h h1)(hs:∀b∈fs,b∈fs')(hx:∀b∈ex,b∈ex'):Un fs' ex' H H1 h h1:=
  ⟨fun b ob q n hb he=>u.keep b ob q n (fun z=>hb (hs b z)) fun z=>he (hx b z),fun _ _ q n _ he=>u.any q n fun z=>he (hx _ z),fun b ob q n he=>u.free b ob q n fun z=>he (hx b z),fun b ob q he=>u.there b ob q fun z=>he (hx b z),u.tups,u.frzs,u.tbls⟩
end
def trk(h:Heap)(H:Hp):List Addr:=(List.range h.objs.size).filter fun a=>(H a).isSome
def hidT(h:Heap)(H:Hp):Heap:=PySem.W.hideAll h (trk h H)
theorem hidT_size(h:Heap)(H:Hp):(hidT h H).objs.size=h.objs.size:=PySem.W.hideAll_size _ _
theorem hidT_get{h:Heap}{H:Hp}{b:Addr}{o:Obj}(e:h.get? b=some o)(n:H b=none):(hidT h H).get? b=some o:=
  PySem.W.hideAll_get _ e fun hm=>by
    have q:(H b).isSome=true:=(List.mem_filter.mp hm).2
    rw[n]at q;simp at q
theorem of_hidT{h:Heap}{H:Hp}{b:Addr}{o:Obj}(e:(hidT h H).get? b=some o):h.get? b=some o∧H b=none:=by
  have e':h.get? b=some o:=PySem.W.of_hideAll (trk h H) e
  refine⟨e',?_⟩
  cases q:H b with
  | none=>rfl
  | some x=>
    have hm:b∈trk h H:=List.mem_filter.mpr ⟨List.mem_range.mpr (Heap.lt_size e'),by simp[q]⟩
    have z:(hidT h H).get? b=none:=PySem.W.hideAll_none (trk h H) hm
    rw[z]at e;cases e
def allNews(g h:Heap)(L:Addr):List (Addr × Obj):=(List.range h.objs.size).filterMap fun a=>if a=L∨(g.get? a).isSome=true then none else(h.get? a).map fun o=>(a,o)
def rest(g h:Heap)(L d:Addr):List (Addr × Obj):=(allNews g h L).filter fun p=>decide (p.1≠d)
end L2
namespace L2
open PySem PySem.Spec PyProof.Rows
structure Mod(K:PySem.W.Frag)(mg:Str→Option Value)(base:Heap):Prop where
  kin:K.In base
  glob:base.Ns mainGlobals mg
  blt:∃mb,base.Ns builtinsNs mb∧∀x:Str,x≠"__name__"→mb x=bootBuiltins x
  nolimit:base.NoLimit
  seer:base.NoSeer
structure Cx where
  prog:Program
  w:World
  K:PySem.W.Frag
  mg:Str→Option Value
  base:Heap
  A:Around
  N:List Str
  s₀:Shared
  H₀:Hp
  env:Env
  outer:List Env
  stack:List Env
  ex:List Addr
  fn:Str→Bool
  calm:Bool
  pn:List (Addr × Obj)
  xe:Value→Shared→Prop
def frs(l:List Env):List Addr:=l.filterMap (·.frame)
abbrev Cx.fs(X:Cx):List Addr:=frs X.outer
def Vis(sc:Scope)(x:Str):Prop:=sc.names.lookup x=some .local∨sc.names.lookup x=some .cell∨sc.names.lookup x=some .free
def Loc(sc:Scope)(x:Str):Prop:=sc.names.lookup x=some .local∨sc.names.lookup x=some .cell
def Look(env:Env)(h:Heap)(m:Str→Option Value)(x:Str)(u:Value):Prop:=
  (env.kindOf x=some .local∧m x=some u)∨((env.kindOf x=some .cell∨env.kindOf x=some .free)∧∃c,env.cells.lookup x=some c∧h.IsCell c (some u))
structure Cx.Ok(X:Cx):Prop where
  mod:Mod X.K X.mg X.base
  kind:X.env.scope.kind=.function
  glob:X.env.globals=mainGlobals
  blt:X.env.builtins=builtinsNs
  above:X.s₀.heap.objs.size≤X.env.locals
  inj:∀x y c,X.env.cells.lookup x=some c→X.env.cells.lookup y=some c→x=y
  has:∀x,(X.env.kindOf x=some .cell∨X.env.kindOf x=some .free)→∃c,X.env.cells.lookup x=some c
  cab:∀x c,X.fn x=true→X.env.cells.lookup x=some c→X.s₀.heap.objs.size≤c
  hd:X.calm=true→X.A.handled=none
  frames:X.A.frames=some X.stack
  stk:X.stack=X.outer∨(X.stack=X.env::X.outer∧X.env.frame=some X.env.locals)
  exf:∀b∈X.ex,b≠X.env.locals∧∀x c,X.env.cells.lookup x=some c→c≠b
  bs:∀b o,X.base.get? b=some o→X.s₀.heap.get? b=some o∧X.H₀ b=none
  bsz:X.base.objs.size≤X.s₀.heap.objs.size
  noex:∀b o,X.base.get? b=some o→b ∉ X.ex
  exfs:∀b∈X.ex,b ∉ X.fs
  funs:X.s₀.heap.FunFrames X.base X.outer
  frf:∀b∈X.fs,X.H₀ b=none
structure Inv(X:Cx)(pins:List (Addr × Obj))(σ:List (Option V))(H:Hp)(s:Shared):Prop where
  ok:X.Ok
  os:s.os=X.s₀.os
  bare:AllBare s.gens
  base:Un X.fs X.ex X.H₀ H X.s₀.heap s.heap
  loc:∃m,s.heap.Ns X.env.locals m∧∀(i:Nat) (x:Str) (v:V),X.N[i]? = some x→σ[i]? = some (some v)→Vis X.env.scope x→∃u,RelV v u∧Look X.env s.heap m x u
  cell:∀x c,X.env.cells.lookup x=some c→∃v,s.heap.IsCell c v
  free:H X.env.locals=none
  freeC:∀x c,X.env.cells.lookup x=some c→H c=none
  pin:∀p∈X.pn++pins,s.heap.get? p.1=some p.2∧H p.1=none∧p.1≠X.env.locals∧p.1 ∉ X.fs∧∀v,p.2.data≠.cell v
  hok:HOk X.prog X.w H s.heap
  len:σ.length=X.N.length
section
variable{X:Cx}{pins:List (Addr × Obj)}{σ:List (Option V)}{H H':Hp}{s:Shared}{h':Heap}
theorem Cx.Ok.nofr(ok:X.Ok){b:Addr}{o:Obj}(e:X.base.get? b=some o):b ∉ X.fs:=fun hb=>by
  have:=(ok.funs.mem hb).1
  rw[e]at this;cases this
theorem Inv.bs(I:Inv X pins σ H s):∀b o,X.base.get? b=some o→s.heap.get? b=some o∧H b=none:=fun b o e=>
  ⟨I.base.keep b o (I.ok.bs b o e).1 (I.ok.bs b o e).2 (I.ok.nofr e) (I.ok.noex b o e),I.base.free b o (I.ok.bs b o e).1 (I.ok.bs b o e).2 (I.ok.noex b o e)⟩
theorem Inv.bk(I:Inv X pins σ H s):∀b o,X.base.get? b=some o→s.heap.get? b=some o:=fun b o e=>(I.bs b o e).1
theorem Inv.mod(I:Inv X pins σ H s):Mod X.K X.mg X.base:=I.ok.mod
theorem Inv.kIn(I:Inv X pins σ H s):X.K.In s.heap:=I.ok.mod.kin.keeps I.bk
theorem Inv.nolimit(I:Inv X pins σ H s):s.heap.NoLimit:=I.ok.mod.nolimit.keeps I.bk
theorem Inv.fr(I:Inv X pins σ H s):∃m,Fr X.base X.env.locals s.heap m:=
  let⟨m,hn,_⟩:=I.loc
  ⟨m,hn,I.bk,Nat.le_trans I.ok.bsz I.ok.above⟩
theorem Inv.lt(I:Inv X pins σ H s):X.env.locals < s.heap.objs.size:=let⟨_,hn,_⟩:=I.loc;hn.lt
theorem Inv.sz(I:Inv X pins σ H s):X.s₀.heap.objs.size≤s.heap.objs.size:=Nat.le_trans I.ok.above (Nat.le_of_lt I.lt)
theorem Inv.nofs(I:Inv X pins σ H s){a:Addr}(h:s.heap.objs.size≤a):a ∉ X.fs:=fun hb=>by
  obtain⟨_,o,ho,_⟩:=I.ok.funs.mem hb
  exact absurd (Nat.lt_of_lt_of_le (Heap.lt_size ho) (Nat.le_trans I.sz h)) (Nat.lt_irrefl _)
theorem Inv.cne(I:Inv X pins σ H s):∀x c,X.env.cells.lookup x=some c→c≠X.env.locals:=fun x c e z=>by
  obtain⟨v,o,ho,hd⟩:=I.cell x c e
  obtain⟨m,⟨o',es,ep,ho',hd',_⟩,_⟩:=I.loc
  rw[z,ho']at ho;cases ho;rw[hd']at hd;cases hd
theorem Inv.funs(I:Inv X pins σ H s):s.heap.FunFrames X.base X.outer:=by
  have all:∀(l:List Env),(∀b∈frs l,b∈X.fs)→X.s₀.heap.FunFrames X.base l→s.heap.FunFrames X.base l:=by
    intro l
    induction l with
    | nil=>intro _ _;trivial
    | cons env r ih=>
      intro hs hl
      obtain⟨hk,⟨L,o,hf,hn,ho,hd⟩,hr⟩:=hl
      have hL:L∈X.fs:=hs L (by unfold frs;rw[List.filterMap_cons,hf];exact List.mem_cons_self)
      obtain⟨sl,e⟩:=I.base.slot L o ho (I.ok.frf L hL) hL fun z=>I.ok.exfs L z hL
      exact⟨hk,⟨L,_,hf,hn,e,hd⟩,ih (fun b hb=>hs b (by unfold frs;rw[List.filterMap_cons,hf];exact List.mem_cons_of_mem _ hb)) hr⟩
  exact all X.outer (fun _ hb=>hb) I.ok.funs
theorem Inv.stack(I:Inv X pins σ H s):s.heap.FunFrames X.base X.stack:=by
  rcases I.ok.stk with e | ⟨e,hf⟩
  · rw[e];exact I.funs
  · rw[e]
    obtain⟨m,hn,_⟩:=I.loc
    refine .cons (by rw[I.ok.kind];decide) hf hn ?_ I.funs
    exact Heap.get?_none_of_le (Nat.le_trans I.ok.bsz I.ok.above)
theorem Inv.stkSub(I:Inv X pins σ H s):∀b∈frs X.stack,b∈X.env.locals::X.fs:=fun b hb=>by
  rcases I.ok.stk with e | ⟨e,hf⟩
  · rw[e]at hb;exact List.mem_cons_of_mem _ hb
  · rw[e]at hb
    unfold frs at hb
    rw[List.filterMap_cons,hf]at hb
    exact hb
theorem Inv.stkFree(I:Inv X pins σ H s):∀b∈frs X.stack,H b=none:=fun b hb=>by
  rcases List.mem_cons.mp (I.stkSub b hb)with e | hb
  · rw[e];exact I.free
  · obtain⟨_,o,ho,_⟩:=I.ok.funs.mem hb
    exact I.base.free b o ho (I.ok.frf b hb) fun z=>I.ok.exfs b z hb
theorem Inv.step{g':Array GenState}{t':Nat}{d':Drawn}{ch:List Addr}(I:Inv X pins σ H s)
    (hch:∀b∈ch,(b∈X.ex∨X.s₀.heap.objs.size≤b)∧b≠X.env.locals∧(∀x c,X.env.cells.lookup x=some c→c≠b)∧∀p∈X.pn++pins,p.1≠b)
    (keep:∀b o,b≠X.env.locals→b ∉ X.fs→b ∉ ch→s.heap.get? b=some o→H b=none→h'.get? b=some o)
    (slot:∀b o,b≠X.env.locals→b∈X.fs→b ∉ ch→s.heap.get? b=some o→H b=none→∃sl,h'.get? b=some { o with slots:=sl }) (free:∀b o,b ∉ ch→s.heap.get? b=some o→H b=none→H' b=none)
    (there:∀b o,b ∉ ch→s.heap.get? b=some o→∃o',h'.get? b=some o')
    (tups:∀b xs,H b=some (.tup xs)→H' b=some (.tup xs)) (frzs:∀b o u,H b=some (.frz o u)→H' b=some (.frz o u)) (tbls:∀b ps,H b=some (.tbl ps)→∃more,H' b=some (.tbl (ps++more)))
    (ns:∀m,s.heap.Ns X.env.locals m→h'.Ns X.env.locals m) (hok:HOk X.prog X.w H' h') (hg:AllBare g') :
    Inv X pins σ H' { s with heap:=h',gens:=g',drawn:=d',toks:=t' }:=by
  have neL:∀b o,X.s₀.heap.get? b=some o→b≠X.env.locals:=fun b o e=>Nat.ne_of_lt (Nat.lt_of_lt_of_le (Heap.lt_size e) I.ok.above)
  have neC:∀b o,X.s₀.heap.get? b=some o→b ∉ X.ex→b ∉ ch:=fun b o e hx hb=>by
    rcases(hch b hb).1 with z | z
    · exact hx z
    · exact absurd (Nat.lt_of_lt_of_le (Heap.lt_size e) z) (Nat.lt_irrefl _)
  have cellK:∀x c,X.env.cells.lookup x=some c→∀v,s.heap.IsCell c v→h'.IsCell c v:=fun x c e v ⟨o,ho,hd⟩=>by
    have nch:c ∉ ch:=fun z=>(hch c z).2.2.1 x c e rfl
    by_cases hc:c∈X.fs
    · obtain⟨sl,q⟩:=slot c o (I.cne x c e) hc nch ho (I.freeC x c e)
      exact⟨_,q,hd⟩
    · exact⟨o,keep c o (I.cne x c e) hc nch ho (I.freeC x c e),hd⟩
  refine⟨I.ok,I.os,hg,⟨fun b o e n hb hx=>?_,fun b o e n hb hx=>?_,fun b o e n hx=>?_,fun b o e hx=>?_,fun b xs e=>tups b xs (I.base.tups b xs e),fun b o xs e=>frzs b o xs (I.base.frzs b o xs e),fun b ps e=>?_⟩,?_,fun x c e=>?_,?_,fun x c e=>?_,fun p hp=>?_,hok,I.len⟩
  · exact keep b o (neL b o e) hb (neC b o e hx) (I.base.keep b o e n hb hx) (I.base.free b o e n hx)
  · obtain⟨sl,e1⟩:=I.base.slot b o e n hb hx
    obtain⟨sl',e2⟩:=slot b _ (neL b o e) hb (neC b o e hx) e1 (I.base.free b o e n hx)
    exact⟨sl',e2⟩
  · obtain⟨o',e1⟩:=I.base.there b o e hx
    exact free b o' (neC b o e hx) e1 (I.base.free b o e n hx)
  · obtain⟨o',e1⟩:=I.base.there b o e hx
    exact there b o' (neC b o e hx) e1
  · obtain⟨m1,e1⟩:=I.base.tbls b ps e
    obtain⟨m2,e2⟩:=tbls b _ e1
    exact⟨m1++m2,by rw[e2,Array.append_assoc]⟩
  · obtain⟨m,hn,hl⟩:=I.loc
    refine⟨m,ns m hn,fun i x v e1 e2 e3=>?_⟩
    obtain⟨u,r,l⟩:=hl i x v e1 e2 e3
    refine⟨u,r,?_⟩
    rcases l with l | ⟨k,c,e,z⟩
    · exact .inl l
    · exact .inr ⟨k,c,e,cellK x c e _ z⟩
  · obtain⟨v,z⟩:=I.cell x c e
    exact⟨v,cellK x c e v z⟩
  · obtain⟨m,⟨o,_,_,ho,_⟩,_⟩:=I.loc
    exact free _ o (fun z=>(hch _ z).2.1 rfl) ho I.free
  · obtain⟨v,o,ho,hd⟩:=I.cell x c e
    exact free c o (fun z=>(hch c z).2.2.1 x c e rfl) ho (I.freeC x c e)
  · obtain⟨e,n,ne,nf,d⟩:=I.pin p hp
    have nch:p.1 ∉ ch:=fun z=>(hch p.1 z).2.2.2 p hp rfl
    exact⟨keep p.1 p.2 ne nf nch e n,free p.1 p.2 nch e n,ne,nf,d⟩
theorem Inv.un{t':Nat}(I:Inv X pins σ H s)(u:Un X.fs [] H H' s.heap h')(hok:HOk X.prog X.w H' h'):Inv X pins σ H' { s with heap:=h',toks:=t' }:=by
  obtain⟨m,⟨o,es,ep,ho,r⟩,_⟩:=id I.loc
  obtain⟨sl,hL⟩:=u.any ho I.free (by simp)
  exact I.step (g':=s.gens) (d':=s.drawn) (ch:=[]) (fun _ z=>nomatch z) (fun b o _ hb _ e n=>u.keep b o e n hb (by simp)) (fun b o _ hb _ e n=>u.slot b o e n hb (by simp)) (fun b o _ e n=>u.free b o e n (by simp)) (fun b o _ e=>u.there b o e (by simp)) u.tups u.frzs u.tbls (fun m' hm=>by
    obtain⟨o',es',ep',ho',r'⟩:=hm
    rw[ho]at ho';cases ho'
    exact⟨_,es',ep',hL,r'⟩) hok I.bare
theorem Inv.call{g':Array GenState}{t':Nat}{d':Drawn}{ch:List Addr}(I:Inv X pins σ H s)(u:Un (frs X.stack) ch H H' s.heap h')(hok:HOk X.prog X.w H' h')(hg:AllBare g')
    (hch:∀b∈ch,(b∈X.ex∨X.s₀.heap.objs.size≤b)∧b≠X.env.locals∧(∀x c,X.env.cells.lookup x=some c→c≠b)∧∀p∈X.pn++pins,p.1≠b) :
    Inv X pins σ H' { s with heap:=h',gens:=g',drawn:=d',toks:=t' }:=by
  obtain⟨m,⟨o,es,ep,ho,r⟩,_⟩:=id I.loc
  obtain⟨sl,hL⟩:=u.any ho I.free fun z=>(hch _ z).2.1 rfl
  exact I.step (ch:=ch) hch (fun b o hL hb hc e n=>u.keep b o e n (fun z=>(List.mem_cons.mp (I.stkSub b z)).elim hL hb) hc) (fun b o _ _ hc e n=>u.any e n hc) (fun b o hc e n=>u.free b o e n hc) (fun b o hc e=>u.there b o e hc) u.tups u.frzs u.tbls (fun m' hm=>by
    obtain⟨o',es',ep',ho',r'⟩:=hm
    rw[ho]at ho';cases ho'
    exact⟨_,es',ep',hL,r'⟩) hok hg
theorem Inv.turned{t':Nat}{it:Addr}(I:Inv X pins σ H s)(k:∀b o,b≠it→s.heap.get? b=some o→h'.get? b=some o)(hn:H it=none)(hL:it≠X.env.locals)
    (h1:it∈X.ex∨X.s₀.heap.objs.size≤it) (h2:∀x c,X.env.cells.lookup x=some c→c≠it) (h3:∀p∈X.pn++pins,p.1≠it):Inv X pins σ H { s with heap:=h',toks:=t' }:=by
  have nit:∀b u,H b=some u→b≠it:=fun b u e z=>by rw[z,hn]at e;cases e
  refine I.step (g':=s.gens) (d':=s.drawn) (ch:=[it]) (fun b hb=>?_) (fun b o _ _ hc e _=>k b o (fun z=>hc (by simp[z])) e) (fun b o _ _ hc e _=>⟨o.slots,k b o (fun z=>hc (by simp[z])) e⟩) (fun _ _ _ _ n=>n)
    (fun b o hc e=>⟨o,k b o (fun z=>hc (by simp[z])) e⟩) (fun _ _ e=>e) (fun _ _ _ e=>e) (fun b ps e=>⟨#[],by rw[e];simp⟩) (fun m hm=>?_) (fun b u e=>?_) I.bare
  · have e:b=it:=by simpa using hb
    subst e
    exact⟨h1,hL,h2,h3⟩
  · obtain⟨o,es,ep,ho,r⟩:=hm
    exact⟨o,es,ep,k _ o (Ne.symm hL) ho,r⟩
  · refine(I.hok b u e).stay (fun c v hc q=>k c v ?_ q) (fun _ q=>q) fun _ _ q=>q
    rcases hc with z | z
    · rw[z];exact nit b u e
    · exact nit c _ z
theorem Inv.tok(I:Inv X pins σ H s)(t:Nat):Inv X pins σ H { s with toks:=t }:=I.un (h':=s.heap) (t':=t) Un.refl I.hok
theorem Inv.kept{t':Nat}(I:Inv X pins σ H s)(k:∀b u,s.heap.get? b=some u→h'.get? b=some u):Inv X pins σ H { s with heap:=h',toks:=t' }:=I.un (Un.kept k) (I.hok.kept k)
theorem Inv.laid{a:Addr}{o:HO}{t':Nat}(I:Inv X pins σ H s)(k:∀b u,s.heap.get? b=some u→h'.get? b=some u)(hp:s.heap.objs.size≤a)(new:ObjOk X.prog X.w (upd H a o) h' a o) :
    Inv X pins σ (upd H a o) { s with heap:=h',toks:=t' }:=I.un (Un.laid k hp (I.hok.fresh hp)) (I.hok.laid k hp new)
theorem Inv.write{x e:Addr}{o:HO}{t':Nat}(I:Inv X pins σ H s)(mu:Mut (H x))(he:e=x∨H e=some (.own x))(k:∀b u,b≠e→s.heap.get? b=some u→h'.get? b=some u)(heo:∃u,h'.get? e=some u)
    (new:ObjOk X.prog X.w (upd H x o) h' x o):Inv X pins σ (upd H x o) { s with heap:=h',toks:=t' }:=I.un (Un.write mu he k heo) (I.hok.write mu he k heo new)
theorem Inv.weak{σ':List (Option V)}(I:Inv X pins σ H s)(hl:σ'.length=σ.length)(w:∀(i:Nat) v,σ'[i]? = some (some v)→σ[i]? = some (some v)):Inv X pins σ' H s:=
  ⟨I.ok,I.os,I.bare,I.base,let⟨m,hn,hl'⟩:=I.loc;⟨m,hn,fun i x v e1 e2 e3=>hl' i x v e1 (w i v e2) e3⟩,I.cell,I.free,I.freeC,I.pin,I.hok,hl.trans I.len⟩
theorem Inv.pins_of{pins':List (Addr × Obj)}(I:Inv X pins σ H s)(h:∀p∈pins',s.heap.get? p.1=some p.2∧H p.1=none∧p.1≠X.env.locals∧p.1 ∉ X.fs∧∀v,p.2.data≠.cell v):Inv X pins' σ H s:=
  ⟨I.ok,I.os,I.bare,I.base,I.loc,I.cell,I.free,I.freeC,fun p hp=>(List.mem_append.mp hp).elim (fun z=>I.pin p (List.mem_append_left _ z)) (h p),I.hok,I.len⟩
theorem nodup_ix{N:List Str}(hN:N.Nodup){i j:Nat}{x:Str}(a:N[i]? = some x)(b:N[j]? = some x):i=j:=by
  obtain⟨h1,e1⟩:=List.getElem?_eq_some_iff.mp a
  obtain⟨h2,e2⟩:=List.getElem?_eq_some_iff.mp b
  exact(List.getElem_inj hN).mp (e1.trans e2.symm)
theorem store_ok2{M:Model}{A:Around}{E:Value→Shared→Prop}{i:Nat}{x:Str}{v:V}{u:Value}{Q:Unit→Shared→Prop}(I:Inv X pins σ H s)(hN:X.N.Nodup)(hi:X.N[i]? = some x)(hx:Loc X.env.scope x)(r:RelV v u)
    (h:∀s',Inv X pins (σ.set i (some v)) H s'→(∃a,Heap.SameBut a s.heap s'.heap∧(a=X.env.locals∨X.env.cells.lookup x=some a))→Q () s') (hf:X.fn x=true∨X.env.scope.names.lookup x=some .local:=by first | exact .inl rfl | exact .inr rfl | assumption):wpAny M A (storeName X.env x u) Q E s:=by
  obtain⟨m,hn,hl⟩:=id I.loc
  have hcls:(X.env.scope.kind == .class || (X.env.scope.kind == .module && X.env.locals != X.env.globals))=false:=by rw[I.ok.kind];rfl
  have hiσ:i < σ.length:=by rw[I.len];exact(List.getElem?_eq_some_iff.mp hi).1
  have cne:=I.cne
  have tracked:∀{a:Addr} {h':Heap},(∃o,s.heap.get? a=some o∧H a=none)→Heap.SameBut a s.heap h'→HOk X.prog X.w H h':=fun{a h'} ha hs b ob e=>by
    obtain⟨_,_,hfree⟩:=ha
    refine(I.hok b ob e).stay (fun c w' hc q=>(hs.2 c ?_).trans q) (fun _ q=>q) fun _ _ q=>q
    rintro rfl
    rcases hc with rfl | hc
    · rw[hfree]at e;cases e
    · rw[hfree]at hc;cases hc
  rcases hx with hk | hk
  · refine wpAny_storeName_local hk hn (fun h' hn' hs=>?_) hcls
    obtain⟨oL,_,_,hoL,_⟩:=id hn
    refine h _ ⟨I.ok,I.os,I.bare,⟨fun b o e n hb hx=>?_,fun b o e n hb hx=>?_,I.base.free,fun b o e hx=>?_,I.base.tups,I.base.frzs,I.base.tbls⟩,⟨_,hn',fun j y v' e1 e2 e3=>?_⟩,fun y c e=>?_,I.free,I.freeC,fun p hp=>?_,tracked ⟨oL,hoL,I.free⟩ hs,by simpa using I.len⟩ ⟨_,hs,.inl rfl⟩
    · exact(hs.2 b (Nat.ne_of_lt (Nat.lt_of_lt_of_le (Heap.lt_size e) I.ok.above))).trans (I.base.keep b o e n hb hx)
    · obtain⟨sl,e1⟩:=I.base.slot b o e n hb hx
      exact⟨sl,(hs.2 b (Nat.ne_of_lt (Nat.lt_of_lt_of_le (Heap.lt_size e) I.ok.above))).trans e1⟩
    · obtain⟨o',e1⟩:=I.base.there b o e hx
      exact⟨o',(hs.2 b (Nat.ne_of_lt (Nat.lt_of_lt_of_le (Heap.lt_size e) I.ok.above))).trans e1⟩
    · by_cases hj:j=i
      · subst hj
        rw[hi]at e1;cases e1
        rw[List.getElem?_set_self hiσ]at e2
        cases e2
        exact⟨u,r,.inl ⟨hk,by simp⟩⟩
      · rw[List.getElem?_set_ne (Ne.symm hj)]at e2
        obtain⟨u',r',q⟩:=hl j y v' e1 e2 e3
        refine⟨u',r',?_⟩
        rcases q with ⟨k,e⟩ | ⟨k,c,e,z⟩
        · refine .inl ⟨k,?_⟩
          have:y≠x:=fun e=>hj (nodup_ix hN e1 (e▸hi))
          simp[this,e]
        · exact .inr ⟨k,c,e,z.sameBut hs (cne y c e)⟩
    · obtain⟨w',z⟩:=I.cell y c e
      exact⟨w',z.sameBut hs (cne y c e)⟩
    · obtain⟨e,n,ne,nf,d⟩:=I.pin p hp
      exact⟨(hs.2 p.1 ne).trans e,n,ne,nf,d⟩
  · have hfn:X.fn x=true:=by
      rcases hf with z | z
      · exact z
      · rw[z]at hk;cases hk
    obtain⟨c,hc⟩:=I.ok.has x (.inl hk)
    obtain⟨w',z⟩:=I.cell x c hc
    refine wpAny_storeName_cell I.ok.kind hk hc z (fun h' hc' hs=>?_)
    obtain⟨oc,hoc,hocd⟩:=id z
    refine h { s with heap:=h' } ⟨I.ok,I.os,I.bare,⟨fun b o e n hb hx=>?_,fun b o e n hb hx=>?_,I.base.free,fun b o e hx=>?_,I.base.tups,I.base.frzs,I.base.tbls⟩,⟨m,hn.sameBut hs (Ne.symm (cne x c hc)),fun j y v' e1 e2 e3=>?_⟩,fun y c' e=>?_,I.free,I.freeC,fun p hp=>?_,tracked ⟨oc,hoc,I.freeC x c hc⟩ hs,by simpa using I.len⟩ ⟨c,hs,.inr hc⟩
    · exact(hs.2 b (Nat.ne_of_lt (Nat.lt_of_lt_of_le (Heap.lt_size e) (I.ok.cab x c hfn hc)))).trans (I.base.keep b o e n hb hx)
    · obtain⟨sl,e1⟩:=I.base.slot b o e n hb hx
      exact⟨sl,(hs.2 b (Nat.ne_of_lt (Nat.lt_of_lt_of_le (Heap.lt_size e) (I.ok.cab x c hfn hc)))).trans e1⟩
    · obtain⟨o',e1⟩:=I.base.there b o e hx
      exact⟨o',(hs.2 b (Nat.ne_of_lt (Nat.lt_of_lt_of_le (Heap.lt_size e) (I.ok.cab x c hfn hc)))).trans e1⟩
    · by_cases hj:j=i
      · subst hj
        rw[hi]at e1;cases e1
        rw[List.getElem?_set_self hiσ]at e2
        cases e2
        exact⟨u,r,.inr ⟨.inl hk,c,hc,hc'⟩⟩
      · rw[List.getElem?_set_ne (Ne.symm hj)]at e2
        obtain⟨u',r',q⟩:=hl j y v' e1 e2 e3
        refine⟨u',r',?_⟩
        rcases q with q | ⟨k,c',e,z'⟩
        · exact .inl q
        · refine .inr ⟨k,c',e,z'.sameBut hs ?_⟩
          rintro rfl
          exact hj (nodup_ix hN e1 (I.ok.inj _ _ _ e hc▸hi))
    · by_cases hcc:c'=c
      · subst hcc;exact⟨_,hc'⟩
      · obtain⟨w2,z2⟩:=I.cell y c' e
        exact⟨w2,z2.sameBut hs hcc⟩
    · obtain⟨e,n,ne,nf,d⟩:=I.pin p hp
      refine⟨(hs.2 p.1 ?_).trans e,n,ne,nf,d⟩
      intro q
      rw[q,hoc]at e
      have q':oc=p.2:=Option.some.inj e
      exact d w' (by rw[← q'];exact hocd)
theorem store_ok{M:Model}{A:Around}{E:Value→Shared→Prop}{i:Nat}{x:Str}{v:V}{u:Value}{Q:Unit→Shared→Prop}(I:Inv X pins σ H s)(hN:X.N.Nodup)(hi:X.N[i]? = some x)(hx:Loc X.env.scope x)(r:RelV v u)
    (h:∀s',Inv X pins (σ.set i (some v)) H s'→Q () s') (hf:X.fn x=true∨X.env.scope.names.lookup x=some .local:=by first | exact .inl rfl | exact .inr rfl | assumption):wpAny M A (storeName X.env x u) Q E s:=
  store_ok2 I hN hi hx r (fun s' I' _=>h s' I') hf
theorem Inv.call'{s':Shared}{ch:List Addr}(I:Inv X pins σ H s)(ho:s'.os=s.os)(u:Un (frs X.stack) ch H H' s.heap s'.heap)(hok:HOk X.prog X.w H' s'.heap)(hg:AllBare s'.gens)
    (hch:∀b∈ch,(b∈X.ex∨X.s₀.heap.objs.size≤b)∧b≠X.env.locals∧(∀x c,X.env.cells.lookup x=some c→c≠b)∧∀p∈X.pn++pins,p.1≠b):Inv X pins σ H' s':=by
  obtain⟨h',g',d',t',o'⟩:=s'
  have e:o'=s.os:=ho
  subst e
  exact I.call (g':=g') (t':=t') (d':=d') u hok hg hch
end
abbrev XK:=Value→Option Addr→Hp→Prop
abbrev St:=List (Option V)
abbrev VK:=V→Hp→Prop
abbrev TE:=St→Hp→VK→Prop
abbrev TT:=St→Hp→(Bool→Hp→Prop)→Prop
abbrev TA:=St→Hp→(List V→Hp→Prop)→Prop
structure Ends where
  nx:St→Hp→Prop
  rt:VK
  bk:St→Hp→Prop:=fun _ _=>False
  ct:St→Hp→Prop:=fun _ _=>False
abbrev TS:=Ends→St→Hp→Prop
def EP(X:Cx)(pins:List (Addr × Obj))(σ:St)(Q:VK)(u:Value)(s':Shared):Prop:=∃v H',Inv X pins σ H' s'∧RelV v u∧Q v H'
def TP(X:Cx)(pins:List (Addr × Obj))(σ:St)(Q:Bool→Hp→Prop)(b:Bool)(s':Shared):Prop:=∃H',Inv X pins σ H' s'∧Q b H'
def AP(X:Cx)(pins:List (Addr × Obj))(σ:St)(Q:List V→Hp→Prop)(us:List Value)(s':Shared):Prop:=∃vs H',Inv X pins σ H' s'∧Vals vs us∧Q vs H'
def SP(X:Cx)(pins:List (Addr × Obj))(D:Ends)(f:Flow)(s':Shared):Prop:=
  match f with
  | .next=>∃σ' H',Inv X pins σ' H' s'∧D.nx σ' H'
  | .brk=>∃σ' H',Inv X pins σ' H' s'∧D.bk σ' H'
  | .cont=>∃σ' H',Inv X pins σ' H' s'∧D.ct σ' H'
  | .ret u=>∃v σ' H',Inv X pins σ' H' s'∧RelV v u∧D.rt v H'
def PE(X:Cx)(e:Expr)(t:TE):Prop:=
  ∀(pins:List (Addr × Obj)) (s:Shared) (σ:St) (H:Hp) (Q:VK),Inv X pins σ H s→t σ H Q→wpAny (model X.prog X.w) X.A (eval e X.env) (EP X pins σ Q) X.xe s
def PT(X:Cx)(e:Expr)(t:TT):Prop:=
  ∀(pins:List (Addr × Obj)) (s:Shared) (σ:St) (H:Hp) (Q:Bool→Hp→Prop),Inv X pins σ H s→t σ H Q→wpAny (model X.prog X.w) X.A (isTrue e X.env (eval e X.env)) (TP X pins σ Q) X.xe s
def PW(X:Cx)(e:Expr)(t:TT):Prop:=
  ∀(whole:Sem Value) (pins:List (Addr × Obj)) (s:Shared) (σ:St) (H:Hp) (Q:Bool→Hp→Prop),Inv X pins σ H s→t σ H Q→wpAny (model X.prog X.w) X.A (isTrue e X.env whole) (TP X pins σ Q) X.xe s
theorem PW.pt{X:Cx}{e:Expr}{t:TT}(h:PW X e t):PT X e t:=h _
def PA(X:Cx)(es:List Expr)(t:TA):Prop:=
  ∀(pos:Pos) (pins:List (Addr × Obj)) (s:Shared) (σ:St) (H:Hp) (Q:List V→Hp→Prop),Inv X pins σ H s→t σ H Q→wpAny (model X.prog X.w) X.A (spliced (backTo pos (starEach es X.env))) (AP X pins σ Q) X.xe s
def PS(X:Cx)(st:Stmt)(t:TS):Prop:=
  ∀(pins:List (Addr × Obj)) (s:Shared) (σ:St) (H:Hp) (D:Ends),Inv X pins σ H s→t D σ H→wpAny (model X.prog X.w) X.A (exec st X.env) (SP X pins D) X.xe s
def PSs(X:Cx)(st:List Stmt)(t:TS):Prop:=
  ∀(pins:List (Addr × Obj)) (s:Shared) (σ:St) (H:Hp) (D:Ends),Inv X pins σ H s→t D σ H→wpAny (model X.prog X.w) X.A (execs st X.env) (SP X pins D) X.xe s
theorem thn{α:Type}{t:Sem α}{Q Q':α→Shared→Prop}{M:Model}{A:Around}{E:Value→Shared→Prop}{s:Shared}(h:wpAny M A t Q E s)(hQ:∀a s,Q a s→Q' a s):wpAny M A t Q' E s:=wpAny_mono h hQ fun _ _ x=>x
end L2
namespace L2
open PySem PySem.Spec PyProof.Rows
section
variable{X:Cx}
def tVar(i:Nat):TE:=fun σ H Q=>∃v,σ[i]? = some (some v)∧Q v H
def tC(v:V):TE:=fun _ H Q=>Q v H
theorem pe_var{i:Nat}{x:Str}{pos:Pos}(hN:X.N[i]? = some x)(hv:Vis X.env.scope x)(hd:(x == ("__debug__":Str))=false:=by decide)(hcd:(x == ("__classdict__":Str))=false:=by decide):PE X (.Name x pos) (tVar i):=by
  intro pins s σ H Q I h
  obtain⟨v,e,h⟩:=h
  obtain⟨m,hn,hl⟩:=I.loc
  obtain⟨u,r,l⟩:=hl i x v hN e hv
  have fin:EP X pins σ Q u s:=⟨v,H,I,r,h⟩
  rcases l with ⟨hk,hm⟩ | ⟨hk,c,hc,hcell⟩
  · exact wpAny_Name (wpAny_loadName_local I.ok.kind hk hn hm fin) hd
  · rcases hk with hk | hk
    · exact wpAny_Name (wpAny_loadName_cell I.ok.kind hk hc hcell fin) hd
    · exact wpAny_Name (wpAny_loadName_free I.ok.kind hk hc hcell fin hcd) hd
theorem pe_int{i j pos}:PE X (.Constant (.int i) j pos) (tC (.int i)):=fun _ _ _ H _ I h=>wpAny_Constant_int ⟨.int i,H,I.tok _,⟨_,rfl⟩,h⟩
theorem pe_bl{b j pos}:PE X (.Constant (.bool b) j pos) (tC (.bl b)):=fun _ _ _ H _ I h=>Constant_bool ⟨.bl b,H,I,rfl,h⟩
theorem pe_non{j pos}:PE X (.Constant .none j pos) (tC .non):=fun _ _ _ H _ I h=>Constant_none ⟨.non,H,I,rfl,h⟩
theorem pe_str{x j pos}:PE X (.Constant (.str x) j pos) (tC (.str x)):=fun _ _ _ H _ I h=>Calls.Constant_str ⟨.str x,H,I.tok _,⟨_,rfl⟩,h⟩
def Gl(X:Cx)(x:Str):Prop:=X.env.kindOf x=some .globalImplicit
theorem ld_glob{E:Value→Shared→Prop}{pins:List (Addr × Obj)}{s:Shared}{σ:St}{H:Hp}{x:Str}{u:Value}{pos:Pos}{Q:Value→Shared→Prop}(I:Inv X pins σ H s)(hg:Gl X x)(hm:X.mg x=some u)(h:Q u s)
    (hd:(x == ("__debug__":Str))=false:=by decide):wpAny (model X.prog X.w) X.A (eval (.Name x pos) X.env) Q E s:=
  Calls.Name_function_global I.ok.kind hg (Calls.loadGlobal_global (by rw[I.ok.glob];exact I.mod.glob.keeps I.bk) hm h) hd
theorem ld_blt{E:Value→Shared→Prop}{pins:List (Addr × Obj)}{s:Shared}{σ:St}{H:Hp}{x:Str}{u:Value}{pos:Pos}{Q:Value→Shared→Prop}(I:Inv X pins σ H s)(hg:Gl X x)(hm:X.mg x=none)(hv:bootBuiltins x=some u)(h:Q u s)
    (hn:x≠"__name__":=by decide) (hd:(x == ("__debug__":Str))=false:=by decide):wpAny (model X.prog X.w) X.A (eval (.Name x pos) X.env) Q E s:=by
  obtain⟨mb,h1,h2⟩:=I.mod.blt
  exact Calls.Name_function_global I.ok.kind hg (Calls.loadGlobal_builtin (by rw[I.ok.glob];exact I.mod.glob.keeps I.bk) hm (by rw[I.ok.blt];exact h1.keeps I.bk) ((h2 x hn).trans hv) h) hd
theorem pe_glob{x:Str}{v:V}{u:Value}{pos:Pos}(hg:Gl X x)(hm:X.mg x=some u)(r:RelV v u)(hd:(x == ("__debug__":Str))=false:=by decide):PE X (.Name x pos) (tC v):=
  fun _ _ _ H _ I h=>ld_glob I hg hm ⟨v,H,I,r,h⟩ hd
theorem pe_bltn{x:Str}{v:V}{u:Value}{pos:Pos}(hg:Gl X x)(hm:X.mg x=none)(hv:bootBuiltins x=some u)(r:RelV v u)(hn:x≠"__name__":=by decide)(hd:(x == ("__debug__":Str))=false:=by decide):PE X (.Name x pos) (tC v):=
  fun _ _ _ H _ I h=>ld_blt I hg hm hv ⟨v,H,I,r,h⟩ hn hd
variable{a b:Expr}{ta tb:TE}{pos:Pos}
def tB(t:TE):TT:=fun σ H Q=>t σ H fun x H1=>∃c,x=.bl c∧Q c H1
theorem pt_val{e:Expr}{t:TE}(h:PE X e t)(he:∀whole,isTrue e X.env whole=(do let v ← whole;standAt e.pos;holding [v] (truthy v)):=by intro _;rfl):PT X e (tB t):=by
  intro pins s σ H Q I hw
  refine isTrue_plain (thn (h pins s σ H _ I hw) fun v s1 ⟨x,H1,I1,r1,q1⟩=>?_) (he _)
  obtain⟨d,rfl,q⟩:=q1
  cases r1
  exact wpAny_truthy_bool ⟨H1,I1,q⟩
variable{tA tB':TT}{rest:List Expr}
def tAnd(t u:TT):TT:=fun σ H Q=>t σ H fun c H1=>if c=true then u σ H1 Q else Q false H1
def tOr(t u:TT):TT:=fun σ H Q=>t σ H fun c H1=>if c=true then Q true H1 else u σ H1 Q
def tNot(t:TT):TT:=fun σ H Q=>t σ H fun c H1=>Q (!c) H1
theorem pw_and1(ha:PT X a tA):PW X (.BoolOp .And [a] pos) tA:=by
  intro wh pins s σ H Q I h
  refine isTrue_and (thn (ha pins s σ H Q I h) fun c s1 e=>?_)
  cases c with
  | true=>exact isTrue_and_nil e
  | false=>exact e
theorem pw_or1(ha:PT X a tA):PW X (.BoolOp .Or [a] pos) tA:=by
  intro wh pins s σ H Q I h
  refine isTrue_or (thn (ha pins s σ H Q I h) fun c s1 e=>?_)
  cases c with
  | false=>exact isTrue_or_nil e
  | true=>exact e
theorem pw_and(ha:PT X a tA)(hb:PW X (.BoolOp .And (b::rest) pos) tB'):PW X (.BoolOp .And (a::b::rest) pos) (tAnd tA tB'):=by
  intro wh pins s σ H Q I h
  refine isTrue_and (thn (ha pins s σ H _ I h) fun c s1 ⟨H1,I1,q1⟩=>?_)
  cases c with
  | true=>exact hb wh pins s1 σ H1 Q I1 q1
  | false=>exact⟨H1,I1,q1⟩
theorem pw_or(ha:PT X a tA)(hb:PW X (.BoolOp .Or (b::rest) pos) tB'):PW X (.BoolOp .Or (a::b::rest) pos) (tOr tA tB'):=by
  intro wh pins s σ H Q I h
  refine isTrue_or (thn (ha pins s σ H _ I h) fun c s1 ⟨H1,I1,q1⟩=>?_)
  cases c with
  | true=>exact⟨H1,I1,q1⟩
  | false=>exact hb wh pins s1 σ H1 Q I1 q1
theorem pt_not(ha:PT X a tA):PT X (.UnaryOp .Not a pos) (tNot tA):=by
  intro pins s σ H Q I h
  exact isTrue_not (ha pins s σ H (fun c H1=>Q (!c) H1) I h)
def tAndV(ta tb:TE):TE:=fun σ H Q=>ta σ H fun x H1=>∃c,x=.bl c∧if c=true then tb σ H1 Q else Q (.bl false) H1
def tOrV(ta tb:TE):TE:=fun σ H Q=>ta σ H fun x H1=>∃c,x=.bl c∧if c=true then Q (.bl true) H1 else tb σ H1 Q
def tNotV(ta:TE):TE:=fun σ H Q=>ta σ H fun x H1=>∃c,x=.bl c∧Q (.bl (!c)) H1
theorem pe_one{op}{t:TE}(h:PE X a t):PE X (.BoolOp op [a] pos) t:=fun pins s σ H Q I hw=>BoolOp_one (h pins s σ H Q I hw)
theorem pe_and(ha:PE X a ta)(hb:PE X (.BoolOp .And (b::rest) pos) tb):PE X (.BoolOp .And (a::b::rest) pos) (tAndV ta tb):=by
  intro pins s σ H Q I h
  refine BoolOp_and (thn (ha pins s σ H _ I h) fun v s1 ⟨x,H1,I1,r1,q1⟩=>?_)
  obtain⟨c,rfl,q1⟩:=q1
  cases r1
  refine wpAny_truthy_bool ?_
  cases c with
  | true=>exact hb pins s1 σ H1 Q I1 q1
  | false=>exact⟨.bl false,H1,I1,rfl,q1⟩
theorem pe_or(ha:PE X a ta)(hb:PE X (.BoolOp .Or (b::rest) pos) tb):PE X (.BoolOp .Or (a::b::rest) pos) (tOrV ta tb):=by
  intro pins s σ H Q I h
  refine BoolOp_or (thn (ha pins s σ H _ I h) fun v s1 ⟨x,H1,I1,r1,q1⟩=>?_)
  obtain⟨c,rfl,q1⟩:=q1
  cases r1
  refine wpAny_truthy_bool ?_
  cases c with
  | false=>exact hb pins s1 σ H1 Q I1 q1
  | true=>exact⟨.bl true,H1,I1,rfl,q1⟩
theorem pe_not(ha:PE X a ta):PE X (.UnaryOp .Not a pos) (tNotV ta):=by
  intro pins s σ H Q I h
  refine UnaryOp_ (thn (ha pins s σ H _ I h) fun v s1 ⟨x,H1,I1,r1,q1⟩=>?_)
  obtain⟨c,rfl,q1⟩:=q1
  cases r1
  exact not_of (wpAny_truthy_bool ⟨.bl (!c),H1,I1,rfl,q1⟩)
def tIf(t:TT)(ta tb:TE):TE:=fun σ H Q=>t σ H fun c H1=>if c=true then ta σ H1 Q else tb σ H1 Q
theorem pe_ifExp{c:Expr}(hc:PT X c tA)(ha:PE X a ta)(hb:PE X b tb):PE X (.IfExp c a b pos) (tIf tA ta tb):=by
  intro pins s σ H Q I h
  refine wpAny_IfExp (thn (hc pins s σ H _ I h) fun d s1 ⟨H1,I1,q1⟩=>?_)
  cases d with
  | true=>exact ha pins s1 σ H1 Q I1 q1
  | false=>exact hb pins s1 σ H1 Q I1 q1
end
end L2
namespace L2
open PySem PySem.Spec PyProof.Rows
def SqL(K:PySem.W.Frag)(H:Hp)(a:Addr)(xs:List V):Prop:=
  Rd H a (.lst xs)∨
    ∃(o:Obj) (its:Array Value) (n:Nat),K.lookup a=some o∧o.cls=.type "list"∧o.dict=none∧o.data=.seq its n∧its.size≤sizeLine∧Vals xs its.toList
def SqT(K:PySem.W.Frag)(H:Hp)(a:Addr)(xs:List V):Prop:=
  Rd H a (.tup xs)∨
    ∃(o:Obj) (its:Array Value) (n:Nat),K.lookup a=some o∧o.cls=.type "tuple"∧o.data=.seq its n∧its.size≤sizeLine∧Vals xs its.toList
def absV:Value→Option V
  | .none=>some .non
  | .bool b=>some (.bl b)
  | .int i _=>some (.int i)
  | .str x _=>some (.str x)
  | .bytes b _=>some (.byt b)
  | .float b _=>some (.flt b)
  | .ref a=>some (.ref a)
  | .type n=>some (.ty n)
  | _=>none
theorem RelV.abs{x:V}{u:Value}(r:RelV x u):absV u=some x:=by
  cases x with
  | non=>cases r;rfl
  | bl _=>cases r;rfl
  | int _=>obtain⟨t,rfl⟩:=r;rfl
  | str _=>obtain⟨t,rfl⟩:=r;rfl
  | byt _=>obtain⟨t,rfl⟩:=r;rfl
  | flt _=>obtain⟨t,rfl⟩:=r;rfl
  | ref _=>cases r;rfl
  | ty _=>cases r;rfl
theorem RelV.inj{x y:V}{u:Value}(r:RelV x u)(q:RelV y u):x=y:=Option.some.inj (r.abs.symm.trans q.abs)
theorem Vals.inj:∀{xs ys:List V} {us:List Value},Vals xs us→Vals ys us→xs=ys
  | _,_,_,.nil,.nil=>rfl
  | _,_,_,.cons r t,.cons r' t'=>by rw[r.inj r',Vals.inj t t']
section
variable{X:Cx}{pins:List (Addr × Obj)}{σ:St}{H:Hp}{s:Shared}{a:Addr}{xs ys:List V}
theorem SqL.of{K:PySem.W.Frag}(h:H a=some (.lst xs)):SqL K H a xs:=.inl (.inl h)
theorem SqT.of{K:PySem.W.Frag}(h:H a=some (.tup xs)):SqT K H a xs:=.inl (.inl h)
theorem Inv.list(I:Inv X pins σ H s)(h:SqL X.K H a xs):∃its:List Value,Vals xs its∧PlainL s.heap a its.toArray∧xs.length≤sizeLine:=by
  rcases h with h | ⟨o,its,n,hk,hc,hd,hs,hz,r⟩
  · obtain⟨z,its,n,r,e⟩:=h.ok I.hok
    exact⟨its,r,⟨_,n,e,rfl,rfl,rfl⟩,z⟩
  · refine⟨its.toList,r,⟨o,n,I.kIn a o hk,hc,hd,by simpa using hs⟩,?_⟩
    have e:=r.length
    simp only[Array.length_toList]at e
    omega
theorem Inv.tuple(I:Inv X pins σ H s)(h:SqT X.K H a xs):∃its:List Value,Vals xs its∧IsTup s.heap a its.toArray∧xs.length≤sizeLine:=by
  rcases h with h | ⟨o,its,n,hk,hc,hs,hz,r⟩
  · obtain⟨z,its,r,p,_⟩:=h.ok I.hok
    exact⟨its,r,p,z⟩
  · refine⟨its.toList,r,⟨o,I.kIn a o hk,hc,n,by simpa using hs⟩,?_⟩
    have e:=r.length
    simp only[Array.length_toList]at e
    omega
theorem Inv.list_inj(I:Inv X pins σ H s)(h:SqL X.K H a xs)(h':SqL X.K H a ys):xs=ys:=by
  obtain⟨its,r,⟨o,n,e,_,_,d⟩,_⟩:=I.list h
  obtain⟨its',r',⟨o',n',e',_,_,d'⟩,_⟩:=I.list h'
  rw[e]at e';cases e'
  rw[d]at d'
  injection d' with d1 _
  have:its=its':=by simpa using congrArg Array.toList d1
  subst this
  exact r.inj r'
theorem Inv.tuple_inj(I:Inv X pins σ H s)(h:SqT X.K H a xs)(h':SqT X.K H a ys):xs=ys:=by
  obtain⟨its,r,⟨o,e,_,n,d⟩,_⟩:=I.tuple h
  obtain⟨its',r',⟨o',e',_,n',d'⟩,_⟩:=I.tuple h'
  rw[e]at e';cases e'
  rw[d]at d'
  injection d' with d1 _
  have:its=its':=by simpa using congrArg Array.toList d1
  subst this
  exact r.inj r'
end
abbrev Cx.wish(X:Cx)(E:Value→Shared→Prop):Cx:={ X with xe:=E }
abbrev Cx.nox(X:Cx):Cx:=X.wish fun _ _=>False
theorem Cx.Ok.wish{X:Cx}(ok:X.Ok)(E:Value→Shared→Prop):(X.wish E).Ok:=
  ⟨ok.mod,ok.kind,ok.glob,ok.blt,ok.above,ok.inj,ok.has,ok.cab,ok.hd,ok.frames,ok.stk,ok.exf,ok.bs,ok.bsz,ok.noex,ok.exfs,ok.funs,ok.frf⟩
theorem Cx.Ok.unwish{X:Cx}{E:Value→Shared→Prop}(ok:(X.wish E).Ok):X.Ok:=
  ⟨ok.mod,ok.kind,ok.glob,ok.blt,ok.above,ok.inj,ok.has,ok.cab,ok.hd,ok.frames,ok.stk,ok.exf,ok.bs,ok.bsz,ok.noex,ok.exfs,ok.funs,ok.frf⟩
section
variable{X:Cx}{pins:List (Addr × Obj)}{σ:St}{H:Hp}{s:Shared}{E:Value→Shared→Prop}
theorem Inv.wish(I:Inv X pins σ H s)(E:Value→Shared→Prop):Inv (X.wish E) pins σ H s:=⟨I.ok.wish E,I.os,I.bare,I.base,I.loc,I.cell,I.free,I.freeC,I.pin,I.hok,I.len⟩
theorem Inv.unwish(I:Inv (X.wish E) pins σ H s):Inv X pins σ H s:=⟨I.ok.unwish,I.os,I.bare,I.base,I.loc,I.cell,I.free,I.freeC,I.pin,I.hok,I.len⟩
theorem SP.unwish{D:Ends}{f:Flow}{s':Shared}(h:SP (X.wish E) pins D f s'):SP X pins D f s':=by
  cases f with
  | next=>obtain⟨σ',H',I,q⟩:=h;exact⟨σ',H',I.unwish,q⟩
  | brk=>obtain⟨σ',H',I,q⟩:=h;exact⟨σ',H',I.unwish,q⟩
  | cont=>obtain⟨σ',H',I,q⟩:=h;exact⟨σ',H',I.unwish,q⟩
  | ret u=>obtain⟨v,σ',H',I,r,q⟩:=h;exact⟨v,σ',H',I.unwish,r,q⟩
theorem PE.nox{e:Expr}{t:TE}(h:PE X.nox e t):PE X e t:=fun pins s σ H Q I hw=>
  wpAny_mono (h pins s σ H Q (I.wish _) hw) (fun _ _ ⟨v,H',I',r,q⟩=>⟨v,H',I'.unwish,r,q⟩) fun _ _ z=>False.elim z
theorem PT.nox{e:Expr}{t:TT}(h:PT X.nox e t):PT X e t:=fun pins s σ H Q I hw=>
  wpAny_mono (h pins s σ H Q (I.wish _) hw) (fun _ _ ⟨H',I',q⟩=>⟨H',I'.unwish,q⟩) fun _ _ z=>False.elim z
theorem PSs.nox{st:List Stmt}{t:TS}(h:PSs X.nox st t):PSs X st t:=fun pins s σ H D I hw=>
  wpAny_mono (h pins s σ H D (I.wish _) hw) (fun _ _ q=>q.unwish) fun _ _ z=>False.elim z
end
section
variable{X:Cx}{st:Stmt}{rest:List Stmt}{t u:TS}{e:Expr}{te:TE}{pos:Pos}
def tNext:TS:=fun D σ H=>D.nx σ H
def tSeq(t u:TS):TS:=fun D σ H=>t { D with nx:=u D } σ H
theorem pss_nil:PSs X [] tNext:=fun _ _ σ H _ I h=>wpAny_execs_nil ⟨σ,H,I,h⟩
theorem pss_cons(h1:PS X st t)(h2:PSs X rest u):PSs X (st::rest) (tSeq t u):=by
  intro pins s σ H D I h
  refine wpAny_execs_cons (thn (h1 pins s σ H { D with nx:=u D } I h) fun f s1 q=>?_)
  cases f with
  | next=>
    obtain⟨σ',H',I',q⟩:=q
    exact h2 pins s1 σ' H' D I' q
  | ret v=>exact q
  | brk=>exact q
  | cont=>exact q
theorem pss_one(h1:PS X st t):PSs X [st] t:=by
  intro pins s σ H D I h
  refine wpAny_execs_cons (thn (h1 pins s σ H D I h) fun f s1 q=>?_)
  cases f with
  | next=>exact wpAny_execs_nil q
  | ret v=>exact q
  | brk=>exact q
  | cont=>exact q
theorem Inv.quiet{pins:List (Addr × Obj)}{σ:St}{H:Hp}{s:Shared}(I:Inv X pins σ H s):interactive X.env=false:=by simp[interactive,I.ok.kind]
def tDrop(te:TE):TS:=fun D σ H=>te σ H fun _ H1=>D.nx σ H1
theorem ps_expr(he:PE X e te)(hs:swapsWith e none pos.line X.env=pure false:=by rfl):PS X (.Expr e pos) (tDrop te):=by
  intro pins s σ H D I h
  exact wpAny_Expr_any (thn (he pins s σ H _ I h) fun v s1 ⟨x,H1,I1,r1,q1⟩=>⟨σ,H1,I1,q1⟩) I.quiet hs
def tRet(te:TE):TS:=fun D σ H=>te σ H D.rt
theorem ps_ret(he:PE X e te):PS X (.Return (some e) pos) (tRet te):=by
  intro pins s σ H D I h
  exact wpAny_Return_some (thn (he pins s σ H _ I h) fun v s1 ⟨x,H1,I1,r1,q1⟩=>⟨x,σ,H1,I1,r1,q1⟩)
def tIfS(c:TT)(t u:TS):TS:=fun D σ H=>c σ H fun b H1=>if b=true then t D σ H1 else u D σ H1
theorem ps_if{c:Expr}{a b:List Stmt}{tc:TT}(hc:PT X c tc)(ha:PSs X a t)(hb:PSs X b u):PS X (.If c a b pos) (tIfS tc t u):=by
  intro pins s σ H D I h
  refine wpAny_If (thn (hc pins s σ H _ I h) fun d s1 ⟨H1,I1,q1⟩=>?_)
  cases d with
  | true=>exact ha pins s1 σ H1 D I1 q1
  | false=>exact hb pins s1 σ H1 D I1 q1
def tNever:TS:=fun _ _ _=>False
theorem ps_never:PS X st tNever:=fun _ _ _ _ _ _ h=>h.elim
theorem pss_never{sts:List Stmt}:PSs X sts tNever:=fun _ _ _ _ _ _ h=>h.elim
end
abbrev TG:=V→St→Hp→(St→Hp→Prop)→Prop
abbrev TGs:=List V→St→Hp→(St→Hp→Prop)→Prop
def PG(X:Cx)(target:Expr)(t:TG):Prop:=
  ∀(pins:List (Addr × Obj)) (s:Shared) (σ:St) (H:Hp) (v:V) (u:Value) (Q:St→Hp→Prop),Inv X pins σ H s→RelV v u→t v σ H Q→
    wpAny (model X.prog X.w) X.A (assign target X.env u) (fun _ s'=>∃σ' H',Inv X pins σ' H' s'∧Q σ' H') X.xe s
def PGs(X:Cx)(ts:List Expr)(t:TGs):Prop:=
  ∀(pins:List (Addr × Obj)) (s:Shared) (σ:St) (H:Hp) (vs:List V) (us:List Value) (Q:St→Hp→Prop),Inv X pins σ H s→Vals vs us→t vs σ H Q→
    wpAny (model X.prog X.w) X.A (assignInOrder ((assignEach ts X.env).map (·.2)) us) (fun _ s'=>∃σ' H',Inv X pins σ' H' s'∧Q σ' H') X.xe s
abbrev TSet:=V→V→V→Hp→(Hp→Prop)→Prop
def PSet(X:Cx)(t:TSet):Prop:=
  ∀(pins:List (Addr × Obj)) (s:Shared) (σ:St) (H:Hp) (o i v:V) (ov iv u:Value) (Q:Hp→Prop),Inv X pins σ H s→RelV o ov→RelV i iv→RelV v u→t o i v H Q→
    wpAny (model X.prog X.w) X.A (setItem ov iv u) (fun _ s'=>∃H',Inv X pins σ H' s'∧Q H') X.xe s
section
variable{X:Cx}{pos:Pos}
def gName(i:Nat):TG:=fun v σ H Q=>Q (σ.set i (some v)) H
theorem pg_name{i:Nat}{x:Str}(hN:X.N.Nodup)(hi:X.N[i]? = some x)(hx:Loc X.env.scope x)(hf:X.fn x=true∨X.env.scope.names.lookup x=some .local:=by first | exact .inl rfl | exact .inr rfl | assumption):PG X (.Name x pos) (gName i):=by
  intro pins s σ H v u Q I r h
  exact wpAny_assign_Name (store_ok I hN hi hx r (fun s' I'=>⟨_,H,I',h⟩) hf)
def gNil:TGs:=fun vs σ H Q=>vs=[]∧Q σ H
def gCons(t:TG)(u:TGs):TGs:=fun vs σ H Q=>∃v r,vs=v::r∧t v σ H fun σ' H'=>u r σ' H' Q
theorem pgs_nil:PGs X [] gNil:=by
  intro pins s σ H vs us Q I r h
  obtain⟨e,h⟩:=h
  subst e
  cases r
  exact assignInOrder_nil ⟨σ,H,I,h⟩
theorem pgs_cons{e:Expr}{es:List Expr}{t:TG}{u:TGs}(h1:PG X e t)(h2:PGs X es u)
    (hs:(assignEach (e::es) X.env).map (·.2)=assign e X.env::(assignEach es X.env).map (·.2):=by rfl):PGs X (e::es) (gCons t u):=by
  intro pins s σ H vs us Q I r h
  obtain⟨v,vr,e1,h⟩:=h
  subst e1
  cases r with
  | cons r rr=>
    rw[hs]
    refine assignInOrder_cons (thn (h1 pins s σ H _ _ _ I r h) fun _ s1 ⟨σ1,H1,I1,q1⟩=>?_)
    exact h2 pins s1 σ1 H1 _ _ Q I1 rr q1
def gTup(K:PySem.W.Frag)(n:Nat)(t:TGs):TG:=fun v σ H Q=>∃a xs,v=.ref a∧SqT K H a xs∧xs.length=n∧t xs σ H Q
theorem pg_tup{es:List Expr}{k:Nat}{t:TGs}{n:Nat}(hc:X.calm=true)(h:PGs X es t)
    (hn:(assignEach es X.env).length=n:=by rfl) (hst:(assignEach es X.env).findIdx? (·.1)=none:=by rfl):PG X (.Tuple es k pos) (gTup X.K n t):=by
  intro pins s σ H v u Q I r hw
  obtain⟨a,xs,e1,hq,hl,hw⟩:=hw
  subst e1
  cases r
  obtain⟨its,rv,ht,hz⟩:=I.tuple hq
  refine assign_Tuple_tuple (I.ok.hd hc) ht (by simp[hn,← hl,rv.length]) hst fun h' hx=>?_
  have I1:Inv X pins σ H { s with heap:=h' }:=I.kept (t':=s.toks) fun b o e=>hx b o (Nat.ne_of_lt (Heap.lt_size e)) e
  exact h pins _ σ H xs _ Q I1 (by simpa using rv) hw
def gSub(to ti:TE)(t:TSet):TG:=fun v σ H Q=>to σ H fun o H1=>ti σ H1 fun i H2=>t o i v H2 fun H3=>Q σ H3
theorem pg_sub{o i:Expr}{to ti:TE}{t:TSet}(ho:PE X o to)(hi:PE X i ti)(hs:PSet X t)
    (ha:∀v,assign (.Subscript o i pos) X.env v=(do
      let ov ← holding [v] (eval o X.env)
      let iv ← holding [v,ov] (eval i X.env)
      standAt pos
      holding [v,ov,iv] (setItem ov iv v)
      release [v,ov,iv] []):=by intro _;rfl):PG X (.Subscript o i pos) (gSub to ti t):=by
  intro pins s σ H v u Q I r h
  rw[ha]
  refine wpAny_bind (wpAny_holding (thn (ho pins s σ H _ I h) fun ov s1 ⟨x,H1,I1,r1,q1⟩=>?_))
  refine wpAny_bind (wpAny_holding (thn (hi pins s1 σ H1 _ I1 q1) fun iv s2 ⟨y,H2,I2,r2,q2⟩=>?_))
  refine wpAny_bind (wpAny_standAt (wpAny_bind (wpAny_holding (thn (hs pins s2 σ H2 x y v ov iv u _ I2 r1 r2 r q2) fun _ s3 ⟨H3,I3,q3⟩=>?_))))
  exact wpAny_release ⟨σ,H3,I3,q3⟩
def tAsg(te:TE)(g:TG):TS:=fun D σ H=>te σ H fun x H1=>g x σ H1 D.nx
theorem ps_asg{tg e:Expr}{te:TE}{g:TG}(he:PE X e te)(hg:PG X tg g)(hs:swapsWithSole [tg] e pos.line X.env=pure false:=by rfl)(hw:swappedStores [tg] e X.env=pure none:=by rfl)
    (h1:(assignEach [tg] X.env).map (·.2)=[assign tg X.env]:=by rfl):PS X (.Assign [tg] e pos) (tAsg te g):=by
  intro pins s σ H D I h
  refine wpAny_Assign_stores (thn (he pins s σ H _ I h) fun v s1 ⟨x,H1,I1,r1,q1⟩=>?_) hs hw
  rw[h1]
  exact thn (hg pins s1 σ H1 x v _ I1 r1 q1) fun _ s2 q=>q
theorem ps_set{i:Nat}{x:Str}{e:Expr}{te:TE}{pos':Pos}(hN:X.N.Nodup)(hi:X.N[i]? = some x)(hx:Loc X.env.scope x)(he:PE X e te)(hs:swapsWith e (some (.Name x pos')) pos.line X.env=pure false:=by rfl)(hf:X.fn x=true∨X.env.scope.names.lookup x=some .local:=by first | exact .inl rfl | exact .inr rfl | assumption) :
    PS X (.Assign [.Name x pos'] e pos) (tAsg te (gName i)):=by
  intro pins s σ H D I h
  refine wpAny_Assign_Name (thn (he pins s σ H _ I h) fun v s1 ⟨y,H1,I1,r1,q1⟩=>?_) hs
  exact store_ok I1 hN hi hx r1 (fun s2 I2=>⟨_,H1,I2,q1⟩) hf
end
section
variable{X:Cx}{pos:Pos}
def tWhile(c:TT)(tb:TS):TS:=fun D σ H=>∃W:Nat→St→Hp→Prop,(∃m,W m σ H)∧∀m σ H,W m σ H→
  c σ H fun b H1=>if b=true then ∃N:St→Hp→Prop,(∀σ' H',N σ' H'→∃m',m' < m∧W m' σ' H')∧tb { D with nx:=N,ct:=N,bk:=D.nx } σ H1 else D.nx σ H1
theorem ps_while{c:Expr}{body:List Stmt}{tc:TT}{tb:TS}(hp:PassesOwn (model X.prog X.w) X.A X.env X.xe)(hc:PT X c tc)(hb:PSs X body tb):PS X (.While c body [] pos) (tWhile tc tb):=by
  intro pins s σ H D I h
  obtain⟨W,⟨m0,w0⟩,turn⟩:=h
  refine wpAny_While (codeAny_whileLoop (fun n s'=>∃σ' H',Inv X pins σ' H' s'∧W n σ' H') ?_ m0 ⟨σ,H,I,w0⟩)
  rintro n s1 ⟨σ1,H1,I1,w1⟩
  refine wpAny_passesOwn hp (thn (hc pins s1 σ1 H1 _ I1 (turn n σ1 H1 w1)) fun b s2 ⟨H2,I2,q2⟩=>?_)
  cases b with
  | true=>
    obtain⟨N,hN,q2⟩:=q2
    rw[if_pos rfl]
    refine wpAny_passesOwn hp (thn (hb pins s2 σ1 H2 _ I2 q2) fun f s3 q3=>?_)
    cases f with
    | next=>
      obtain⟨σ3,H3,I3,n3⟩:=q3
      obtain⟨m',hm,w3⟩:=hN σ3 H3 n3
      exact⟨m',hm,σ3,H3,I3,w3⟩
    | cont=>
      obtain⟨σ3,H3,I3,n3⟩:=q3
      obtain⟨m',hm,w3⟩:=hN σ3 H3 n3
      exact⟨m',hm,σ3,H3,I3,w3⟩
    | brk=>exact q3
    | ret v=>exact q3
  | false=>
    rw[if_neg Bool.false_ne_true]
    exact wpAny_execs_nil ⟨σ1,H2,I2,q2⟩
end
structure It where
  go:Nat→Hp→Prop
  yld:Nat→Hp→V→Hp→Prop
  stop:Nat→Hp→Prop
def FpOk(X:Cx)(pins:List (Addr × Obj))(H:Hp)(b:Addr):Prop:=
  H b=none∧b≠X.env.locals∧b ∉ X.fs∧(b∈X.ex∨X.s₀.heap.objs.size≤b)∧(∀x c,X.env.cells.lookup x=some c→c≠b)∧∀p∈X.pn++pins,p.1≠b
theorem Inv.fpOk{X:Cx}{pins:List (Addr × Obj)}{σ:St}{H H':Hp}{s:Shared}{b:Addr}(I:Inv X pins σ H s)(hb:s.heap.objs.size≤b)(hn:H' b=none):FpOk X pins H' b:=by
  refine⟨hn,Nat.ne_of_gt (Nat.lt_of_lt_of_le I.lt hb),I.nofs hb,.inr (Nat.le_trans I.sz hb),fun x c e z=>?_,fun p hp z=>?_⟩
  · obtain⟨v,q⟩:=I.cell x c e
    exact absurd (Nat.lt_of_lt_of_le q.lt (by rw[z];exact hb)) (Nat.lt_irrefl _)
  · exact absurd (Nat.lt_of_lt_of_le (Heap.lt_size (I.pin p hp).1) (by rw[z];exact hb)) (Nat.lt_irrefl _)
structure Turn(P:Program)(w:World)(K:PySem.W.Frag)(tg:Expr)(J:It)(fp:List Addr)(it:Addr)(tn:Nat→Heap→Prop):Prop where
  mem:it∈fp
  obj:∀i h,tn i h→∀b∈fp,∃o,h.get? b=some o∧∀v,o.data≠.cell v
  keep:∀i h h',tn i h→(∀b∈fp,∀o,h.get? b=some o→h'.get? b=some o)→tn i h'
  item:∀(X:Cx),X.prog=P→X.w=w→X.K=K→X.calm=true→∀(i:Nat) (pins:List (Addr × Obj)) (s:Shared) (σ:St) (H:Hp) (E:Value→Shared→Prop),Inv X pins σ H s→(∀b∈fp,FpOk X pins H b)→tn i s.heap→J.go i H→
    wpAny (model P w) X.A (pyNext (.ref it)) (fun r s1=>∃u,r=some u∧
      wpAny (model P w) X.A (letOwnedTupleGo tg (.ref it) u) (fun _ s2=>∃x H',Inv X pins σ H' s2∧RelV x u∧J.yld i H x H'∧tn (i+1) s2.heap∧∀b∈fp,H' b=none) E s1) E s
  done:∀(X:Cx),X.prog=P→X.w=w→X.K=K→X.calm=true→∀(i:Nat) (pins:List (Addr × Obj)) (s:Shared) (σ:St) (H:Hp) (E:Value→Shared→Prop),Inv X pins σ H s→(∀b∈fp,FpOk X pins H b)→tn i s.heap→J.stop i H→
    wpAny (model P w) X.A (pyNext (.ref it)) (fun r s1=>r=none∧Inv X pins σ H s1) E s
  self:∀(A:Around) (i:Nat) (s:Shared) (Q:Value→Shared→Prop) (E:Value→Shared→Prop),tn i s.heap→Q (.ref it) s→wpAny (model P w) A (pyIter (.ref it)) Q E s
abbrev TI:=St→Hp→(It→Hp→Prop)→Prop
def PIE(X:Cx)(pins:List (Addr × Obj))(σ:St)(tg:Expr)(R:It→Hp→Prop)(itv:Value)(s2:Shared):Prop:=
  ∃(it:Addr) (fp:List Addr) (tn:Nat→Heap→Prop) (J:It) (H':Hp),itv=.ref it∧Inv X pins σ H' s2∧Turn X.prog X.w X.K tg J fp it tn∧tn 0 s2.heap∧(∀b∈fp,FpOk X pins H' b)∧R J H'
def PI(X:Cx)(tg iter:Expr)(wi:TI):Prop:=
  ∀(pins:List (Addr × Obj)) (s:Shared) (σ:St) (H:Hp) (R:It→Hp→Prop),Inv X pins σ H s→wi σ H R→
    wpAny (model X.prog X.w) X.A (eval iter X.env) (fun v s1=>wpAny (model X.prog X.w) X.A (pyIter v) (PIE X pins σ tg R) X.xe s1) X.xe s
theorem go_of{M:Model}{A:Around}{E:Value→Shared→Prop}{s:Shared}{tg:Expr}{it:Addr}{u:Value}{o:Obj}{n:String}{vs:Array Value}{Q:Unit→Shared→Prop}(ho:s.heap.get? it=some o)(hc:o.cls=.type n)(hd:o.data=.fields vs)
    (hn:["enumerate","zip","dict_itemiterator","dict_reverseitemiterator","odict_iterator","itertools.zip_longest","itertools.pairwise"].contains n=false) (hQ:Q () s):wpAny M A (letOwnedTupleGo tg (.ref it) u) Q E s:=by
  unfold letOwnedTupleGo
  cases tg <;>first
    | exact wpAny_pure hQ
    | (cases u <;>first
        | exact wpAny_pure hQ
        | (refine wpAny_bind (wpAny_load ho ?_)
           rw[hc,hd]
           show wpAny M A (if(["enumerate","zip","dict_itemiterator","dict_reverseitemiterator","odict_iterator","itertools.zip_longest","itertools.pairwise"].contains n && vs[0]? == some (rawInt _))=true then _ else _) Q E s
           rw[if_neg (by intro h;rw[hn,Bool.false_and]at h;cases h)]
           exact wpAny_pure hQ))
def Itl(K:PySem.W.Frag)(a:Addr):It:=
  ⟨fun i H=>∃xs x,SqL K H a xs∧xs[i]? = some x,fun i H x H'=>H'=H∧∀xs,SqL K H a xs→xs[i]? = some x,fun i H=>∃xs,SqL K H a xs∧xs.length≤i⟩
def Itt(K:PySem.W.Frag)(a:Addr):It:=
  ⟨fun i H=>∃xs x,SqT K H a xs∧xs[i]? = some x,fun i H x H'=>H'=H∧∀xs,SqT K H a xs→xs[i]? = some x,fun i H=>∃xs,SqT K H a xs∧xs.length≤i⟩
def Itr(lo:Int)(n:Nat):It:=⟨fun i _=>i < n,fun i H x H'=>H'=H∧x=.int (lo+i),fun i _=>n≤i⟩
theorem turn_list{P:Program}{w:World}{K:PySem.W.Frag}{tg:Expr}(a it:Addr):Turn P w K tg (Itl K a) [it] it (fun i h=>h.IsListIter it a i)where
  mem:=by simp
  obj:=fun i h st b hb=>by
    have e:b=it:=by simpa using hb
    subst e
    obtain⟨o,e,c,d⟩:=st
    exact⟨o,e,fun v z=>by rw[d]at z;cases z⟩
  keep:=fun i h h' st k=>st.at fun o e=>k it (by simp) o e
  item:=by
    intro X hP hw hK hc i pins s σ H E I hf st hg
    subst hP hw hK
    obtain⟨xs,x,hq,hx⟩:=hg
    obtain⟨its,rv,p,hz⟩:=I.list hq
    obtain⟨u,hu,ru⟩:=rv.get hx
    obtain⟨f0,f1,f2,f3,f4,f5⟩:=hf it (by simp)
    refine wpAny_pyNext_list_item st p.isList (x:=u) (by simpa using hu) fun h' st' sb=>?_
    have I1:Inv X pins σ H { s with heap:=h' }:=I.turned (t':=s.toks) (fun b o hb e=>(sb.2 b hb).trans e) f0 f1 f3 f4 f5
    obtain⟨o,e,c,d⟩:=id st'
    exact⟨u,rfl,go_of (s:={ s with heap:=h' }) e c d (by decide) ⟨x,H,I1,ru,⟨rfl,fun ys hy=>by rw[I.list_inj hy hq];exact hx⟩,st',fun b hb=>(hf b hb).1⟩⟩
  done:=by
    intro X hP hw hK hc i pins s σ H E I hf st hg
    subst hP hw hK
    obtain⟨xs,hq,hx⟩:=hg
    obtain⟨its,rv,p,hz⟩:=I.list hq
    obtain⟨f0,f1,f2,f3,f4,f5⟩:=hf it (by simp)
    have hl:=rv.length
    exact wpAny_pyNext_list_end (I.ok.hd hc) st p.isList (by simp;omega) fun h' eb=>⟨rfl,I.turned (t':=s.toks) (fun b o hb e=>eb b o hb e) f0 f1 f3 f4 f5⟩
  self:=fun _ _ _ _ _ st h=>wpAny_pyIter_listiter st h
theorem turn_tuple{P:Program}{w:World}{K:PySem.W.Frag}{tg:Expr}(a it:Addr):Turn P w K tg (Itt K a) [it] it (fun i h=>h.IsTupleIter it a i)where
  mem:=by simp
  obj:=fun i h st b hb=>by
    have e:b=it:=by simpa using hb
    subst e
    obtain⟨o,e,c,d⟩:=st
    exact⟨o,e,fun v z=>by rw[d]at z;cases z⟩
  keep:=fun i h h' st k=>st.at fun o e=>k it (by simp) o e
  item:=by
    intro X hP hw hK hc i pins s σ H E I hf st hg
    subst hP hw hK
    obtain⟨xs,x,hq,hx⟩:=hg
    obtain⟨its,rv,p,hz⟩:=I.tuple hq
    obtain⟨u,hu,ru⟩:=rv.get hx
    obtain⟨f0,f1,f2,f3,f4,f5⟩:=hf it (by simp)
    refine wpAny_pyNext_tuple_item st (show s.heap.IsTuple a its.toArray from p) (x:=u) (by simpa using hu) fun h' st' sb=>?_
    have I1:Inv X pins σ H { s with heap:=h' }:=I.turned (t':=s.toks) (fun b o hb e=>(sb.2 b hb).trans e) f0 f1 f3 f4 f5
    obtain⟨o,e,c,d⟩:=id st'
    exact⟨u,rfl,go_of (s:={ s with heap:=h' }) e c d (by decide) ⟨x,H,I1,ru,⟨rfl,fun ys hy=>by rw[I.tuple_inj hy hq];exact hx⟩,st',fun b hb=>(hf b hb).1⟩⟩
  done:=by
    intro X hP hw hK hc i pins s σ H E I hf st hg
    subst hP hw hK
    obtain⟨xs,hq,hx⟩:=hg
    obtain⟨its,rv,p,hz⟩:=I.tuple hq
    obtain⟨f0,f1,f2,f3,f4,f5⟩:=hf it (by simp)
    have hl:=rv.length
    exact wpAny_pyNext_tuple_end (I.ok.hd hc) st (show s.heap.IsTuple a its.toArray from p) (by simp;omega) fun h' eb=>⟨rfl,I.turned (t':=s.toks) (fun b o hb e=>eb b o hb e) f0 f1 f3 f4 f5⟩
  self:=fun _ _ _ _ _ st h=>wpAny_pyIter_tupleiter st h
theorem turn_range{P:Program}{w:World}{K:PySem.W.Frag}{tg:Expr}(it:Addr)(lo:Int)(n:Nat):Turn P w K tg (Itr lo n) [it] it (fun i h=>IsRangeIter h it (lo+(i:Nat) * 1) ((n:Int) - (i:Nat)) 1)where
  mem:=by simp
  obj:=fun i h st b hb=>by
    have e:b=it:=by simpa using hb
    subst e
    exact⟨_,st,fun v z=>by
      have z':Data.fields _=Data.cell v:=z
      cases z'⟩
  keep:=fun i h h' st k=>k it (by simp) _ st
  item:=by
    intro X hP hw hK hc i pins s σ H E I hf st hg
    subst hP hw hK
    obtain⟨f0,f1,f2,f3,f4,f5⟩:=hf it (by simp)
    have W:=Walks.range (prog:=X.prog) (w:=X.w) (I.ok.hd hc) it lo 1 n
    refine W.item i s _ _ hg st fun v h' tk hv st' kk=>?_
    obtain⟨t,rfl⟩:=hv
    have I1:Inv X pins σ H { s with heap:=h',toks:=tk }:=I.turned (fun b o hb e=>kk b o (by simpa using hb) e) f0 f1 f3 f4 f5
    refine⟨_,rfl,go_of (s:={ s with heap:=h',toks:=tk }) (n:="range_iterator") st' rfl rfl (by decide) ⟨.int (lo+i),H,I1,⟨t,?_⟩,⟨rfl,rfl⟩,st',fun b hb=>(hf b hb).1⟩⟩
    rw[Int.mul_one]
  done:=by
    intro X hP hw hK hc i pins s σ H E I hf st hg
    subst hP hw hK
    obtain⟨f0,f1,f2,f3,f4,f5⟩:=hf it (by simp)
    exact wpAny_pyNext_range_end (I.ok.hd hc) st (by have:n≤i:=hg;omega) fun h' eb=>⟨rfl,I.turned (t':=s.toks) (fun b o hb e=>eb b o hb e) f0 f1 f3 f4 f5⟩
  self:=fun _ _ _ _ _ st h=>wpAny_pyIter_rangeiter st h
end L2
namespace L2
open PySem PySem.Spec PyProof.Rows
section
variable{X:Cx}{tg:Expr}
def iList(K:PySem.W.Frag)(tl:TE):TI:=fun σ H R=>tl σ H fun x H1=>∃a,x=.ref a∧(∃xs,SqL K H1 a xs)∧R (Itl K a) H1
def iTup(K:PySem.W.Frag)(tl:TE):TI:=fun σ H R=>tl σ H fun x H1=>∃a,x=.ref a∧(∃xs,SqT K H1 a xs)∧R (Itt K a) H1
theorem pi_list{l:Expr}{tl:TE}(hl:PE X l tl):PI X tg l (iList X.K tl):=by
  intro pins s σ H R I h
  refine thn (hl pins s σ H _ I h) fun v s1 ⟨x,H1,I1,r1,q1⟩=>?_
  obtain⟨a,e,⟨xs,hq⟩,q⟩:=q1
  subst e
  cases r1
  obtain⟨its,rv,p,hz⟩:=I1.list hq
  refine wpAny_pyIter_list p.isList ?_
  refine⟨s1.heap.objs.size,[s1.heap.objs.size],_,_,H1,rfl,I1.kept (t':=s1.toks) fun b o e=>Heap.get?_push_of_some _ e,turn_list a _,⟨_,Heap.get?_push_size _ rfl,rfl,rfl⟩,fun b hb=>?_,q⟩
  have e:b=s1.heap.objs.size:=by simpa using hb
  subst e
  exact I1.fpOk (Nat.le_refl _) (I1.hok.fresh (Nat.le_refl _))
theorem pi_tup{l:Expr}{tl:TE}(hl:PE X l tl):PI X tg l (iTup X.K tl):=by
  intro pins s σ H R I h
  refine thn (hl pins s σ H _ I h) fun v s1 ⟨x,H1,I1,r1,q1⟩=>?_
  obtain⟨a,e,⟨xs,hq⟩,q⟩:=q1
  subst e
  cases r1
  obtain⟨its,rv,p,hz⟩:=I1.tuple hq
  refine wpAny_pyIter_tuple (show s1.heap.IsTuple a its.toArray from p) ?_
  refine⟨s1.heap.objs.size,[s1.heap.objs.size],_,_,H1,rfl,I1.kept (t':=s1.toks) fun b o e=>Heap.get?_push_of_some _ e,turn_tuple a _,⟨_,Heap.get?_push_size _ rfl,rfl,rfl⟩,fun b hb=>?_,q⟩
  have e:b=s1.heap.objs.size:=by simpa using hb
  subst e
  exact I1.fpOk (Nat.le_refl _) (I1.hok.fresh (Nat.le_refl _))
theorem range_it{pins:List (Addr × Obj)}{σ:St}{H:Hp}{s:Shared}{R:It→Hp→Prop}{E:Value→Shared→Prop}{lo hi:Int}{t u v:Tok}{tk:Nat}(I:Inv X pins σ H s)(h1:-(2 ^ 62)≤lo)(h2:lo < 2 ^ 62)(h3:-(2 ^ 62)≤hi)(h4:hi < 2 ^ 62)
    (q:R (Itr lo (hi - lo).toNat) H):wpAny (model X.prog X.w) X.A (pyIter (.ref s.heap.objs.size)) (PIE X pins σ tg R) E { s with heap:=s.heap.push { cls:=.type "range",data:=.fields #[.int lo t,.int hi u,.int 1 v] },toks:=tk }:=by
  refine wpAny_pyIter_range (IsRange.new ..) (small_one h1 h2 h3 h4) ?_
  have I1:Inv X pins σ H { s with heap:=s.heap.push { cls:=.type "range",data:=.fields #[.int lo t,.int hi u,.int 1 v] },toks:=tk }:=I.kept fun b o e=>Heap.get?_push_of_some _ e
  refine⟨(s.heap.push { cls:=.type "range",data:=.fields #[.int lo t,.int hi u,.int 1 v] }).objs.size,[(s.heap.push { cls:=.type "range",data:=.fields #[.int lo t,.int hi u,.int 1 v] }).objs.size],_,_,H,rfl,
    I1.kept (t':=tk) fun b o e=>Heap.get?_push_of_some _ e,turn_range _ lo (hi - lo).toNat,?_,fun b hb=>?_,q⟩
  · have e1:lo+((0:Nat):Int) * 1=lo:=by simp
    have e2:(((hi - lo).toNat:Nat):Int) - ((0:Nat):Int)=Builtin.Range.rangeSize lo hi 1:=by rw[rangeSize_one];split <;>omega
    show IsRangeIter _ _ (lo+((0:Nat):Int) * 1) ((((hi - lo).toNat:Nat):Int) - ((0:Nat):Int)) 1
    rw[e1,e2]
    exact Heap.get?_push_size _ rfl
  · have e:b=(s.heap.push { cls:=.type "range",data:=.fields #[.int lo t,.int hi u,.int 1 v] }).objs.size:=by simpa using hb
    subst e
    exact I1.fpOk (Nat.le_refl _) (I1.hok.fresh (Nat.le_refl _))
def iRng1(ta:TA):TI:=fun σ H R=>ta σ H fun vs H1=>∃j:Int,vs=[.int j]∧-(2 ^ 62)≤j∧j < 2 ^ 62∧R (Itr 0 j.toNat) H1
theorem pi_range1{a:Expr}{ta:TA}{p pos:Pos}(hg:Gl X "range")(hm:X.mg "range"=none)(ha:PA X [a] ta)(hs:starEach [a] X.env=[(false,eval a X.env)]:=by rfl):PI X tg (.Call (.Name "range" p) [a] [] pos) (iRng1 ta):=by
  intro pins s σ H R I h
  refine Call_ (ld_blt I hg hm boot_range (PyProof.Rows.callWith_type1 (thn (ha pos pins s σ H _ I h) fun us s1 ⟨vs,H1,I1,r1,q1⟩=>?_) hs rfl))
  obtain⟨j,e,q1,q2,q⟩:=q1
  subst e
  cases r1 with
  | cons r rr=>
    cases rr
    obtain⟨t,rfl⟩:=r
    exact call_range_1 (range_it I1 (by omega) (by omega) q1 q2 (by simpa using q))
def tFor(wi:TI)(g:TG)(tb:TS):TS:=fun D σ H=>wi σ H fun J H1=>∃W:Nat→Nat→St→Hp→Prop,(∃m,W 0 m σ H1)∧∀i m σ H,W i m σ H→
  (J.stop i H∧D.nx σ H)∨(J.go i H∧∃N:St→Hp→Prop,(∀σ' H',N σ' H'→∃m',m' < m∧W (i+1) m' σ' H')∧∀x H',J.yld i H x H'→g x σ H' fun σ2 H2=>tb { D with nx:=N,ct:=N,bk:=D.nx } σ2 H2)
def pinsAt(fp:List Addr)(h:Heap):List (Addr × Obj):=fp.filterMap fun b=>(h.get? b).map fun o=>(b,o)
theorem mem_pinsAt{fp:List Addr}{h:Heap}{b:Addr}{o:Obj}(hb:b∈fp)(e:h.get? b=some o):(b,o)∈pinsAt fp h:=List.mem_filterMap.mpr ⟨b,hb,by rw[e];rfl⟩
theorem of_pinsAt{fp:List Addr}{h:Heap}{p:Addr × Obj}(hp:p∈pinsAt fp h):p.1∈fp∧h.get? p.1=some p.2:=by
  obtain⟨b,hb,e⟩:=List.mem_filterMap.mp hp
  cases q:h.get? b with
  | none=>rw[q]at e;cases e
  | some o=>
    rw[q]at e
    have e':(b,o)=p:=Option.some.inj e
    subst e'
    exact⟨hb,q⟩
theorem Inv.pinned{pins:List (Addr × Obj)}{σ:St}{H:Hp}{s:Shared}{fp:List Addr}(I:Inv X pins σ H s)(hf:∀b∈fp,FpOk X pins H b)(ho:∀b∈fp,∃o,s.heap.get? b=some o∧∀v,o.data≠.cell v):Inv X (pins++pinsAt fp s.heap) σ H s:=
  I.pins_of fun p hp=>(List.mem_append.mp hp).elim (fun z=>I.pin p (List.mem_append_right _ z)) fun z=>by
    obtain⟨hb,e⟩:=of_pinsAt z
    obtain⟨f0,f1,f2,_⟩:=hf p.1 hb
    obtain⟨o,e',d⟩:=ho p.1 hb
    rw[e]at e';cases e'
    exact⟨e,f0,f1,f2,d⟩
theorem Inv.unpinned{pins pl:List (Addr × Obj)}{σ:St}{H:Hp}{s:Shared}(I:Inv X (pins++pl) σ H s):Inv X pins σ H s:=I.pins_of fun p hp=>I.pin p (List.mem_append_right _ (List.mem_append_left _ hp))
theorem ps_for{iter:Expr}{body:List Stmt}{wi:TI}{g:TG}{tb:TS}{pos:Pos}(hp:PassesOwn (model X.prog X.w) X.A X.env X.xe)(hc:X.calm=true)(hi:PI X tg iter wi)(hg:PG X tg g)(hb:PSs X body tb)
    (hs:∀x,foldedSetIterable iter X.env x=pure x:=by intro _;rfl):PS X (.For tg iter body [] pos) (tFor wi g tb):=by
  intro pins s σ H D I h
  refine wpAny_For (thn (hi pins s σ H _ I h) fun v s1 h1=>thn h1 fun itv s2 h2=>?_) hs
  obtain⟨it,fp,tn,J,H2,e,I2,T,st2,f2,W,⟨m0,w0⟩,turn⟩:=h2
  subst e
  have stat:∀{H':Hp},(∀b∈fp,H' b=none)→∀b∈fp,FpOk X pins H' b:=fun hn b hb=>⟨hn b hb,(f2 b hb).2⟩
  refine codeAny_forLoop_any (fun n s'=>∃i σ' H',Inv X pins σ' H' s'∧tn i s'.heap∧(∀b∈fp,H' b=none)∧W i n σ' H') ?_ m0 ⟨0,σ,H2,I2,st2,fun b hb=>(f2 b hb).1,w0⟩
  rintro n s3 ⟨i,σ3,H3,I3,st3,fr3,w3⟩
  rcases turn i n σ3 H3 w3 with ⟨stop,qn⟩ | ⟨go,N,hN,step⟩
  · refine wpAny_passesOwn hp (thn (T.done X rfl rfl rfl hc i pins s3 σ3 H3 X.xe I3 (stat fr3) st3 stop) fun r s4 ⟨hr,I4⟩=>?_)
    subst hr
    exact wpAny_execs_nil ⟨σ3,H3,I4,qn⟩
  · refine wpAny_passesOwn hp (thn (T.item X rfl rfl rfl hc i pins s3 σ3 H3 X.xe I3 (stat fr3) st3 go) fun r s4 ⟨u,hr,h4⟩=>?_)
    subst hr
    refine wpAny_passesOwn hp (thn h4 fun _ s5 ⟨x,H5,I5,r5,y5,st5,fr5⟩=>?_)
    have I5':=I5.pinned (stat fr5) (T.obj _ _ st5)
    refine wpAny_passesOwn hp (thn (hg _ s5 σ3 H5 x u _ I5' r5 (step x H5 y5)) fun _ s6 ⟨σ6,H6,I6,q6⟩=>?_)
    refine wpAny_passesOwn hp (thn (hb _ s6 σ6 H6 _ I6 q6) fun f s7 q7=>?_)
    have again:∀{σ7:St} {H7:Hp},Inv X (pins++pinsAt fp s5.heap) σ7 H7 s7→N σ7 H7→∃m,m < n∧∃i σ' H',Inv X pins σ' H' s7∧tn i s7.heap∧(∀b∈fp,H' b=none)∧W i m σ' H':=fun{σ7 H7} I7 n7=>by
      obtain⟨m',hm,w7⟩:=hN σ7 H7 n7
      refine⟨m',hm,i+1,σ7,H7,I7.unpinned,T.keep _ _ _ st5 fun b hb o e=>(I7.pin (b,o) (List.mem_append_right _ (List.mem_append_right _ (mem_pinsAt hb e)))).1,fun b hb=>?_,w7⟩
      obtain⟨o,e,d⟩:=T.obj _ _ st5 b hb
      exact(I7.pin (b,o) (List.mem_append_right _ (List.mem_append_right _ (mem_pinsAt hb e)))).2.1
    cases f with
    | next=>obtain⟨σ7,H7,I7,n7⟩:=q7;exact again I7 n7
    | cont=>obtain⟨σ7,H7,I7,n7⟩:=q7;exact again I7 n7
    | brk=>obtain⟨σ7,H7,I7,q7⟩:=q7;exact⟨σ7,H7,I7.unpinned,q7⟩
    | ret v=>obtain⟨x7,σ7,H7,I7,r7,q7⟩:=q7;exact⟨x7,σ7,H7,I7.unpinned,r7,q7⟩
end
theorem for_list{K:PySem.W.Frag}{a:Addr}{xs:List V}{g:TG}{tb:TS}{D:Ends}{σ:St}{H:Hp}(Pv:Nat→St→Hp→Prop)(h0:Pv 0 σ H)(hl:∀i σ H,i≤xs.length→Pv i σ H→SqL K H a xs)
    (hs:∀i x σ H,xs[i]? = some x→Pv i σ H→g x σ H fun σ2 H2=>tb { D with nx:=Pv (i+1),ct:=Pv (i+1),bk:=D.nx } σ2 H2) (hd:∀σ H,Pv xs.length σ H→D.nx σ H) :
    ∃W:Nat→Nat→St→Hp→Prop,(∃m,W 0 m σ H)∧∀i m σ H,W i m σ H→
      ((Itl K a).stop i H∧D.nx σ H)∨((Itl K a).go i H∧∃N:St→Hp→Prop,(∀σ' H',N σ' H'→∃m',m' < m∧W (i+1) m' σ' H')∧∀x H',(Itl K a).yld i H x H'→g x σ H' fun σ2 H2=>tb { D with nx:=N,ct:=N,bk:=D.nx } σ2 H2):=by
  refine⟨fun i m σ H=>m=xs.length - i∧i≤xs.length∧Pv i σ H,⟨xs.length,by simp,Nat.zero_le _,h0⟩,?_⟩
  rintro i m σ H ⟨rfl,hi,p⟩
  have q:=hl i σ H hi p
  by_cases hlt:i < xs.length
  · refine .inr ⟨⟨xs,xs[i],q,by simp[hlt]⟩,Pv (i+1),fun σ' H' p'=>⟨xs.length - (i+1),by omega,rfl,hlt,p'⟩,fun x H' y=>?_⟩
    obtain⟨e,y⟩:=y
    subst e
    exact hs i x σ _ (y xs q) p
  · have e:i=xs.length:=by omega
    subst e
    exact .inl ⟨⟨xs,q,Nat.le_refl _⟩,hd σ H p⟩
theorem for_range{lo:Int}{n:Nat}{g:TG}{tb:TS}{D:Ends}{σ:St}{H:Hp}(Pv:Nat→St→Hp→Prop)(h0:Pv 0 σ H)
    (hs:∀i σ H,i < n→Pv i σ H→g (.int (lo+i)) σ H fun σ2 H2=>tb { D with nx:=Pv (i+1),ct:=Pv (i+1),bk:=D.nx } σ2 H2) (hd:∀σ H,Pv n σ H→D.nx σ H) :
    ∃W:Nat→Nat→St→Hp→Prop,(∃m,W 0 m σ H)∧∀i m σ H,W i m σ H→
      ((Itr lo n).stop i H∧D.nx σ H)∨((Itr lo n).go i H∧∃N:St→Hp→Prop,(∀σ' H',N σ' H'→∃m',m' < m∧W (i+1) m' σ' H')∧∀x H',(Itr lo n).yld i H x H'→g x σ H' fun σ2 H2=>tb { D with nx:=N,ct:=N,bk:=D.nx } σ2 H2):=by
  refine⟨fun i m σ H=>m=n - i∧i≤n∧Pv i σ H,⟨n,by simp,Nat.zero_le _,h0⟩,?_⟩
  rintro i m σ H ⟨rfl,hi,p⟩
  by_cases hlt:i < n
  · refine .inr ⟨hlt,Pv (i+1),fun σ' H' p'=>⟨n - (i+1),by omega,rfl,hlt,p'⟩,fun x H' y=>?_⟩
    obtain⟨e,y⟩:=y
    subst e y
    exact hs i σ _ hlt p
  · have e:i=n:=by omega
    subst e
    exact .inl ⟨Nat.le_refl _,hd σ H p⟩
end L2
namespace L2
open PySem PySem.Spec PyProof.Rows
abbrev R2:=V→V→Hp→VK→Prop
def OpR(X:Cx)(f:Value→Value→Sem Value)(r:R2):Prop:=
  ∀(pins:List (Addr × Obj)) (s:Shared) (σ:St) (H:Hp) (x y:V) (v u:Value) (Q:VK),Inv X pins σ H s→RelV x v→RelV y u→r x y H Q→
    wpAny (model X.prog X.w) X.A (f v u) (EP X pins σ Q) X.xe s
def UnR(X:Cx)(f:Value→Sem Value)(r:V→Hp→VK→Prop):Prop:=
  ∀(pins:List (Addr × Obj)) (s:Shared) (σ:St) (H:Hp) (x:V) (v:Value) (Q:VK),Inv X pins σ H s→RelV x v→r x H Q→
    wpAny (model X.prog X.w) X.A (f v) (EP X pins σ Q) X.xe s
def CallR(X:Cx)(f:Value)(r:List V→Hp→VK→Prop):Prop:=
  ∀(pins:List (Addr × Obj)) (s:Shared) (σ:St) (H:Hp) (xs:List V) (us:List Value) (Q:VK),Inv X pins σ H s→Vals xs us→r xs H Q→
    wpAny (model X.prog X.w) X.A (call f us) (EP X pins σ Q) X.xe s
def tOp(r:R2)(ta tb:TE):TE:=fun σ H Q=>ta σ H fun x H1=>tb σ H1 fun y H2=>r x y H2 Q
def tUn(r:V→Hp→VK→Prop)(ta:TE):TE:=fun σ H Q=>ta σ H fun x H1=>r x H1 Q
def rI(C:Int→Int→Prop)(g:Int→Int→V):R2:=fun x y H Q=>∃i j,x=.int i∧y=.int j∧C i j∧Q (g i j) H
def rI0(g:Int→Int→V):R2:=fun x y H Q=>∃i j,x=.int i∧y=.int j∧Q (g i j) H
def rU(g:Int→V):V→Hp→VK→Prop:=fun x H Q=>∃i,x=.int i∧Q (g i) H
section
variable{X:Cx}{a b c:Expr}{ta tb tc:TE}{pos:Pos}
theorem binT(ha:PE X a ta)(hb:PE X b tb){pins:List (Addr × Obj)}{s:Shared}{σ:St}{H:Hp}{R:V→V→Hp→Prop}(I:Inv X pins σ H s)
    (h:ta σ H fun x H1=>tb σ H1 fun y H2=>R x y H2) {Q:Value→Shared→Prop} {f:Value→Value→Sem Value}
    (hf:∀v u s2 x y H2,Inv X pins σ H2 s2→RelV x v→RelV y u→R x y H2→wpAny (model X.prog X.w) X.A (f v u) Q X.xe s2) :
    wpAny (model X.prog X.w) X.A (eval a X.env) (fun v s₁=>wpAny (model X.prog X.w) X.A (eval b X.env) (fun u s₂=>wpAny (model X.prog X.w) X.A (f v u) Q X.xe s₂) X.xe s₁) X.xe s:=by
  refine thn (ha pins s σ H _ I h) fun v s1 ⟨x,H1,I1,r1,q1⟩=>?_
  refine thn (hb pins s1 σ H1 _ I1 q1) fun u s2 ⟨y,H2,I2,r2,q2⟩=>?_
  exact hf v u s2 x y H2 I2 r1 r2 q2
theorem pe_op{op:Operator}{r:R2}(ho:OpR X (binaryOp op) r)(ha:PE X a ta)(hb:PE X b tb):PE X (.BinOp a op b pos) (tOp r ta tb):=by
  intro pins s σ H Q I h
  exact wpAny_BinOp (binT ha hb I h fun v u s2 x y H2 I2 rx ry q=>ho pins s2 σ H2 x y v u Q I2 rx ry q)
theorem pe_un{op:UnaryOp}{r:V→Hp→VK→Prop}(ho:UnR X (unaryOp op) r)(ha:PE X a ta):PE X (.UnaryOp op a pos) (tUn r ta):=by
  intro pins s σ H Q I h
  exact UnaryOp_ (thn (ha pins s σ H _ I h) fun v s1 ⟨x,H1,I1,r1,q1⟩=>ho pins s1 σ H1 x v Q I1 r1 q1)
theorem opI{f:Value→Value→Sem Value}{C:Int→Int→Prop}{g:Int→Int→Int}
    (rule:∀(i j:Int) (t u:Tok) (s:Shared) (Q:Value→Shared→Prop) (E:Value→Shared→Prop),C i j→Q (.int (g i j) s.toks) { s with toks:=s.toks+1 }→wpAny (model X.prog X.w) X.A (f (.int i t) (.int j u)) Q E s) :
    OpR X f (rI C fun i j=>.int (g i j)):=by
  intro pins s σ H x y v u Q I rx ry h
  obtain⟨i,j,rfl,rfl,hc,q⟩:=h
  obtain⟨t,rfl⟩:=rx
  obtain⟨t',rfl⟩:=ry
  exact rule i j t t' s _ _ hc ⟨.int (g i j),H,I.tok _,⟨_,rfl⟩,q⟩
theorem opI0{f:Value→Value→Sem Value}{g:Int→Int→Int}
    (rule:∀(i j:Int) (t u:Tok) (s:Shared) (Q:Value→Shared→Prop) (E:Value→Shared→Prop),Q (.int (g i j) s.toks) { s with toks:=s.toks+1 }→wpAny (model X.prog X.w) X.A (f (.int i t) (.int j u)) Q E s) :
    OpR X f (rI0 fun i j=>.int (g i j)):=by
  intro pins s σ H x y v u Q I rx ry h
  obtain⟨i,j,rfl,rfl,q⟩:=h
  obtain⟨t,rfl⟩:=rx
  obtain⟨t',rfl⟩:=ry
  exact rule i j t t' s _ _ ⟨.int (g i j),H,I.tok _,⟨_,rfl⟩,q⟩
theorem opB0{f:Value→Value→Sem Value}{g:Int→Int→Bool}
    (rule:∀(i j:Int) (t u:Tok) (s:Shared) (Q:Value→Shared→Prop) (E:Value→Shared→Prop),Q (.bool (g i j)) s→wpAny (model X.prog X.w) X.A (f (.int i t) (.int j u)) Q E s) :
    OpR X f (rI0 fun i j=>.bl (g i j)):=by
  intro pins s σ H x y v u Q I rx ry h
  obtain⟨i,j,rfl,rfl,q⟩:=h
  obtain⟨t,rfl⟩:=rx
  obtain⟨t',rfl⟩:=ry
  exact rule i j t t' s _ _ ⟨.bl (g i j),H,I,rfl,q⟩
def CPow(i j:Int):Prop:=0≤j∧j≤1000000∧i.natAbs < 2 ^ 64
def CMul(i j:Int):Prop:=(-(2 ^ 64) < i∧i < 2 ^ 64)∨(-(2 ^ 64) < j∧j < 2 ^ 64)
theorem CMul.ok{i j:Int}(h:CMul i j):IntMulOk i j:=by
  rcases h with ⟨h1,h2⟩ | ⟨h1,h2⟩
  · exact .of_left (intBits_le_64 h1 h2)
  · exact .of_right (intBits_le_64 h1 h2)
theorem op_add:OpR X (binaryOp .Add) (rI0 fun i j=>.int (i+j)):=opI0 fun _ _ _ _ _ _ _ q=>add_int q
theorem op_sub:OpR X (binaryOp .Sub) (rI0 fun i j=>.int (i - j)):=opI0 fun _ _ _ _ _ _ _ q=>sub_int q
theorem op_mul:OpR X (binaryOp .Mult) (rI CMul fun i j=>.int (i * j)):=opI fun _ _ _ _ _ _ _ hc q=>mul_int q hc.ok
theorem op_modN:OpR X (binaryOp .Mod) (rI (fun _ j=>j≠0) fun i j=>.int (i.fmod j)):=opI fun _ _ _ _ _ _ _ hc q=>mod_int' hc q
theorem op_pow:OpR X (binaryOp .Pow) (rI CPow fun i j=>.int (i ^ j.toNat)):=opI fun _ _ _ _ _ _ _ hc q=>pow_int_small hc.1 hc.2.1 hc.2.2 q
theorem unI{f:Value→Sem Value}{g:Int→Int}
    (rule:∀(i:Int) (t:Tok) (s:Shared) (Q:Value→Shared→Prop) (E:Value→Shared→Prop),Q (.int (g i) s.toks) { s with toks:=s.toks+1 }→wpAny (model X.prog X.w) X.A (f (.int i t)) Q E s) :
    UnR X f (rU fun i=>.int (g i)):=by
  intro pins s σ H x v Q I rx h
  obtain⟨i,rfl,q⟩:=h
  obtain⟨t,rfl⟩:=rx
  exact rule i t s _ _ ⟨.int (g i),H,I.tok _,⟨_,rfl⟩,q⟩
theorem un_neg:UnR X (unaryOp .USub) (rU fun i=>.int (-i)):=unI fun _ _ _ _ _ q=>neg_int q
end
def scal:V→V→Bool
  | .non,.non=>true | .non,.int _=>true | .int _,.non=>true | .non,.bl _=>true | .bl _,.non=>true | .non,.str _=>true | .str _,.non=>true
  | .int _,.int _=>true | .bl _,.bl _=>true | .str _,.str _=>true | .byt _,.byt _=>true
  | .int _,.str _=>true | .str _,.int _=>true | .bl _,.str _=>true | .str _,.bl _=>true
  | _,_=>false
def rEq:R2:=fun x y H Q=>scal x y=true∧Q (.bl (decide (x=y))) H
def rNe:R2:=fun x y H Q=>scal x y=true∧Q (.bl (!decide (x=y))) H
theorem dec_int{i j:Int}:decide (V.int i=V.int j)=(i == j):=by
  rw[Bool.eq_iff_iff]
  simp
theorem dec_bl{i j:Bool}:decide (V.bl i=V.bl j)=(i == j):=by
  rw[Bool.eq_iff_iff]
  simp
theorem dec_str{i j:Str}:decide (V.str i=V.str j)=(i == j):=by
  rw[Bool.eq_iff_iff]
  simp
theorem dec_byt{i j:Array UInt8}:decide (V.byt i=V.byt j)=(i.toList == j.toList):=by
  rw[Bool.eq_iff_iff]
  cases i
  cases j
  simp
section
variable{X:Cx}{a b c:Expr}{ta tb tc:TE}{pos:Pos}
theorem fin_bl{pins:List (Addr × Obj)}{σ:St}{H:Hp}{s:Shared}{Q:VK}{k k':Bool}(I:Inv X pins σ H s)(q:Q (.bl k) H)(e:k=k'):EP X pins σ Q (.bool k') s:=by
  subst e
  exact⟨.bl k,H,I,rfl,q⟩
theorem op_eq:OpR X (compareOp .Eq) rEq:=by
  intro pins s σ H x y v u Q I rx ry h
  obtain⟨hs,q⟩:=h
  cases x with
  | non=>
    cases rx
    cases y with
    | non=>cases ry;exact PySem.EqNone.eq_none_none (fin_bl I q (by simp))
    | bl j=>cases ry;exact PySem.EqNone.eq_none_bool (fin_bl I q (by simp))
    | int j=>obtain⟨t',rfl⟩:=ry;exact PySem.EqNone.eq_none_int (fin_bl I q (by simp))
    | str j=>obtain⟨t',rfl⟩:=ry;exact PySem.EqNone.eq_none_str (fin_bl I q (by simp))
    | _=>exact absurd (show false=true from hs) Bool.false_ne_true
  | bl i=>
    cases rx
    cases y with
    | non=>cases ry;exact PySem.EqNone.eq_bool_none (fin_bl I q (by simp))
    | bl j=>cases ry;exact eq_bool (fin_bl I q dec_bl)
    | str j=>obtain⟨t',rfl⟩:=ry;exact PySem.EqMixed.eq_bool_str (fin_bl I q (by simp))
    | _=>exact absurd (show false=true from hs) Bool.false_ne_true
  | int i=>
    obtain⟨t,rfl⟩:=rx
    cases y with
    | non=>cases ry;exact PySem.EqNone.eq_int_none (fin_bl I q (by simp))
    | int j=>obtain⟨t',rfl⟩:=ry;exact eq_int (fin_bl I q dec_int)
    | str j=>obtain⟨t',rfl⟩:=ry;exact PySem.EqMixed.eq_int_str (fin_bl I q (by simp))
    | _=>exact absurd (show false=true from hs) Bool.false_ne_true
  | str i=>
    obtain⟨t,rfl⟩:=rx
    cases y with
    | non=>cases ry;exact PySem.EqNone.eq_str_none (fin_bl I q (by simp))
    | bl j=>cases ry;exact PySem.EqMixed.eq_str_bool (fin_bl I q (by simp))
    | int j=>obtain⟨t',rfl⟩:=ry;exact PySem.EqMixed.eq_str_int (fin_bl I q (by simp))
    | str j=>obtain⟨t',rfl⟩:=ry;exact eq_str (fin_bl I q dec_str)
    | _=>exact absurd (show false=true from hs) Bool.false_ne_true
  | byt i=>
    obtain⟨t,rfl⟩:=rx
    cases y with
    | byt j=>obtain⟨t',rfl⟩:=ry;exact PySem.W.eq_bytes (fin_bl I q dec_byt)
    | _=>exact absurd (show false=true from hs) Bool.false_ne_true
  | _=>cases y <;>exact absurd (show false=true from hs) Bool.false_ne_true
theorem op_ne:OpR X (compareOp .NotEq) rNe:=by
  intro pins s σ H x y v u Q I rx ry h
  obtain⟨hs,q⟩:=h
  cases x with
  | non=>
    cases rx
    cases y with
    | non=>cases ry;exact PySem.EqNone.ne_none_none (fin_bl I q (by simp))
    | bl j=>cases ry;exact PySem.EqNone.ne_none_bool (fin_bl I q (by simp))
    | int j=>obtain⟨t',rfl⟩:=ry;exact PySem.EqNone.ne_none_int (fin_bl I q (by simp))
    | str j=>obtain⟨t',rfl⟩:=ry;exact PySem.EqNone.ne_none_str (fin_bl I q (by simp))
    | _=>exact absurd (show false=true from hs) Bool.false_ne_true
  | bl i=>
    cases rx
    cases y with
    | non=>cases ry;exact PySem.EqNone.ne_bool_none (fin_bl I q (by simp))
    | bl j=>cases ry;exact ne_bool (fin_bl I q (congrArg not dec_bl))
    | str j=>obtain⟨t',rfl⟩:=ry;exact PySem.EqMixed.ne_bool_str (fin_bl I q (by simp))
    | _=>exact absurd (show false=true from hs) Bool.false_ne_true
  | int i=>
    obtain⟨t,rfl⟩:=rx
    cases y with
    | non=>cases ry;exact PySem.EqNone.ne_int_none (fin_bl I q (by simp))
    | int j=>obtain⟨t',rfl⟩:=ry;exact ne_int (fin_bl I q (congrArg not dec_int))
    | str j=>obtain⟨t',rfl⟩:=ry;exact PySem.EqMixed.ne_int_str (fin_bl I q (by simp))
    | _=>exact absurd (show false=true from hs) Bool.false_ne_true
  | str i=>
    obtain⟨t,rfl⟩:=rx
    cases y with
    | non=>cases ry;exact PySem.EqNone.ne_str_none (fin_bl I q (by simp))
    | bl j=>cases ry;exact PySem.EqMixed.ne_str_bool (fin_bl I q (by simp))
    | int j=>obtain⟨t',rfl⟩:=ry;exact PySem.EqMixed.ne_str_int (fin_bl I q (by simp))
    | str j=>obtain⟨t',rfl⟩:=ry;exact ne_str (fin_bl I q (congrArg not dec_str))
    | _=>exact absurd (show false=true from hs) Bool.false_ne_true
  | byt i=>
    obtain⟨t,rfl⟩:=rx
    cases y with
    | byt j=>obtain⟨t',rfl⟩:=ry;exact PySem.W.ne_bytes (fin_bl I q (congrArg not dec_byt))
    | _=>exact absurd (show false=true from hs) Bool.false_ne_true
  | _=>cases y <;>exact absurd (show false=true from hs) Bool.false_ne_true
theorem op_lt:OpR X (compareOp .Lt) (rI0 fun i j=>.bl (decide (i < j))):=opB0 fun _ _ _ _ _ _ _ q=>lt_int q
theorem op_le:OpR X (compareOp .LtE) (rI0 fun i j=>.bl (decide (i≤j))):=opB0 fun _ _ _ _ _ _ _ q=>le_int q
theorem op_gt:OpR X (compareOp .Gt) (rI0 fun i j=>.bl (decide (j < i))):=opB0 fun _ _ _ _ _ _ _ q=>gt_int q
theorem op_in_str:OpR X (compareOp .In) (fun x y H Q=>∃i j,x=.str i∧y=.str j∧Q (.bl (!(Builtin.Str.occurrences j i 0 j.length 1).isEmpty)) H):=by
  intro pins s σ H x y v u Q I rx ry h
  obtain⟨i,j,rfl,rfl,q⟩:=h
  obtain⟨t,rfl⟩:=rx
  obtain⟨t',rfl⟩:=ry
  exact in_str (fin_bl I q rfl)
theorem op_isN:OpR X (compareOp .Is) (fun x y H Q=>y=.non∧Q (.bl (decide (x=.non))) H):=by
  intro pins s σ H x y v u Q I rx ry h
  obtain⟨rfl,q⟩:=h
  cases ry
  refine is_none_gen (fin_bl I q ?_)
  cases x <;>first
    | (cases rx;rfl)
    | (obtain⟨t,rfl⟩:=rx;rfl)
theorem op_notin_str:OpR X (compareOp .NotIn) (fun x y H Q=>∃i j,x=.str i∧y=.str j∧Q (.bl (!(!(Builtin.Str.occurrences j i 0 j.length 1).isEmpty))) H):=by
  intro pins s σ H x y v u Q I rx ry h
  obtain⟨i,j,rfl,rfl,q⟩:=h
  obtain⟨t,rfl⟩:=rx
  obtain⟨t',rfl⟩:=ry
  exact notIn_str (fin_bl I q rfl)
theorem OpR.or{f:Value→Value→Sem Value}{r r':R2}(h:OpR X f r)(h':OpR X f r'):OpR X f (fun x y H Q=>r x y H Q∨r' x y H Q):=by
  intro pins s σ H x y v u Q I rx ry q
  rcases q with q | q
  · exact h pins s σ H x y v u Q I rx ry q
  · exact h' pins s σ H x y v u Q I rx ry q
theorem nomark(b:Expr){op:CmpOp}(h:op≠.In:=by decide)(h2:op≠.NotIn:=by decide):behindInMarks op b=false:=by
  have e1:(op == CmpOp.In)=false:=by cases op <;>first | rfl | exact absurd rfl h
  have e2:(op == CmpOp.NotIn)=false:=by cases op <;>first | rfl | exact absurd rfl h2
  cases b <;>simp[behindInMarks,e1,e2]
theorem pe_cmpR{op:CmpOp}{r:R2}(ho:OpR X (compareOp op) r)(ha:PE X a ta)(hb:PE X b tb)(hm:behindInMarks op b=false):PE X (.Compare a [op] [b] pos) (tOp r ta tb):=by
  intro pins s σ H Q I h
  exact wpAny_Compare1 (binT ha hb I h fun v u s2 x y H2 I2 rx ry q=>ho pins s2 σ H2 x y v u Q I2 rx ry q) hm
def tTest(t:TE):TT:=fun σ H Q=>t σ H fun x H'=>∃k,x=.bl k∧Q k H'
theorem pt_cmpR{op:CmpOp}{r:R2}(ho:OpR X (compareOp op) r)(ha:PE X a ta)(hb:PE X b tb)(hm:behindInMarks op b=false):PT X (.Compare a [op] [b] pos) (tTest (tOp r ta tb)):=by
  intro pins s σ H Q I h
  refine wpAny_isTrue_Compare1 (thn (ha pins s σ H _ I h) fun v s1 ⟨x,H1,I1,r1,q1⟩=>thn (hb pins s1 σ H1 _ I1 q1) fun u s2 ⟨y,H2,I2,r2,q2⟩=>
    thn (ho pins s2 σ H2 x y v u _ I2 r1 r2 q2) fun c s3 ⟨z,H3,I3,r3,k,e,q3⟩=>?_) hm
  subst e
  cases r3
  exact wpAny_truthy_bool ⟨H3,I3,q3⟩
theorem line63:(sizeLine:Nat) < 2 ^ 63:=by rw[sizeLine_eq];decide
theorem op_add_str:OpR X (binaryOp .Add) (fun x y H Q=>∃i j,x=.str i∧y=.str j∧i.length+j.length≤sizeLine∧Q (.str (i++j)) H):=by
  intro pins s σ H x y v u Q I rx ry h
  obtain⟨i,j,rfl,rfl,hz,q⟩:=h
  obtain⟨t,rfl⟩:=rx
  obtain⟨t',rfl⟩:=ry
  exact add_str (fun t' tk=>⟨.str (i++j),H,I.tok _,⟨_,rfl⟩,q⟩) hz
theorem vals1{x:V}{us:List Value}(r:Vals [x] us):∃u,us=[u]∧RelV x u:=by
  cases r with
  | cons r1 r2=>cases r2;exact⟨_,rfl,r1⟩
theorem vals2{x y:V}{us:List Value}(r:Vals [x,y] us):∃u w',us=[u,w']∧RelV x u∧RelV y w':=by
  cases r with
  | cons r1 r2=>
    cases r2 with
    | cons r3 r4=>cases r4;exact⟨_,_,rfl,r1,r3⟩
theorem call_abs:CallR X (.builtin "abs") (fun xs H Q=>∃i,xs=[.int i]∧Q (.int (if i < 0 then -i else i)) H):=by
  intro pins s σ H xs us Q I r h
  obtain⟨i,rfl,q⟩:=h
  obtain⟨u,rfl,t,rfl⟩:=vals1 r
  exact call_abs_int fun u tk=>⟨.int (if i < 0 then -i else i),H,I.tok _,⟨_,rfl⟩,q⟩
theorem call_min2(hc:X.calm=true):CallR X (.builtin "min") (fun xs H Q=>∃i j,xs=[.int i,.int j]∧Q (.int (if j < i then j else i)) H):=by
  intro pins s σ H xs us Q I r h
  obtain⟨i,j,rfl,q⟩:=h
  obtain⟨u,w',rfl,⟨t,rfl⟩,⟨t',rfl⟩⟩:=vals2 r
  refine min_two_ints (I.ok.hd hc) fun h' tk k=>⟨_,H,I.kept k,?_,q⟩
  by_cases hj:j < i
  · rw[if_pos hj,if_pos hj];exact⟨_,rfl⟩
  · rw[if_neg hj,if_neg hj];exact⟨_,rfl⟩
def LenV(K:PySem.W.Frag)(x:V)(H:Hp)(n:Nat):Prop:=
  match x with
  | .str y=>y.length≤sizeLine∧n=y.length
  | .byt y=>y.size≤sizeLine∧n=y.size
  | .ref p=>(∃xs,SqL K H p xs∧n=xs.length)∨∃xs,SqT K H p xs∧n=xs.length
  | _=>False
theorem call_len:CallR X (.builtin "len") (fun xs H Q=>∃x n,xs=[x]∧LenV X.K x H n∧Q (.int n) H):=by
  intro pins s σ H xs us Q I r h
  obtain⟨x,n,rfl,e,q⟩:=h
  obtain⟨u,rfl,rx⟩:=vals1 r
  have hl:=line63
  have hs:sizeLine=16777216:=sizeLine_eq
  cases x with
  | str y=>
    obtain⟨t,rfl⟩:=rx
    obtain⟨hy,e'⟩:y.length≤sizeLine∧n=y.length:=e
    subst e'
    exact len_str (by omega) ⟨.int _,H,I.tok _,⟨_,rfl⟩,q⟩
  | byt y=>
    obtain⟨t,rfl⟩:=rx
    obtain⟨hy,e'⟩:y.size≤sizeLine∧n=y.size:=e
    subst e'
    exact PySem.W.len_bytes (by omega) ⟨.int _,H,I.tok _,⟨_,rfl⟩,q⟩
  | ref p=>
    cases rx
    have e':(∃xs,SqL X.K H p xs∧n=xs.length)∨∃xs,SqT X.K H p xs∧n=xs.length:=e
    rcases e' with ⟨xs,hx,e'⟩ | ⟨xs,hx,e'⟩
    · subst e'
      obtain⟨its,r',pl,hz⟩:=I.list hx
      have hlen:=r'.length
      exact Calls.call_len_list pl.isList (by simp only[List.size_toArray];omega) ⟨.int xs.length,H,I.tok _,⟨_,by simp only[List.size_toArray];rw[hlen]⟩,q⟩
    · subst e'
      obtain⟨its,r',pl,hz⟩:=I.tuple hx
      have hlen:=r'.length
      exact len_tuple pl (by simp only[List.size_toArray];omega) ⟨.int xs.length,H,I.tok _,⟨_,by simp only[List.size_toArray];rw[hlen]⟩,q⟩
  | _=>exact(show False from e).elim
end
end L2
namespace L2
open PySem PySem.Spec PyProof.Rows
structure ObjM(h:Heap)(x dx C:Addr)(mA:Str→Option Value):Prop where
  obj:h.get? x=some (PySem.W.instObj C dx)
  ns:h.Ns1 dx mA
  ne:dx≠x
theorem lookIn_ns{h:Heap}{dx:Addr}{mA:Str→Option Value}(n:h.Ns1 dx mA):∃od,h.get? dx=some od∧∀name,PySem.W.lookIn name od=some (mA name):=by
  obtain⟨o,es,ep,ho,hd,hk,_,hm⟩:=n
  refine⟨o,ho,fun name=>?_⟩
  have e:=hm name
  unfold nsFind findBy at e
  rw[← Array.find?_toList]at e
  unfold PySem.W.lookIn
  rw[hd]
  dsimp only
  split
  · rename_i y q
    rw[q]at e
    exact congrArg some e
  · rename_i q
    rw[q]at e
    have a:es.toList.any (·.refKey)=false:=by
      rw[List.any_eq_false]
      intro y hy
      obtain⟨z,t,hkey⟩:=hk y (Array.mem_toList_iff.mp hy)
      simp[DictEntry.refKey,hkey]
    have a':¬es.toList.any (·.refKey)=true:=by rw[a];exact Bool.false_ne_true
    rw[if_neg a']
    exact congrArg some e
theorem ObjM.look{h:Heap}{x dx C:Addr}{mA:Str→Option Value}(I:ObjM h x dx C mA):∃od,PySem.W.InstAt h x (PySem.W.instObj C dx) C (some od)∧∀name,PySem.W.lookIn name od=some (mA name):=
  let⟨od,ho,hl⟩:=lookIn_ns I.ns
  ⟨od,⟨I.obj,rfl,rfl,ho⟩,hl⟩
section
variable{prog:Program}{w:World}{A:Around}{E:Value→Shared→Prop}{s:Shared}{K:PySem.W.Frag}{x dx C f:Addr}{mA:Str→Option Value}{name:Str}{v:Value}
theorem get_map{expr:Bool}{Q:Value→Shared→Prop}(X:K.In s.heap)(I:ObjM s.heap x dx C mA)(hg:PySem.W.plainGet K C name=true)(hh:PySem.W.hasDictIn K C=true)
    (ha:PySem.W.findIn K (.ref C) name=some none) (hv:mA name=some v) (hv':PySem.W.handedIn v=true) (h:Q v { s with toks:=s.toks+1 }) :
    wpAny (model prog w) A (getAttr (.ref x) name expr) Q E s:=by
  obtain⟨od,J,hl⟩:=I.look
  exact PySem.W.get_value X J (PySem.W.plainGet_of hg).1 (PySem.W.findObj_own hh ha rfl (by rw[hl,hv])) hv' h
theorem get_meth{pl:Sem Bool}{Q:Value × List Value→Shared→Prop}(X:K.In s.heap)(I:ObjM s.heap x dx C mA)(hg:PySem.W.plainGet K C name=true)
    (hf:PySem.W.findIn K (.ref C) name=some (some (.ref f))) (ht:PySem.W.isFn K (.ref f)=true) (hv:mA name=none) (h:Q (.ref f,[.ref x]) s) :
    wpAny (model prog w) A (getMethod (.ref x) name pl) Q E s:=by
  obtain⟨od,J,hl⟩:=I.look
  exact PySem.W.method_fn X J (PySem.W.plainGet_of hg).1 (PySem.W.plainGet_of hg).2 hf (beq_iff_eq.mp ht) (by show(PySem.W.lookIn name od).map (·.isSome)=some false;rw[hl,hv];rfl) h
theorem set_map{ns:List Str}{Q:Unit→Shared→Prop}(X:K.In s.heap)(I:ObjM s.heap x dx C mA)
    (hs:PySem.W.findIn K (.ref C) "__setattr__"=some (some (.builtin "object.__setattr__"))) (hp:PySem.W.plainOver K C=true) (ht:PySem.W.takerIn K C name=some none) (hh:PySem.W.hasDictIn K C=true)
    (hw:PySem.Within mA ns) (hsz:ns.length≤sizeLine)
    (h:∀h',ObjM h' x dx C (fun y=>if y=name then some v else mA y)→Heap.SameBut dx s.heap h'→Q () { s with heap:=h',toks:=s.toks+2 }) :
    wpAny (model prog w) A (setAttr (.ref x) name v) Q E s:=by
  obtain⟨od,J,hl⟩:=I.look
  refine PySem.W.set_plain X J hs (PySem.W.osa_open (s:={ s with toks:=s.toks+1 }) (r:=none) X J hp ht fun b=>?_)
  obtain⟨cd,hc,hd'⟩:=PySem.W.any_some hh
  have hx:s.heap.get? x=some ⟨.ref C,some dx,.plain,#[]⟩:=I.obj
  refine wpAny_bind (wpAny_pure (wpAny_bind (wpAny_bind (wpAny_loadPart hx (wpAny_bind (PySem.W.Looks.here (s:={ s with toks:=s.toks+1 }) (PySem.W.looks_clsIn X hc) ?_))))))
  rw[hd']
  refine wpAny_pure (a:=some dx) (wpAny_bind (wpAny_pure (wpAny_bind ?_)))
  refine wpAny_nsSet1 (s:={ s with toks:=s.toks+1 }) I.ns fun h' hn2 hs2=>?_
  obtain⟨oD,esD,epD,hoD,hdD,hcD⟩:=hn2.count (PySem.Within.cons name v hw)
  refine wpAny_bind (wpAny_lookBehind hoD (by rw[hdD];exact pastItsLine_dict (Nat.le_trans hcD (by rw[List.length_cons];omega))) ?_)
  exact wpAny_pure (h _ ⟨(hs2.2 _ (Ne.symm I.ne)).trans I.obj,hn2,I.ne⟩ hs2)
theorem make_map{R:Result→Shared→Prop}{vs:List Value}{kw:List (Str × Value)}(X:K.In s.heap)(hm:PySem.W.makesIn K C=true)
    (hi:PySem.W.findIn K (.ref C) "__init__"=some (some (.ref f))) (hf:PySem.W.typeIn K (.ref f)=some (.type "function"))
    (h:codeAny (model prog w) (A.under (.builtin "type.__call__" ⟨.ref C::vs,kw⟩)) (.call (.ref f) ⟨.ref (s.heap.objs.size+1)::vs,kw⟩) (PySem.W.InitBack (s.heap.objs.size+1) R)
      { s with heap:=(s.heap.push PySem.W.emptyDict).push (PySem.W.instObj C s.heap.objs.size) }) :
    codeAny (model prog w) A (.call (.ref C) ⟨vs,kw⟩) R s:=by
  obtain⟨hh,g,d,t,os⟩:=s
  exact PySem.W.make_core (PySem.W.makes_of X hm) (PySem.W.looks_findIn X hi) (fun self=>PySem.W.bind_fn X self hf) (.inl rfl) h
theorem make_map0{R:Result→Shared→Prop}(X:K.In s.heap)(hm:PySem.W.makesIn K C=true)
    (hi:PySem.W.findIn K (.ref C) "__init__"=some (some (.builtin "object.__init__")))
    (hb:∀self,PySem.W.Looks (model prog w) s.heap (bindSpecial (.builtin "object.__init__") self) (.builtin "object.__init__",[self]))
    (h:codeAny (model prog w) (A.under (.builtin "type.__call__" ⟨[.ref C],[]⟩)) (.call (.builtin "object.__init__") ⟨[.ref (s.heap.objs.size+1)],[]⟩) (PySem.W.InitBack (s.heap.objs.size+1) R)
      { s with heap:=(s.heap.push PySem.W.emptyDict).push (PySem.W.instObj C s.heap.objs.size) }) :
    codeAny (model prog w) A (.call (.ref C) ⟨[],[]⟩) R s:=by
  obtain⟨hh,g,d,t,os⟩:=s
  exact PySem.W.make_core (PySem.W.makes_of X hm) (PySem.W.looks_findIn X hi) hb (.inr ⟨rfl,rfl⟩) h
end
def putF(f:Str)(v:V):List (Str × V)→List (Str × V)
  | []=>[(f,v)]
  | (g,x)::r=>if g=f then(g,v)::r else(g,x)::putF f v r
theorem lookup_putF(f g:Str)(v:V):∀fs:List (Str × V),(putF f v fs).lookup g=if g=f then some v else fs.lookup g
  | []=>by
    show List.lookup g [(f,v)]=_
    by_cases h:g=f
    · have hb:(g == f)=true:=beq_iff_eq.mpr h
      simp only[List.lookup,hb,if_pos h]
    · have hb:(g == f)=false:=beq_eq_false_iff_ne.mpr h
      simp only[List.lookup,hb,if_neg h]
  | (k,x)::r=>by
    have ih:=lookup_putF f g v r
    rw[show putF f v ((k,x)::r)=(if k=f then(k,v)::r else(k,x)::putF f v r)from rfl]
    by_cases hk:k=f
    · rw[if_pos hk]
      by_cases h:g=k
      · have hb:(g == k)=true:=beq_iff_eq.mpr h
        simp only[List.lookup,hb,if_pos (h.trans hk)]
      · have hb:(g == k)=false:=beq_eq_false_iff_ne.mpr h
        simp only[List.lookup,hb,if_neg (fun e:g=f=>h (e.trans hk.symm))]
    · rw[if_neg hk]
      by_cases h:g=k
      · have hb:(g == k)=true:=beq_iff_eq.mpr h
        simp only[List.lookup,hb,if_neg (fun e:g=f=>hk (h.symm.trans e))]
      · have hb:(g == k)=false:=beq_eq_false_iff_ne.mpr h
        simp only[List.lookup,hb]
        exact ih
theorem keys_putF(f:Str)(v:V):∀fs:List (Str × V),f∈(putF f v fs).map (·.1)∧∀g,g∈fs.map (·.1)→g∈(putF f v fs).map (·.1)
  | []=>⟨by simp[putF],fun g h=>by simp at h⟩
  | (k,x)::r=>by
    obtain⟨i1,i2⟩:=keys_putF f v r
    rw[show putF f v ((k,x)::r)=(if k=f then(k,v)::r else(k,x)::putF f v r)from rfl]
    by_cases hk:k=f
    · rw[if_pos hk]
      subst hk
      exact⟨by simp,fun g h=>by simpa using h⟩
    · rw[if_neg hk]
      refine⟨?_,fun g h=>?_⟩
      · rw[List.map_cons]
        exact List.mem_cons_of_mem _ i1
      · rw[List.map_cons]at h ⊢
        rcases List.mem_cons.mp h with e | e
        · exact List.mem_cons.mpr (.inl e)
        · exact List.mem_cons_of_mem _ (i2 g e)
theorem length_putF(f:Str)(v:V):∀fs:List (Str × V),(putF f v fs).length≤fs.length+1
  | []=>by simp[putF]
  | (k,x)::r=>by
    have ih:=length_putF f v r
    rw[show putF f v ((k,x)::r)=(if k=f then(k,v)::r else(k,x)::putF f v r)from rfl]
    by_cases hk:k=f
    · rw[if_pos hk,List.length_cons,List.length_cons];omega
    · rw[if_neg hk,List.length_cons,List.length_cons];omega
theorem RelO.some_of{v:V}{o:Option Value}(r:RelO (some v) o):∃u,o=some u∧RelV v u:=by
  cases o with
  | none=>exact(show False from r).elim
  | some u=>exact⟨u,rfl,r⟩
theorem RelO.none_of{o:Option Value}(r:RelO none o):o=none:=by
  cases o with
  | none=>rfl
  | some u=>exact(show False from r).elim
theorem handed_of{v:V}{u:Value}(r:RelV v u):PySem.W.handedIn u=true:=by
  cases v with
  | non=>cases (show u=Value.none from r);rfl
  | bl b=>cases (show u=Value.bool b from r);rfl
  | int i=>obtain⟨t,e⟩:=(show ∃t,u=Value.int i t from r);cases e;rfl
  | str x=>obtain⟨t,e⟩:=(show ∃t,u=Value.str x t from r);cases e;rfl
  | byt b=>obtain⟨t,e⟩:=(show ∃t,u=Value.bytes b t from r);cases e;rfl
  | flt b=>obtain⟨t,e⟩:=(show ∃t,u=Value.float b t from r);cases e;rfl
  | ref a=>cases (show u=Value.ref a from r);rfl
  | ty n=>cases (show u=Value.type n from r);rfl
section
variable{P:Program}{w:World}{H H':Hp}{h h':Heap}{a C dx:Addr}{fs fs':List (Str × V)}
theorem ins_get(hok:HOk P w H h)(e:H a=some (.ins C dx fs)):∃mA,ObjM h a dx C mA∧(∀f,RelO (fs.lookup f) (mA f))∧PySem.Within mA (fs.map (·.1))∧fs.length≤1000∧H dx=some (.own a):=by
  obtain⟨d,z,ne,ob,mA,n,r,q⟩:=(show ObjOk P w H h a (.ins C dx fs)from hok a _ e)
  exact⟨mA,⟨ob,n,ne⟩,r,q,z,d⟩
end
structure Cls(K:PySem.W.Frag)(C:Addr):Prop where
  pg:PySem.W.plainGet K C Str.empty=true
  hd:PySem.W.hasDictIn K C=true
  po:PySem.W.plainOver K C=true
  sa:PySem.W.findIn K (.ref C) "__setattr__"=some (some (.builtin "object.__setattr__"))
theorem Cls.get{K:PySem.W.Frag}{C:Addr}(c:Cls K C)(f:Str):PySem.W.plainGet K C f=true:=c.pg
def NoAttr(K:PySem.W.Frag)(C:Addr)(f:Str):Prop:=PySem.W.findIn K (.ref C) f=some none
theorem NoAttr.taker{K:PySem.W.Frag}{C:Addr}{f:Str}(n:NoAttr K C f):PySem.W.takerIn K C f=some none:=by
  unfold PySem.W.takerIn
  rw[show PySem.W.findIn K (.ref C) f=some none from n]
  rfl
structure Con(K:PySem.W.Frag)(C:Addr)(f:Str)(v:V)(u:Value):Prop where
  at_:PySem.W.findIn K (.ref C) f=some (some u)
  rel:RelV v u
  get:PySem.W.specialIn K u "__get__"=some none
  cp:PySem.W.copiedNames.contains f=false
structure Meth(K:PySem.W.Frag)(C:Addr)(m:Str)(f:Addr):Prop where
  at_:PySem.W.findIn K (.ref C) m=some (some (.ref f))
  fn:PySem.W.isFn K (.ref f)=true
  kp:PySem.W.keepIn K (.ref f)=true
section
variable{X:Cx}{pins:List (Addr × Obj)}{σ:St}{H:Hp}{s:Shared}{a C dx:Addr}{fs:List (Str × V)}{f:Str}{v:V}{A:Around}{E:Value→Shared→Prop}
theorem getattr_ok{b:Bool}{Q:Value→Shared→Prop}(I:Inv X pins σ H s)(e:H a=some (.ins C dx fs))(c:Cls X.K C)(n:NoAttr X.K C f)(l:fs.lookup f=some v)
    (h:∀u s',Inv X pins σ H s'→RelV v u→Q u s'):wpAny (model X.prog X.w) A (getAttr (.ref a) f b) Q E s:=by
  obtain⟨mA,O,r,_,_,_⟩:=ins_get I.hok e
  obtain⟨u,hu,ru⟩:=RelO.some_of (v:=v) (o:=mA f) (by rw[← l];exact r f)
  exact get_map I.kIn O (c.get f) c.hd n hu (handed_of ru) (h u _ (I.tok _) ru)
theorem getmeth_ok{m:Str}{g:Addr}{pl:Sem Bool}{Q:Value × List Value→Shared→Prop}(I:Inv X pins σ H s)(e:H a=some (.ins C dx fs))(c:Cls X.K C)(k:Meth X.K C m g)(l:fs.lookup m=none)
    (h:Q (.ref g,[.ref a]) s):wpAny (model X.prog X.w) A (getMethod (.ref a) m pl) Q E s:=by
  obtain⟨mA,O,r,_,_,_⟩:=ins_get I.hok e
  have hn:mA m=none:=RelO.none_of (by rw[← l];exact r m)
  exact get_meth I.kIn O (c.get m) k.at_ k.fn hn h
theorem setattr_ok{y:V}{u:Value}{Q:Unit→Shared→Prop}(I:Inv X pins σ H s)(e:H a=some (.ins C dx fs))(c:Cls X.K C)(n:NoAttr X.K C f)(hl:fs.length < 1000)(ry:RelV y u)
    (h:∀s',Inv X pins σ (upd H a (.ins C dx (putF f y fs))) s'→Q () s'):wpAny (model X.prog X.w) A (setAttr (.ref a) f u) Q E s:=by
  obtain⟨mA,O,r,wi,_,ho⟩:=ins_get I.hok e
  have hz:(fs.map (·.1)).length≤sizeLine:=by rw[List.length_map,sizeLine_eq];omega
  refine set_map I.kIn O c.sa c.po n.taker c.hd wi hz fun h' O' sb=>h _ ?_
  have hd:∃o,h'.get? dx=some o:=let⟨o,_,_,e',_⟩:=O'.ns;⟨o,e'⟩
  refine I.write (x:=a) (e:=dx) (by rw[e];exact True.intro) (.inr ho) (fun b q hb z=>(sb.2 b hb).trans z) hd ?_
  refine⟨by rw[upd_ne O.ne];exact ho,?_,O.ne,O'.obj,_,O'.ns,fun g=>?_,fun g hg=>?_⟩
  · have:=length_putF f y fs;omega
  · show RelO ((putF f y fs).lookup g) (if g=f then some u else mA g)
    rw[lookup_putF]
    by_cases q:g=f
    · rw[if_pos q,if_pos q];exact ry
    · rw[if_neg q,if_neg q];exact r g
  · by_cases q:g=f
    · rw[q];exact(keys_putF f y fs).1
    · refine(keys_putF f y fs).2 g (wi g fun z=>hg ?_)
      show(if g=f then some u else mA g)=none
      rw[if_neg q];exact z
theorem Inv.made(I:Inv X pins σ H s):Inv X pins σ (upd (upd H s.heap.objs.size (.own (s.heap.objs.size+1))) (s.heap.objs.size+1) (.ins C s.heap.objs.size []))
    { s with heap:=(s.heap.push PySem.W.emptyDict).push (PySem.W.instObj C s.heap.objs.size) }:=by
  have e1:(s.heap.push PySem.W.emptyDict).get? s.heap.objs.size=some PySem.W.emptyDict:=Heap.get?_push_size s.heap rfl
  have e2:((s.heap.push PySem.W.emptyDict).push (PySem.W.instObj C s.heap.objs.size)).get? (s.heap.objs.size+1)=some (PySem.W.instObj C s.heap.objs.size):=by
    have:=Heap.get?_push_size (s.heap.push PySem.W.emptyDict) (o:=PySem.W.instObj C s.heap.objs.size) rfl
    rwa [Heap.size_push]at this
  have e3:(s.heap.push PySem.W.emptyDict).Ns s.heap.objs.size (fun _=>none):=⟨PySem.W.emptyDict,#[],_,e1,rfl,(fun e he=>absurd he (by simp)),fun _=>rfl⟩
  have I1:=I.laid (a:=s.heap.objs.size) (o:=.own (s.heap.objs.size+1)) (h':=s.heap.push PySem.W.emptyDict) (t':=s.toks) (fun b u q=>Heap.get?_push_of_some _ q) (Nat.le_refl _) ⟨_,e1⟩
  refine I1.laid (a:=s.heap.objs.size+1) (o:=.ins C s.heap.objs.size []) (t':=s.toks) (fun b u q=>Heap.get?_push_of_some _ q) (Nat.le_of_eq (Heap.size_push _ _)) ?_
  have ne:s.heap.objs.size≠s.heap.objs.size+1:=Nat.ne_of_lt (Nat.lt_succ_self _)
  refine⟨by rw[upd_ne ne,upd_same],Nat.zero_le _,ne,e2,fun _=>none,(Heap.Ns1.of_empty e3).at fun o q=>Heap.get?_push_of_some _ q,fun _=>True.intro,fun y hy=>absurd rfl hy⟩
theorem attr_of{prog:Program}{w:World}{env:Env}{e:Expr}{f:Str}{pos:Pos}{s:Shared}{Q:Value→Shared→Prop}(hb:attributeBase e f env (eval e env)=eval e env)
    (h:wpAny (model prog w) A (eval e env) (fun o s₁=>wpAny (model prog w) A (getAttr o f true) Q E s₁) E s):wpAny (model prog w) A (eval (.Attribute e f pos) env) Q E s:=
  Attribute_any_ h (by rw[arm_eval_Attribute,hb])
end
def tFld(K:PySem.W.Frag)(ta:TE)(f:Str):TE:=fun σ H Q=>ta σ H fun x H1=>∃a C dx fs v,x=.ref a∧H1 a=some (.ins C dx fs)∧Cls K C∧NoAttr K C f∧fs.lookup f=some v∧Q v H1
def sFld(K:PySem.W.Frag)(ta tv:TE)(f:Str):TS:=fun D σ H=>tv σ H fun y H1=>ta σ H1 fun x H2=>∃a C dx fs,x=.ref a∧H2 a=some (.ins C dx fs)∧Cls K C∧NoAttr K C f∧fs.length < 1000∧
  D.nx σ (upd H2 a (.ins C dx (putF f y fs)))
section
variable{X:Cx}{o e value:Expr}{f:Str}{pos pos' tpos:Pos}{ta tv:TE}
theorem pe_fld(he:PE X e ta)(hb:attributeBase e f X.env (eval e X.env)=eval e X.env):PE X (.Attribute e f pos) (tFld X.K ta f):=by
  intro pins s σ H Q I h
  refine attr_of hb (thn (he pins s σ H _ I h) fun u s1 ⟨x,H1,I1,rx,a,C,dx,fs,v,ex,ea,c,n,l,q⟩=>?_)
  subst ex
  obtain rfl:u=Value.ref a:=rx
  exact getattr_ok I1 ea c n l fun u' s2 I2 ru=>⟨v,H1,I2,ru,q⟩
theorem ps_fld(ha:PE X o ta)(hv:PE X value tv)(hs:swapsWith value (some (.Attribute o f pos')) pos.line X.env=pure false):PS X (.Assign [.Attribute o f pos'] value pos) (sFld X.K ta tv f):=by
  intro pins s σ H D I h
  refine plainObj_wpAny_Assign_Attribute (thn (hv pins s σ H _ I h) fun u s1 ⟨y,H1,I1,ry,q⟩=>thn (ha pins s1 σ H1 _ I1 q) fun ov s2 ⟨x,H2,I2,rx,a,C,dx,fs,ex,ea,c,n,l,q2⟩=>?_) hs
  subst ex
  obtain rfl:ov=Value.ref a:=rx
  exact setattr_ok I2 ea c n l ry fun s3 I3=>⟨σ,_,I3,q2⟩
end
section
variable{X:Cx}{pins:List (Addr × Obj)}{σ:St}{H:Hp}{s:Shared}{A:Around}{E:Value→Shared→Prop}{Q:Value→Shared→Prop}{c:Value}{b:Bool}
inductive TyOf(K:PySem.W.Frag)(H:Hp):V→Value→Prop where
  | non:TyOf K H .non (.type "NoneType")
  | bl (x:Bool):TyOf K H (.bl x) (.type "bool")
  | int (i:Int):TyOf K H (.int i) (.type "int")
  | str (x:Str):TyOf K H (.str x) (.type "str")
  | flt (x:UInt64):TyOf K H (.flt x) (.type "float")
  | lst {a:Addr} {xs:List V} (e:H a=some (.lst xs)):TyOf K H (.ref a) (.type "list")
  | frz {a:Addr} {o:Obj} {xs:List V} (e:H a=some (.frz o (.lst xs))):TyOf K H (.ref a) (.type "list")
  | tup {a:Addr} {xs:List V} (e:H a=some (.tup xs)):TyOf K H (.ref a) (.type "tuple")
  | dK {a:Addr} {kvs:List (Key × V)} (e:H a=some (.dK kvs)):TyOf K H (.ref a) (.type "dict")
  | dT {a:Addr} {kvs:List (List Key × V)} (e:H a=some (.dT kvs)):TyOf K H (.ref a) (.type "dict")
  | ins {a C dx:Addr} {fs:List (Str × V)} (e:H a=some (.ins C dx fs)) (cl:Cls K C) (ha:PySem.W.findIn K (.ref C) "__class__"=some (some (.builtin "object.__class__")))
      (hn:PySem.W.specialIn K (.builtin "object.__class__") "__get__"=some (some (.builtin "getset_descriptor.__get__"))) (htk:PySem.W.takesIn K (.builtin "object.__class__")=some true)
      (hm:PySem.W.mroIn K C (.type "object")=some true):TyOf K H (.ref a) (.ref C)
theorem isinst_ok{x:V}{u t:Value}(I:Inv X pins σ H s)(rx:RelV x u)(ty:TyOf X.K H x t)(e:PySem.W.kitOne X.K t c=some b)(h:∀tk,Q (.bool b) { s with toks:=tk }) :
    wpAny (model X.prog X.w) A (call (.builtin "isinstance") [u,c]) Q E s:=by
  cases ty with
  | non=>cases (show u=Value.none from rx);exact PySem.W.kia_one PySem.W.kitx_none I.kIn True.intro e (fun z=>nomatch z) h
  | bl y=>cases (show u=Value.bool y from rx);exact PySem.W.kia_one PySem.W.kitx_bool I.kIn True.intro e (fun z=>nomatch z) h
  | int i=>obtain⟨t,q⟩:=(show ∃t,u=Value.int i t from rx);cases q;exact PySem.W.kia_one PySem.W.kitx_int I.kIn True.intro e (fun z=>nomatch z) h
  | str y=>obtain⟨t,q⟩:=(show ∃t,u=Value.str y t from rx);cases q;exact PySem.W.kia_one PySem.W.kitx_str I.kIn True.intro e (fun z=>nomatch z) h
  | flt y=>obtain⟨t,q⟩:=(show ∃t,u=Value.float y t from rx);cases q;exact PySem.W.kia_one PySem.W.kitx_float I.kIn True.intro e (fun z=>nomatch z) h
  | @lst a xs ea=>
    cases (show u=Value.ref a from rx)
    obtain⟨_,_,n,_,h1⟩:=(show ObjOk X.prog X.w H s.heap a (.lst xs)from I.hok a _ ea)
    exact PySem.W.kia_one PySem.W.kitx_list I.kIn ⟨_,h1,rfl⟩ e (fun z=>nomatch z) h
  | @frz a ob xs ea=>
    cases (show u=Value.ref a from rx)
    obtain⟨_,_,_,n,_,h1⟩:=(show ObjOk X.prog X.w H s.heap a (.frz ob (.lst xs))from I.hok a _ ea)
    exact PySem.W.kia_one PySem.W.kitx_list I.kIn ⟨_,h1,rfl⟩ e (fun z=>nomatch z) h
  | @tup a xs ea=>
    cases (show u=Value.ref a from rx)
    obtain⟨_,_,_,p,_⟩:=(show ObjOk X.prog X.w H s.heap a (.tup xs)from I.hok a _ ea)
    obtain⟨o,h1,h2,_⟩:=p
    exact PySem.W.kia_one PySem.W.kitx_tuple I.kIn ⟨o,h1,h2⟩ e (fun z=>nomatch z) h
  | @dK a kvs ea=>
    cases (show u=Value.ref a from rx)
    obtain⟨_,_,vs,_,p⟩:=(show ObjOk X.prog X.w H s.heap a (.dK kvs)from I.hok a _ ea)
    obtain⟨o,es,ep,h1,h2,_⟩:=p
    exact PySem.W.kia_one PySem.W.kitx_dict I.kIn ⟨o,h1,h2.1⟩ e (fun z=>nomatch z) h
  | @dT a kvs ea=>
    cases (show u=Value.ref a from rx)
    obtain⟨_,_,xs,_,o,es,ep,h1,h2,_⟩:=(show ObjOk X.prog X.w H s.heap a (.dT kvs)from I.hok a _ ea)
    exact PySem.W.kia_one PySem.W.kitx_dict I.kIn ⟨o,h1,h2.1⟩ e (fun z=>nomatch z) h
  | @ins a C dx fs ea cl ha hn htk hm=>
    cases (show u=Value.ref a from rx)
    obtain⟨mA,O,_⟩:=ins_get I.hok ea
    obtain⟨od,J,_⟩:=O.look
    exact PySem.W.kia_one (PySem.W.kitx_own (cl.get _) cl.hd ha hn htk hm) I.kIn J e (fun z=>nomatch z) h
end
end L2
namespace L2
open PySem PySem.Spec PyProof.Rows
structure Room(k:Nat)(A:Around):Prop where
  hd:A.handled=none
  dp:A.depth+3 * k+5 < recursionLimit
  un:A.units+16 * k+200 < cLine
theorem Room.mono{j k:Nat}{A:Around}(r:Room k A)(h:j≤k):Room j A:=⟨r.hd,by have:=r.dp;omega,by have:=r.un;omega⟩
theorem Room.deeper{k:Nat}{A:Around}(r:Room (k+1) A)(env:Env):Room k (A.deeper env):=
  ⟨r.hd,by have:=r.dp;show A.depth+1+3 * k+5 < _;omega,by have:=r.un;show A.units+3+16 * k+200 < _;omega⟩
theorem Room.in1{k:Nat}{A:Around}(r:Room (k+1) A):Room k A.in1:=
  ⟨r.hd,by have:=r.dp;show A.depth+3 * k+5 < _;omega,by have:=r.un;show A.units+1+16 * k+200 < _;omega⟩
theorem make_depth{A:Around}{C:Addr}{us:List Value}{kw:List (Str × Value)}:(A.under (.builtin "type.__call__" ⟨.ref C::us,kw⟩)).depth=A.depth+1:=by
  first | rfl | simp[Around.under,Code.weight,Code.isCreation,Code.isGuard,Code.isCaller,Code.frames,Code.isFrame,guardIds]
theorem make_units{A:Around}{C:Addr}{us:List Value}{kw:List (Str × Value)}:(A.under (.builtin "type.__call__" ⟨.ref C::us,kw⟩)).units=A.units+1:=by
  first | rfl | simp[Around.under,Code.cUnits,Code.frames,Code.isFrame]
theorem Room.make{k:Nat}{A:Around}(r:Room (k+1) A)(C:Addr)(us:List Value)(kw:List (Str × Value)):Room k (A.under (.builtin "type.__call__" ⟨.ref C::us,kw⟩)):=
  ⟨r.hd,by have:=r.dp;rw[make_depth];omega,by have:=r.un;rw[make_units];omega⟩
theorem Room.depth{k:Nat}{A:Around}(r:Room k A):A.depth < recursionLimit:=by have:=r.dp;omega
theorem Room.units{k:Nat}{A:Around}(r:Room k A):A.units+64 < cLine:=by have:=r.un;omega
def tNil:TA:=fun _ H Q=>Q [] H
def tCons(ta:TE)(tr:TA):TA:=fun σ H Q=>ta σ H fun x H1=>tr σ H1 fun xs H2=>Q (x::xs) H2
section
variable{X:Cx}{e:Expr}{es:List Expr}{te:TE}{t:TA}{pos:Pos}
theorem pa_nil:PA X [] tNil:=fun _ _ _ _ H Q I h=>Calls.spliced_nil ⟨[],H,I,.nil,h⟩
theorem pa_cons(ha:PE X e te)(hr:PA X es t)(hs:starEach (e::es) X.env=(false,eval e X.env)::starEach es X.env:=by rfl):PA X (e::es) (tCons te t):=by
  intro pos pins s σ H Q I h
  rw[hs]
  show wpAny _ _ (spliced ((false,eval e X.env)::backTo pos (starEach es X.env))) _ _ s
  refine Calls.spliced_cons (thn (ha pins s σ H _ I h) fun u s1 ⟨x,H1,I1,r1,q1⟩=>?_)
  exact thn (hr pos pins s1 σ H1 _ I1 q1) fun us s2 ⟨xs,H2,I2,r2,q2⟩=>⟨x::xs,H2,I2,.cons r1 r2,q2⟩
def tTup(t:TA):TE:=fun σ H Q=>t σ H fun xs H1=>xs.length≤sizeLine∧∀p,H1 p=none→Q (.ref p) (upd H1 p (.tup xs))
def tLst(t:TA):TE:=fun σ H Q=>t σ H fun xs H1=>xs.length≤sizeLine∧∀p,H1 p=none→Q (.ref p) (upd H1 p (.lst xs))
theorem pe_tup{x1}(h:PA X es t):PE X (.Tuple es x1 pos) (tTup t):=by
  intro pins s σ H Q I hq
  refine wpAny_Tuple_spliced (thn (h pos pins s σ H _ I hq) fun us s1 ⟨xs,H1,I1,r,z,q⟩=>⟨by rw[← r.length];exact z,?_⟩)
  have hf:H1 s1.heap.objs.size=none:=I1.hok.fresh (Nat.le_refl _)
  refine⟨.ref s1.heap.objs.size,upd H1 s1.heap.objs.size (.tup xs),I1.laid (t':=s1.toks) (fun b u e=>Heap.get?_push_of_some _ e) (Nat.le_refl _) ?_,rfl,q _ hf⟩
  exact⟨z,us,r,⟨_,Heap.get?_push_size _ rfl,rfl,_,rfl⟩,fun _=>⟨_,Heap.get?_push_size _ rfl,rfl⟩⟩
theorem pe_lst(h:PA X es t):PE X (.List es pos) (tLst t):=by
  intro pins s σ H Q I hq
  refine wpAny_List_spliced (thn (h pos pins s σ H _ I hq) fun us s1 ⟨xs,H1,I1,r,z,q⟩=>⟨by rw[← r.length];exact z,?_⟩)
  have hf:H1 s1.heap.objs.size=none:=I1.hok.fresh (Nat.le_refl _)
  refine⟨.ref s1.heap.objs.size,upd H1 s1.heap.objs.size (.lst xs),I1.laid (t':=s1.toks) (fun b u e=>Heap.get?_push_of_some _ e) (Nat.le_refl _) ?_,rfl,q _ hf⟩
  exact⟨z,us,0,r,Heap.get?_push_size _ rfl⟩
end
abbrev Sp:=List V→Hp→VK→XK→Prop
abbrev CXT:=List Env→Hp→Shared→XK→Value→Shared→Prop
structure Env0(P:Program)(w:World)(K:PySem.W.Frag)(mg:Str→Option Value)(base:Heap)(A:Around)(outer:List Env)(s:Shared)(H:Hp):Prop where
  frames:A.frames=some outer
  mod:Mod K mg base
  bs:∀b o,base.get? b=some o→s.heap.get? b=some o∧H b=none
  bsz:base.objs.size≤s.heap.objs.size
  funs:s.heap.FunFrames base outer
  frf:∀b∈frs outer,H b=none
  hok:HOk P w H s.heap
  bare:AllBare s.gens
def CE(outer:List Env)(P:Program)(w:World)(H:Hp)(s:Shared)(Q:VK)(u:Value)(s':Shared):Prop:=
  ∃v H',s'.os=s.os∧AllBare s'.gens∧Un (frs outer) [] H H' s.heap s'.heap∧HOk P w H' s'.heap∧RelV v u∧Q v H'
def CR(CX:CXT)(outer:List Env)(P:Program)(w:World)(H:Hp)(s:Shared)(Q:VK)(E:XK)(r:Result)(s':Shared):Prop:=
  match r with
  | .ok (.ret u)=>CE outer P w H s Q u s'
  | .ok _=>False
  | .error e=>CX outer H s E e s'
structure FnOk(P:Program)(w:World)(K:PySem.W.Frag)(mg:Str→Option Value)(base:Heap)(CX:CXT)(k:Nat)(f:Addr)(fd:FuncData)(ps:List Str)(sp:Sp):Prop where
  len:∀vs H Q E,sp vs H Q E→vs.length=ps.length
  run:∀(A:Around) (outer:List Env) (s:Shared) (H:Hp) (args:Args) (us:List Value) (vs:List V) (Q:VK) (E:XK),Room k A→Env0 P w K mg base A outer s H→BindsTo s fd args (ps.zip us)→Vals vs us→sp vs H Q E→
    codeAny (model P w) A (.call (.ref f) args) (CR CX outer P w H s Q E) s
theorem FnOk.mono{P:Program}{w:World}{K:PySem.W.Frag}{mg:Str→Option Value}{base:Heap}{CX:CXT}{j k:Nat}{f:Addr}{fd:FuncData}{ps:List Str}{sp:Sp}(F:FnOk P w K mg base CX j f fd ps sp)(h:j≤k) :
    FnOk P w K mg base CX k f fd ps sp:=⟨F.len,fun A outer s H args us vs Q E hr=>F.run A outer s H args us vs Q E (hr.mono h)⟩
theorem FnOk.imp{P:Program}{w:World}{K:PySem.W.Frag}{mg:Str→Option Value}{base:Heap}{CX:CXT}{k:Nat}{f:Addr}{fd:FuncData}{ps:List Str}{sp sp':Sp}(F:FnOk P w K mg base CX k f fd ps sp)
    (h:∀vs H Q E,sp' vs H Q E→sp vs H Q E):FnOk P w K mg base CX k f fd ps sp':=
  ⟨fun vs H Q E q=>F.len vs H Q E (h _ _ _ _ q),fun A outer s H args us vs Q E hr he hb hv hs=>F.run A outer s H args us vs Q E hr he hb hv (h _ _ _ _ hs)⟩
theorem Env0.make{P:Program}{w:World}{K:PySem.W.Frag}{mg:Str→Option Value}{base:Heap}{A:Around}{outer:List Env}{s:Shared}{H:Hp}(e:Env0 P w K mg base A outer s H)(C:Addr)(us:List Value)(kw:List (Str × Value)) :
    Env0 P w K mg base (A.under (.builtin "type.__call__" ⟨.ref C::us,kw⟩)) outer s H:=⟨by first | exact e.frames | (simpa [Around.under,Code.envs,Code.isFrame,pushEnvs] using e.frames),e.mod,e.bs,e.bsz,e.funs,e.frf,e.hok,e.bare⟩
theorem Env0.in1{P:Program}{w:World}{K:PySem.W.Frag}{mg:Str→Option Value}{base:Heap}{A:Around}{outer:List Env}{s:Shared}{H:Hp}(e:Env0 P w K mg base A outer s H) :
    Env0 P w K mg base A.in1 outer s H:=⟨e.frames,e.mod,e.bs,e.bsz,e.funs,e.frf,e.hok,e.bare⟩
section
variable{X:Cx}{pins:List (Addr × Obj)}{σ:St}{H:Hp}{s s':Shared}
theorem Inv.env0(I:Inv X pins σ H s):Env0 X.prog X.w X.K X.mg X.base X.A X.stack s H:=
  ⟨I.ok.frames,I.ok.mod,I.bs,Nat.le_trans I.ok.bsz I.sz,I.stack,I.stkFree,I.hok,I.bare⟩
theorem Inv.after{Q:VK}{u:Value}(I:Inv X pins σ H s)(h:CE X.stack X.prog X.w H s Q u s'):EP X pins σ Q u s':=by
  obtain⟨v,H',os,bare,un,hok,r,q⟩:=h
  obtain⟨hh,g,d,t,os'⟩:=s'
  obtain rfl:os'=s.os:=os
  exact⟨v,H',I.call (h':=hh) (g':=g) (d':=d) (t':=t) (ch:=[]) un hok bare (fun b z=>absurd z (by simp)),r,q⟩
end
def tCall(sp:Sp)(dvs:List V)(E:XK)(t:TA):TE:=fun σ H Q=>t σ H fun vs H1=>sp (vs++dvs) H1 Q E
def tMeth(C:Addr)(m:Str)(sp:Sp)(dvs:List V)(E:XK)(ta:TE)(t:TA):TE:=fun σ H Q=>ta σ H fun x H1=>∃a dx fs,x=.ref a∧H1 a=some (.ins C dx fs)∧fs.lookup m=none∧
  t σ H1 fun vs H2=>sp (x::(vs++dvs)) H2 Q E
def tMake(C:Addr)(sp:Sp)(dvs:List V)(E:XK)(t:TA):TE:=fun σ H Q=>t σ H fun vs H1=>∀x dx,H1 x=none→H1 dx=none→dx≠x→
  sp (.ref x::(vs++dvs)) (upd (upd H1 dx (.own x)) x (.ins C dx [])) (fun v H2=>v=.non∧Q (.ref x) H2) E
def Binds(K:PySem.W.Frag)(fd:FuncData)(ps:List Str)(ds:List Value):Prop:=
  ∀(s:Shared) (us:List Value),K.In s.heap→(us++ds).length=ps.length→BindsTo s fd ⟨us,[]⟩ (ps.zip (us++ds))
theorem Binds.all{K:PySem.W.Frag}{fd:FuncData}{ps:List Str}(h:∀us:List Value,us.length=ps.length→bindArgs fd ⟨us,[]⟩=pure (ps.zip us)):Binds K fd ps []:=fun s us _ hl=>by
  rw[List.append_nil]at hl ⊢
  exact .of_eq (h us hl)
def Passes(CX:CXT)(X:Cx)(E:XK):Prop:=∀(pins:List (Addr × Obj)) (σ:St) (H:Hp) (s:Shared) (e:Value) (s':Shared),Inv X pins σ H s→CX X.stack H s E e s'→X.xe e s'
section
variable{X:Cx}{CX:CXT}{k:Nat}{f C:Addr}{fd:FuncData}{ps:List Str}{sp:Sp}{dvs:List V}{ds:List Value}{E:XK}{x m:Str}{p pos apos:Pos}{e o:Expr}{es:List Expr}{ta:TE}{t:TA}
theorem run_fn{pins:List (Addr × Obj)}{σ:St}{H:Hp}{s:Shared}{Q:VK}{us:List Value}{vs:List V}(F:FnOk X.prog X.w X.K X.mg X.base CX k f fd ps sp)(hr:Room k X.A)(hb:Binds X.K fd ps ds)(hd:Vals dvs ds)(hx:Passes CX X E)
    (I:Inv X pins σ H s) (r:Vals vs us) (h:sp (vs++dvs) H Q E):wpAny (model X.prog X.w) X.A (call (.ref f) us) (EP X pins σ Q) X.xe s:=by
  have r2:Vals (vs++dvs) (us++ds):=r.append hd
  have hl:(us++ds).length=ps.length:=by rw[← r2.length];exact F.len _ _ _ _ h
  refine wpAny_call (codeAny_mono (F.run X.A X.stack s H ⟨us,[]⟩ (us++ds) (vs++dvs) Q E hr I.env0 (hb s us I.kIn hl) r2 h) fun r s' hq=>?_)
  cases r with
  | error e=>exact hx pins σ H s e s' I hq
  | ok fl=>
    cases fl with
    | ret u=>exact I.after hq
    | next=>exact False.elim hq
    | brk=>exact False.elim hq
    | cont=>exact False.elim hq
theorem pe_call(F:FnOk X.prog X.w X.K X.mg X.base CX k f fd ps sp)(hr:Room k X.A)(hg:Gl X x)(hm:X.mg x=some (.ref f))(hk:PySem.W.keepIn X.K (.ref f)=true)(hb:Binds X.K fd ps ds)(hd:Vals dvs ds)(hx:Passes CX X E)
    (ha:PA X (e::es) t) (hdb:(x == ("__debug__":Str))=false:=by decide) (he:starEach (e::es) X.env=(false,eval e X.env)::starEach es X.env:=by rfl) (hpl:(backTo pos (starEach es X.env)).any (·.1)=false:=by rfl) :
    PE X (.Call (.Name x p) (e::es) [] pos) (tCall sp dvs E t):=by
  intro pins s σ H Q I h
  refine wpAny_Call_Name_kw (ld_glob I hg hm ?_ hdb)
  refine PySem.W.callWith_K (h₀:=X.base) I.ok.mod.kin hk (thn (ha pos pins s σ H _ I h) fun us s1 ⟨vs,H1,I1,r,q⟩=>⟨I1.kIn,?_⟩) he hpl
  exact run_fn F hr hb hd hx I1 r q
theorem pe_meth{pl:Sem Bool}(he:PE X o ta)(c:Cls X.K C)(hm:Meth X.K C m f)(F:FnOk X.prog X.w X.K X.mg X.base CX k f fd ps sp)(hr:Room k X.A)(hb:Binds X.K fd ps ds)(hd:Vals dvs ds)(hx:Passes CX X E)(ha:PA X (e::es) t)
    (hst:starEach (e::es) X.env=(false,eval e X.env)::starEach es X.env:=by rfl) (hpl:(backTo pos (starEach es X.env)).any (·.1)=false:=by rfl)
    (ht:eval (.Call (.Attribute o m apos) (e::es) [] pos) X.env=(do
      let ov ← eval o X.env
      standAt apos.atName
      let(f,first) ← holding [ov] (getMethod ov m pl)
      callWith pos f first (backTo pos (starEach (e::es) X.env)) (backToKw pos (keywordEach [] X.env))):=by rfl) :
    PE X (.Call (.Attribute o m apos) (e::es) [] pos) (tMeth C m sp dvs E ta t):=by
  intro pins s σ H Q I h
  refine PySem.W.methodCall_KW (pl:=pl) (thn (he pins s σ H _ I h) fun u s1 ⟨x,H1,I1,rx,a,dx,fs,ex,ea,l,q⟩=>?_) ht
  subst ex
  obtain rfl:u=Value.ref a:=rx
  refine getmeth_ok I1 ea c hm l ?_
  refine PySem.W.callWith_K (first:=[.ref a]) (h₀:=X.base) I.ok.mod.kin hm.kp (thn (ha pos pins s1 σ H1 _ I1 q) fun us s2 ⟨vs,H2,I2,r,q2⟩=>⟨I2.kIn,?_⟩) hst hpl
  exact run_fn (us:=.ref a::us) (vs:=.ref a::vs) F hr hb hd hx I2 (.cons rfl r) q2
theorem pe_meth0{pl:Sem Bool}(he:PE X o ta)(c:Cls X.K C)(hm:Meth X.K C m f)(F:FnOk X.prog X.w X.K X.mg X.base CX k f fd ps sp)(hr:Room k X.A)(hb:Binds X.K fd ps ds)(hd:Vals dvs ds)(hx:Passes CX X E)
    (ht:eval (.Call (.Attribute o m apos) [] [] pos) X.env=(do
      let ov ← eval o X.env
      standAt apos.atName
      let(f,first) ← holding [ov] (getMethod ov m pl)
      callWith pos f first (backTo pos (starEach [] X.env)) (backToKw pos (keywordEach [] X.env))):=by rfl) :
    PE X (.Call (.Attribute o m apos) [] [] pos) (tMeth C m sp dvs E ta tNil):=by
  intro pins s σ H Q I h
  refine PySem.W.methodCall_KW (pl:=pl) (thn (he pins s σ H _ I h) fun u s1 ⟨x,H1,I1,rx,a,dx,fs,ex,ea,l,q⟩=>?_) ht
  subst ex
  obtain rfl:u=Value.ref a:=rx
  refine getmeth_ok I1 ea c hm l ?_
  exact PySem.W.callWith_K0 (first:=[.ref a]) I1.kIn hm.kp (run_fn (us:=[.ref a]) (vs:=[.ref a]) F hr hb hd hx I1 (.cons rfl .nil) q)
structure Mk(K:PySem.W.Frag)(C f:Addr):Prop where
  makes:PySem.W.makesIn K C=true
  init:PySem.W.findIn K (.ref C) "__init__"=some (some (.ref f))
  fn:PySem.W.isFn K (.ref f)=true
  kp:PySem.W.keepIn K (.ref C)=true
theorem run_make{pins:List (Addr × Obj)}{σ:St}{H:Hp}{s:Shared}{Q:VK}{us:List Value}{vs:List V}(M:Mk X.K C f)(F:FnOk X.prog X.w X.K X.mg X.base CX k f fd ps sp)(hr:Room (k+1) X.A)(hb:Binds X.K fd ps ds)(hd:Vals dvs ds)
    (hx:Passes CX X E) (I:Inv X pins σ H s) (r:Vals vs us)
    (h:∀x dx,H x=none→H dx=none→dx≠x→sp (.ref x::(vs++dvs)) (upd (upd H dx (.own x)) x (.ins C dx [])) (fun v H2=>v=.non∧Q (.ref x) H2) E) :
    wpAny (model X.prog X.w) X.A (call (.ref C) us) (EP X pins σ Q) X.xe s:=by
  have hq:=h (s.heap.objs.size+1) s.heap.objs.size (I.hok.fresh (Nat.le_succ _)) (I.hok.fresh (Nat.le_refl _)) (Nat.ne_of_lt (Nat.lt_succ_self _))
  have I2:=Inv.made (C:=C) I
  have r2:Vals (V.ref (s.heap.objs.size+1)::(vs++dvs)) (Value.ref (s.heap.objs.size+1)::(us++ds)):=.cons rfl (r.append hd)
  have hl:(Value.ref (s.heap.objs.size+1)::us++ds).length=ps.length:=by
    have e:=r2.length
    rw[F.len _ _ _ _ hq]at e
    exact e.symm
  refine wpAny_call (make_map (f:=f) I.kIn M.makes M.init (beq_iff_eq.mp M.fn) (codeAny_mono (F.run _ X.stack _ _ ⟨Value.ref (s.heap.objs.size+1)::us,[]⟩ (Value.ref (s.heap.objs.size+1)::(us++ds)) _ _ E (hr.make C us [])
    (I2.env0.make C us []) (hb _ (Value.ref (s.heap.objs.size+1)::us) I2.kIn hl) r2 hq) fun r s' hq'=>?_))
  cases r with
  | error e=>exact hx pins σ _ _ e s' I2 hq'
  | ok fl=>
    cases fl with
    | ret u=>
      obtain⟨v,H',I3,rv,ev,q3⟩:=I2.after hq'
      subst ev
      exact⟨rv,⟨V.ref (s.heap.objs.size+1),H',I3,rfl,q3⟩⟩
    | next=>exact False.elim hq'
    | brk=>exact False.elim hq'
    | cont=>exact False.elim hq'
theorem pe_make(M:Mk X.K C f)(F:FnOk X.prog X.w X.K X.mg X.base CX k f fd ps sp)(hr:Room (k+1) X.A)(hg:Gl X x)(hm:X.mg x=some (.ref C))(hb:Binds X.K fd ps ds)(hd:Vals dvs ds)(hx:Passes CX X E)
    (ha:PA X (e::es) t) (hdb:(x == ("__debug__":Str))=false:=by decide) (he:starEach (e::es) X.env=(false,eval e X.env)::starEach es X.env:=by rfl) (hpl:(backTo pos (starEach es X.env)).any (·.1)=false:=by rfl) :
    PE X (.Call (.Name x p) (e::es) [] pos) (tMake C sp dvs E t):=by
  intro pins s σ H Q I h
  refine wpAny_Call_Name_kw (ld_glob I hg hm ?_ hdb)
  refine PySem.W.callWith_K (h₀:=X.base) I.ok.mod.kin M.kp (thn (ha pos pins s σ H _ I h) fun us s1 ⟨vs,H1,I1,r,q⟩=>⟨I1.kIn,?_⟩) he hpl
  exact run_make M F hr hb hd hx I1 r q
end
section
variable{X:Cx}{CX:CXT}{k:Nat}{f C:Addr}{fd:FuncData}{ps ks:List Str}{sp:Sp}{E:XK}{x m:Str}{p pos apos kpos:Pos}{e o:Expr}{es:List Expr}{kws:List Keyword}{te ta:TE}{t tk:TA}{nm:Option Str}
structure KBinds(K:PySem.W.Frag)(fd:FuncData)(ps ks:List Str)(g:List Value→List Value→List Value)(gV:List V→List V→List V):Prop where
  to:∀(s:Shared) (us ws:List Value),K.In s.heap→(g us ws).length=ps.length→BindsTo s fd ⟨us,ks.zip ws⟩ (ps.zip (g us ws))
  rel:∀{vs:List V} {us:List Value} {zs:List V} {ws:List Value},Vals vs us→Vals zs ws→Vals (gV vs zs) (g us ws)
variable{g:List Value→List Value→List Value}{gV:List V→List V→List V}
end
structure FnScope(N P:List Str)(sc:Scope):Prop where
  kind:sc.kind=.function
  co:sc.isCoroutine=false
  gen:sc.isGenerator=false
  nd:N.Nodup
  pre:N.take P.length=P
  par:∀x∈P,sc.names.lookup x=some .local∨sc.names.lookup x=some .cell
  nofree:∀y∈sc.names,y.2≠.free
theorem bindL_out{kindOf:Str→Option NameKind}{x:Str}:∀{binds:List (Str × Value)} {m:Str→Option Value},(∀v,(x,v) ∉ binds)→bindL kindOf binds m x=m x
  | [],_,_=>rfl
  | (n,v)::r,m,h=>by
    unfold bindL
    rw[bindL_out fun w hw=>h w (List.mem_cons_of_mem _ hw)]
    split
    · have:x≠n:=by rintro rfl;exact h v List.mem_cons_self
      simp[this]
    · rfl
theorem bindC_out{kindOf:Str→Option NameKind}{x:Str}:∀{binds:List (Str × Value)} {m:Str→Option Value},(∀v,(x,v) ∉ binds)→bindC kindOf binds m x=m x
  | [],_,_=>rfl
  | (n,v)::r,m,h=>by
    unfold bindC
    rw[bindC_out fun w hw=>h w (List.mem_cons_of_mem _ hw)]
    split
    · rfl
    · have:x≠n:=by rintro rfl;exact h v List.mem_cons_self
      simp[this]
theorem bindL_get{kindOf:Str→Option NameKind}{x:Str}{v:Value}:∀{P:List Str} {vs:List Value} {i:Nat} {m:Str→Option Value},P.Nodup→P[i]? = some x→vs[i]? = some v→kindOf x=some .local→
    bindL kindOf (P.zip vs) m x=some v
  | [],_,_,_,_,h,_,_=>by simp at h
  | _::_,[],_,_,_,_,h,_=>by simp at h
  | p::P,w::vs,0,m,nd,h1,h2,hk=>by
    simp at h1 h2;subst h1;subst h2
    show bindL kindOf ((p,w)::P.zip vs) m p=_
    unfold bindL
    rw[bindL_out fun v hv=>(List.nodup_cons.mp nd).1 (List.of_mem_zip hv).1,if_pos hk]
    simp
  | p::P,w::vs,i+1,m,nd,h1,h2,hk=>by
    show bindL kindOf ((p,w)::P.zip vs) m x=_
    unfold bindL
    exact bindL_get (i:=i) (List.nodup_cons.mp nd).2 (by simpa using h1) (by simpa using h2) hk
theorem bindC_get{kindOf:Str→Option NameKind}{x:Str}{v:Value}:∀{P:List Str} {vs:List Value} {i:Nat} {m:Str→Option Value},P.Nodup→P[i]? = some x→vs[i]? = some v→kindOf x≠some .local→
    bindC kindOf (P.zip vs) m x=some v
  | [],_,_,_,_,h,_,_=>by simp at h
  | _::_,[],_,_,_,_,h,_=>by simp at h
  | p::P,w::vs,0,m,nd,h1,h2,hk=>by
    simp at h1 h2;subst h1;subst h2
    show bindC kindOf ((p,w)::P.zip vs) m p=_
    unfold bindC
    rw[bindC_out fun v hv=>(List.nodup_cons.mp nd).1 (List.of_mem_zip hv).1,if_neg hk]
    simp
  | p::P,w::vs,i+1,m,nd,h1,h2,hk=>by
    show bindC kindOf ((p,w)::P.zip vs) m x=_
    unfold bindC
    exact bindC_get (i:=i) (List.nodup_cons.mp nd).2 (by simpa using h1) (by simpa using h2) hk
def start(N:List Str)(vs:List V):St:=vs.map some++List.replicate (N.length - vs.length) none
def cxOf(CX:CXT)(P:Program)(w:World)(K:PySem.W.Frag)(mg:Str→Option Value)(base:Heap)(N:List Str)(qual:Str)(scope:Scope)(f:Addr)(cd:Value)(A:Around)(outer:List Env)(s:Shared)(H:Hp)(E:XK):Cx where
  prog:=P
  w:=w
  K:=K
  mg:=mg
  base:=base
  A:=A.deeper (envOfC qual scope s.heap.objs.size f cd)
  N:=N
  s₀:=s
  H₀:=H
  env:=envOfC qual scope s.heap.objs.size f cd
  outer:=outer
  stack:=envOfC qual scope s.heap.objs.size f cd::outer
  ex:=[]
  calm:=true
  fn:=fun _=>true
  pn:=[]
  xe:=fun e s'=>wpAny (model P w) (A.deeper (envOfC qual scope s.heap.objs.size f cd)) (leaving (envOfC qual scope s.heap.objs.size f cd) e) (fun _ s''=>CX outer H s E e s'') (fun e' s''=>CX outer H s E e' s'') s'
theorem cell_has{sc:Scope}{n:Nat}{x:Str}(h:sc.names.lookup x=some .cell):∃c,(cellsFrom n sc.names []).lookup x=some c:=by
  have q:=PySem.W.cellsFrom_some sc.names n [] (.inl h)
  exact Option.isSome_iff_exists.mp q
theorem inv_start{CX:CXT}{P:Program}{w:World}{K:PySem.W.Frag}{mg:Str→Option Value}{base:Heap}{N ps:List Str}{qual:Str}{scope:Scope}{f:Addr}{cd:Value}{A:Around}{outer:List Env}{s s1:Shared}{H:Hp}{E:XK}{us:List Value}{vs:List V}
    (S:FnScope N ps scope) (hd:A.handled=none) (e0:Env0 P w K mg base A outer s H) (hl:vs.length=ps.length) (r:Vals vs us)
    (x:InCallC s s.heap.objs.size (bindL (envOfC qual scope s.heap.objs.size f cd).kindOf (ps.zip us) fun _=>none) (cellsFrom (s.heap.objs.size+1) scope.names []) (bindC (envOfC qual scope s.heap.objs.size f cd).kindOf (ps.zip us) fun _=>none) s1) :
    Inv (cxOf CX P w K mg base N qual scope f cd A outer s H E) [] (start N vs) H s1:=by
  have hpl:ps.length≤N.length:=by have:=congrArg List.length S.pre;rw[List.length_take]at this;omega
  obtain⟨h1,tk,rfl,hk⟩:=x.done
  have noA:∀b:Addr,b ∉ (cxOf CX P w K mg base N qual scope f cd A outer s H E).ex:=fun b z=>absurd (show b∈([]:List Addr)from z) (by simp)
  refine⟨⟨e0.mod,S.kind,rfl,rfl,Nat.le_refl _,fun y z c h1 h2=>?_,fun y hy=>?_,fun y c _ h=>?_,fun _=>hd,Around.frames_deeper e0.frames,.inr ⟨rfl,rfl⟩,fun b z=>absurd z (noA b),e0.bs,e0.bsz,fun b _ _=>noA b,fun b z=>absurd z (noA b),e0.funs,e0.frf⟩,
    rfl,e0.bare,Un.kept hk,⟨_,x.toInCall.ns,fun i y v h1 h2 h3=>?_⟩,fun y c h=>⟨_,x.cell y c h⟩,e0.hok.fresh (Nat.le_refl _),fun y c h=>?_,fun p hp=>absurd (show p∈([]:List (Addr × Obj))from hp) (by simp),e0.hok.kept hk,?_⟩
  · exact name_of_addr x.apart (PySem.mem_of_lookup h1) (PySem.mem_of_lookup h2)
  · have hy:scope.names.lookup y=some .cell∨scope.names.lookup y=some .free:=hy
    rcases hy with hy | hy
    · exact cell_has hy
    · exact absurd rfl (S.nofree _ (PySem.mem_of_lookup hy))
  · exact Nat.le_of_lt (x.above y c (PySem.mem_of_lookup h))
  · have hi:i < vs.length:=by
      unfold start at h2
      by_cases hi:i < vs.length
      · exact hi
      · rw[List.getElem?_append_right (by simpa using hi)]at h2
        rw[List.getElem?_replicate]at h2
        split at h2 <;>cases h2
    have ha:vs[i]? = some v:=by
      unfold start at h2
      rw[List.getElem?_append_left (by simpa using hi),List.getElem?_map]at h2
      cases e:vs[i]? with
      | none=>rw[e]at h2;cases h2
      | some a=>rw[e]at h2;cases h2;rfl
    obtain⟨u,hu,rv⟩:=r.get ha
    have hp:ps[i]? = some y:=by
      rw[← S.pre,List.getElem?_take_of_lt (by omega)];exact h1
    have ndP:ps.Nodup:=by rw[← S.pre];exact S.nd.sublist (List.take_sublist _ _)
    refine⟨u,rv,?_⟩
    rcases S.par y (List.mem_of_getElem? hp)with k | k
    · exact .inl ⟨k,bindL_get ndP hp hu k⟩
    · obtain⟨c,e⟩:=cell_has (n:=s.heap.objs.size+1) k
      refine .inr ⟨.inl k,c,e,?_⟩
      have q:=x.cell y c e
      rw[bindC_get ndP hp hu (by show scope.names.lookup y≠_;rw[k];decide)]at q
      exact q
  · exact e0.hok.fresh (Nat.le_of_lt (x.above y c (PySem.mem_of_lookup h)))
  · unfold start
    show _=N.length
    rw[List.length_append,List.length_map,List.length_replicate]
    omega
theorem fn_of{CX:CXT}{P:Program}{w:World}{K:PySem.W.Frag}{mg:Str→Option Value}{base:Heap}{k:Nat}{f:Addr}{name qual:Str}{params:Arguments}{body:List Stmt}{scope:Scope}{dV kV doc pm cdv ct oc:Value}{an od:Option Addr}
    {osl:Array (Option Value)} {N ps:List Str} {sp:Sp} (lk:K.lookup f=some ⟨oc,od,.func (PySem.W.fnOf name qual params body scope dV kV doc pm an cdv ct),osl⟩) (hcd:PySem.W.codeIn K cdv qual=true) (S:FnScope N ps scope)
    (len:∀vs H Q E,sp vs H Q E→vs.length=ps.length)
    (hbody:∀(A:Around) (outer:List Env) (s:Shared) (H:Hp) (vs:List V) (Q:VK) (E:XK),Room k (A.deeper (envOfC qual scope s.heap.objs.size f cdv))→sp vs H Q E→
      ∃t,PSs (cxOf CX P w K mg base N qual scope f cdv A outer s H E) body t∧t { nx:=fun _ H'=>Q .non H',rt:=Q } (start N vs) H) :
    FnOk P w K mg base CX (k+1) f (PySem.W.fnOf name qual params body scope dV kV doc pm an cdv ct) ps sp:=by
  refine⟨len,fun A outer s H args us vs Q E hr e0 hb r hsp=>?_⟩
  have hl:=len _ _ _ _ hsp
  have KX:K.In s.heap:=e0.mod.kin.keeps fun b o e=>(e0.bs b o e).1
  have lim:s.heap.NoLimit:=e0.mod.nolimit.keeps fun b o e=>(e0.bs b o e).1
  have hkind:∀y∈ps.zip us,scope.names.lookup y.1=some .local∨(scope.names.lookup y.1=some .cell∧((cellsFrom (s.heap.objs.size+1) scope.names []).lookup y.1).isSome=true):=fun⟨n,v⟩ hy=>by
    rcases S.par n (List.of_mem_zip hy).1 with q | q
    · exact .inl q
    · exact .inr ⟨q,PySem.W.cellsFrom_some _ _ _ (.inl q)⟩
  refine codeAny_call_function hr.depth (KX _ _ lk) rfl S.co S.gen rfl (PySem.W.codeRec_of KX hcd) (hb _ _ _ _ ?_)
  refine wpAny_newFunctionEnv_cells S.kind hkind fun env he s1 x=>?_
  subst he
  refine⟨lim.keeps x.toInCall.keep,codeAny_func ?_⟩
  obtain⟨t,ht,hq⟩:=hbody A outer s H vs Q E (hr.deeper _) hsp
  have I:Inv (cxOf CX P w K mg base N qual scope f cdv A outer s H E) [] (start N vs) H s1:=inv_start S hr.hd e0 hl r x
  refine wpAny_mono (ht [] s1 (start N vs) H _ I hq) (fun fl s' hs=>?_) fun e s' hs=>hs
  have fin:∀{σ':St} {H':Hp} {v:V} {u:Value},Inv (cxOf CX P w K mg base N qual scope f cdv A outer s H E) [] σ' H' s'→RelV v u→Q v H'→CE outer P w H s Q u s':=
    fun{σ' H' v u} J rv q=>⟨v,H',J.os,J.bare,J.base,J.hok,rv,q⟩
  cases fl with
  | ret u=>
    obtain⟨v,σ',H',J,rv,q⟩:=hs
    exact fin J rv q
  | next=>
    obtain⟨σ',H',J,q⟩:=hs
    exact fin (v:=V.non) (u:=Value.none) J rfl q
  | brk=>
    obtain⟨_,_,_,q⟩:=hs
    exact False.elim q
  | cont=>
    obtain⟨_,_,_,q⟩:=hs
    exact False.elim q
end L2
namespace L2
open PySem PySem.Spec PyProof.Rows
section
variable{X:Cx}{x:Str}{p pos:Pos}{e:Expr}{es:List Expr}{t:TA}{id T:String}{r:List V→Hp→VK→Prop}
def tCB(r:List V→Hp→VK→Prop)(t:TA):TE:=fun σ H Q=>t σ H fun vs H1=>r vs H1 Q
theorem pe_callB(hc:CallR X (.builtin id) r)(hg:Gl X x)(hm:X.mg x=none)(hv:bootBuiltins x=some (.builtin id))(ha:PA X (e::es) t)(hn:x≠"__name__":=by decide)(hdb:(x == ("__debug__":Str))=false:=by decide)
    (he:starEach (e::es) X.env=(false,eval e X.env)::starEach es X.env:=by rfl) (hpl:(backTo pos (starEach es X.env)).any (·.1)=false:=by rfl):PE X (.Call (.Name x p) (e::es) [] pos) (tCB r t):=by
  intro pins s σ H Q I h
  refine wpAny_Call_Name_kw (ld_blt I hg hm hv ?_ hn hdb)
  exact PyProof.Rows.callWith_builtin1 (thn (ha pos pins s σ H _ I h) fun us s1 ⟨vs,H1,I1,r1,q1⟩=>hc pins s1 σ H1 vs us Q I1 r1 q1) he hpl
theorem pe_callTy(hc:CallR X (.type T) r)(hg:Gl X x)(hm:X.mg x=none)(hv:bootBuiltins x=some (.type T))(ha:PA X (e::es) t)(hn:x≠"__name__":=by decide)(hdb:(x == ("__debug__":Str))=false:=by decide)
    (he:starEach (e::es) X.env=(false,eval e X.env)::starEach es X.env:=by rfl) (hpl:(backTo pos (starEach es X.env)).any (·.1)=false:=by rfl):PE X (.Call (.Name x p) (e::es) [] pos) (tCB r t):=by
  intro pins s σ H Q I h
  refine wpAny_Call_Name_kw (ld_blt I hg hm hv ?_ hn hdb)
  exact PyProof.Rows.callWith_type1 (thn (ha pos pins s σ H _ I h) fun us s1 ⟨vs,H1,I1,r1,q1⟩=>hc pins s1 σ H1 vs us Q I1 r1 q1) he hpl
end
end L2
namespace HT
open PySem PyProof.Rows
section
open PySem.SeqAt
open PySem.AutoSeq1 (wpAny_loadPart')
open PySem.MeetsSeq PySem.MeetsSeq2 PySem.MeetsSeq3
end
section
variable{prog:Program}{w:World}{A:Around}{E:Value→Shared→Prop}{s:Shared}
theorem cat_tup{t b:Addr}{vs ws:List Value}{Q:Value→Shared→Prop}(ht:IsTup s.heap t vs.toArray)(hb:IsTup s.heap b ws.toArray)(hv:vs≠[])
    (h1:ws=[]→Q (.ref t) s) (h2:ws≠[]→Q (.ref s.heap.objs.size) { s with heap:=s.heap.push { cls:=.type "tuple",data:=.seq (vs++ws).toArray } })
    (hsz:vs.length+ws.length≤sizeLine):wpAny (model prog w) A (binaryOp .Add (.ref t) (.ref b)) Q E s:=by
  obtain⟨⟨cls,dd,data,sl⟩,ho,hc,n,hd⟩:=id ht
  obtain⟨⟨cls2,dd2,data2,sl2⟩,ho2,hc2,n2,hd2⟩:=id hb
  simp only at hc hd hc2 hd2
  subst hc hd hc2 hd2
  have e:vs.toArray++ws.toArray=(vs++ws).toArray:=by simp
  by_cases hw:ws=[]
  · exact concat_meets ⟨_,ho,rfl⟩ ⟨_,ho2,rfl⟩ noFill_tuple_add seq_tuple_add PySem.F.slot_tuple_add PySem.F.entry_tuple_add (PySem.F.args_tuple_add_2 _ _)
      (tuple_addW1 t b vs.toArray ws.toArray n n2 dd dd2 sl sl2 (by simpa using hv) (by simp[hw])) ⟨ho,ho2,h1 hw⟩
  · refine concat_meets ⟨_,ho,rfl⟩ ⟨_,ho2,rfl⟩ noFill_tuple_add seq_tuple_add PySem.F.slot_tuple_add PySem.F.entry_tuple_add (PySem.F.args_tuple_add_2 _ _)
      (tuple_addW2 t b vs.toArray ws.toArray n n2 dd dd2 sl sl2 (by simpa using hv) (by simpa using hw) (by rw[List.size_toArray,List.size_toArray];exact hsz)) ⟨ho,ho2,?_⟩
    rw[e]
    exact h2 hw
def sIx(n d:Nat):Option Int→Nat
  | none=>d
  | some v=>if v < 0 then(v+(n:Int)).toNat else min v.toNat n
theorem sIx_none(n d:Nat):sIx n d none=d:=rfl
theorem sIx_nat(n d k:Nat):sIx n d (some (k:Int))=min k n:=by
  show(if(k:Int) < 0 then((k:Int)+(n:Int)).toNat else min (k:Int).toNat n)=min k n
  rw[if_neg (by omega),Int.toNat_natCast]
end
end HT
namespace L2
open PySem PySem.Spec PyProof.Rows
abbrev TO:=St→Hp→(Option Int→Hp→Prop)→Prop
def PO(X:Cx)(e:Option Expr)(t:TO):Prop:=
  ∀(pins:List (Addr × Obj)) (s:Shared) (σ:St) (H:Hp) (Q:Option Int→Hp→Prop),Inv X pins σ H s→t σ H Q→
    wpAny (model X.prog X.w) X.A (evalPart e X.env) (fun u s'=>∃o H',Inv X pins σ H' s'∧IsPart u o∧Q o H') X.xe s
def tNoPart:TO:=fun _ H Q=>Q none H
def tPart(t:TE):TO:=fun σ H Q=>t σ H fun x H1=>∃i,x=.int i∧Q (some i) H1
section
variable{X:Cx}{e:Expr}{te:TE}{lo hi:Option Expr}{tl th:TO}{pos p2:Pos}
theorem po_none:PO X none tNoPart:=by
  intro pins s σ H Q I h
  rw[evalPart_none]
  exact wpAny_pure ⟨none,H,I,.none,h⟩
theorem po_some(h:PE X e te):PO X (some e) (tPart te):=by
  intro pins s σ H Q I hw
  rw[evalPart_some]
  refine thn (h pins s σ H _ I hw) fun u s1 ⟨x,H1,I1,r1,q1⟩=>?_
  obtain⟨i,rfl,q⟩:=q1
  obtain⟨t,rfl⟩:=r1
  exact⟨some i,H1,I1,.int i t,q⟩
def SlR(X:Cx)(r:V→Option Int→Option Int→Hp→VK→Prop):Prop:=
  ∀(pins:List (Addr × Obj)) (s:Shared) (σ:St) (H:Hp) (x:V) (v vl vu:Value) (lo hi:Option Int) (sl:Addr) (Q:VK),Inv X pins σ H s→RelV x v→s.heap.IsSliceOf sl vl vu .none→IsPart vl lo→IsPart vu hi→r x lo hi H Q→
    ∃T id,typeLookup (.type T) "__getitem__"=pure (some (.builtin id))∧s.TypeIs v T∧wpAny (model X.prog X.w) X.A (getItem v (.ref sl)) (EP X pins σ Q) X.xe s
theorem SlR.or{r r':V→Option Int→Option Int→Hp→VK→Prop}(h:SlR X r)(h':SlR X r'):SlR X (fun x lo hi H Q=>r x lo hi H Q∨r' x lo hi H Q):=by
  intro pins s σ H x v vl vu lo hi sl Q I rx hs pl pu q
  rcases q with q | q
  · exact h pins s σ H x v vl vu lo hi sl Q I rx hs pl pu q
  · exact h' pins s σ H x v vl vu lo hi sl Q I rx hs pl pu q
def tSl(r:V→Option Int→Option Int→Hp→VK→Prop)(te:TE)(tl th:TO):TE:=fun σ H Q=>te σ H fun x H1=>tl σ H1 fun l H2=>th σ H2 fun u H3=>r x l u H3 Q
theorem pe_slice{r:V→Option Int→Option Int→Hp→VK→Prop}(hr:SlR X r)(he:PE X e te)(hl:PO X lo tl)(hu:PO X hi th):PE X (.Subscript e (.Slice lo hi none p2) pos) (tSl r te tl th):=by
  intro pins s σ H Q I h
  refine Subscript_ (thn (he pins s σ H _ I h) fun v s1 ⟨x,H1,I1,r1,q1⟩=>?_)
  refine wpAny_Slice (thn (hl pins s1 σ H1 _ I1 q1) fun vl s2 ⟨l,H2,I2,pl,q2⟩=>thn (hu pins s2 σ H2 _ I2 q2) fun vu s3 ⟨u,H3,I3,pu,q3⟩=>?_)
  rw[evalPart_none]
  refine wpAny_pure ?_
  have I4:Inv X pins σ H3 { s3 with heap:=s3.heap.push { cls:=.type "slice",data:=.fields #[vl,vu,.none] } }:=I3.kept (t':=s3.toks) fun b ob q=>Heap.get?_push_of_some _ q
  obtain⟨T,id,hT,ht,hg⟩:=hr pins { s3 with heap:=s3.heap.push { cls:=.type "slice",data:=.fields #[vl,vu,.none] } } σ H3 x v vl vu l u s3.heap.objs.size Q I4 r1 (Heap.IsSliceOf.new ..) pl pu q3
  show wpAny (model X.prog X.w) X.A (subscriptTail e (.Slice lo hi none p2) v (.ref s3.heap.objs.size)) (EP X pins σ Q) X.xe { s3 with heap:=s3.heap.push { cls:=.type "slice",data:=.fields #[vl,vu,.none] } }
  exact tail_any (ops:=[.ref s3.heap.objs.size,v]) ht hT hg (by with_unfolding_all rfl)
def cutV(xs:List V)(lo hi:Option Int):List V:=(xs.drop (HT.sIx xs.length 0 lo)).take (HT.sIx xs.length xs.length hi - HT.sIx xs.length 0 lo)
theorem cutV_length(xs:List V)(lo hi:Option Int):(cutV xs lo hi).length≤xs.length:=by
  unfold cutV
  rw[List.length_take,List.length_drop]
  omega
def rCatT(K:PySem.W.Frag):R2:=fun x y H Q=>∃a b xs ys,x=.ref a∧y=.ref b∧SqT K H a xs∧SqT K H b ys∧xs≠[]∧xs.length+ys.length≤sizeLine∧
  (ys=[]→Q (.ref a) H)∧(ys≠[]→∀p,H p=none→Q (.ref p) (upd H p (.tup (xs++ys))))
theorem Vals.nil_iff{xs:List V}{us:List Value}(r:Vals xs us):us=[]↔xs=[]:=by
  cases r with
  | nil=>simp
  | cons _ _=>simp
theorem op_catT:OpR X (binaryOp .Add) (rCatT X.K):=by
  intro pins s σ H x y v u Q I rx ry h
  obtain⟨a,b,xs,ys,rfl,rfl,ha,hb,hx,hz,q1,q2⟩:=h
  cases rx
  cases ry
  obtain⟨its,r1,p1,_⟩:=I.tuple ha
  obtain⟨its2,r2,p2,_⟩:=I.tuple hb
  refine HT.cat_tup p1 p2 (fun z=>hx (r1.nil_iff.mp z)) (fun z=>⟨.ref a,H,I,rfl,q1 (r2.nil_iff.mp z)⟩) (fun z=>?_) (by rw[← r1.length,← r2.length];exact hz)
  refine⟨.ref s.heap.objs.size,_,I.laid (t':=s.toks) (o:=.tup (xs++ys)) (fun b ob q=>Heap.get?_push_of_some _ q) (Nat.le_refl _) ?_,rfl,q2 (fun w=>z (r2.nil_iff.mpr w)) _ (I.hok.fresh (Nat.le_refl _))⟩
  exact⟨by rw[List.length_append];exact hz,_,r1.append r2,IsTup.new _ _,fun _=>⟨_,Heap.get?_push_size _ rfl,rfl⟩⟩
end
end L2
namespace L2
open PySem PySem.Spec PyProof.Rows
def ixN(n:Nat)(i:Int):Option Nat:=if 0≤i then(if i < n then some i.toNat else none)else if -(n:Int)≤i then some (i+n).toNat else none
def atI{α:Type}(xs:List α)(i:Int):Option α:=(ixN xs.length i).bind fun j=>xs[j]?
theorem ixN_seq{n:Nat}{i:Int}{j:Nat}(h:ixN n i=some j):seqIndex? i n=some j∧j < n∧-(n:Int)≤i∧i < n:=by
  unfold ixN at h
  by_cases h0:0≤i
  · rw[if_pos h0]at h
    by_cases h1:i < n
    · rw[if_pos h1]at h
      have e:i.toNat=j:=Option.some.inj h
      exact⟨by rw[seqIndex_of h0 h1,e],by omega,by omega,h1⟩
    · rw[if_neg h1]at h;cases h
  · rw[if_neg h0]at h
    by_cases h1:-(n:Int)≤i
    · rw[if_pos h1]at h
      have e:(i+n).toNat=j:=Option.some.inj h
      exact⟨by rw[seqIndex_neg (by omega) h1,e],by omega,h1,by omega⟩
    · rw[if_neg h1]at h;cases h
theorem atI_get{α:Type}{xs:List α}{i:Int}{v:α}(h:atI xs i=some v):∃j,seqIndex? i xs.length=some j∧xs[j]? = some v∧j < xs.length∧-(xs.length:Int)≤i∧i < xs.length:=by
  unfold atI at h
  cases e:ixN xs.length i with
  | none=>rw[e]at h;cases h
  | some j=>
    rw[e]at h
    obtain⟨h1,h2,h3,h4⟩:=ixN_seq e
    exact⟨j,h1,h,h2,h3,h4⟩
theorem atI_nat{α:Type}{xs:List α}{j:Nat}{v:α}(h:xs[j]? = some v):atI xs (j:Int)=some v:=by
  have hj:j < xs.length:=(List.getElem?_eq_some_iff.mp h).1
  have e:ixN xs.length (j:Int)=some j:=by
    unfold ixN
    rw[if_pos (by omega),if_pos (by omega)];simp
  unfold atI;rw[e];exact h
def PlainIx(b:Expr):Prop:=∀o i,subscripted b false o i=operate [o,i] (getItem o i)
def IxR(X:Cx)(r:R2):Prop:=
  ∀(value slice:Expr) (pins:List (Addr × Obj)) (s:Shared) (σ:St) (H:Hp) (x y:V) (v u:Value) (Q:VK),Inv X pins σ H s→RelV x v→RelV y u→r x y H Q→
    subscripted slice false v u=operate [v,u] (getItem v u)→wpAny (model X.prog X.w) X.A (subscriptTail value slice v u) (EP X pins σ Q) X.xe s
def MtR(X:Cx)(id:String)(r:V→List V→Hp→VK→Prop):Prop:=
  ∀(pins:List (Addr × Obj)) (s:Shared) (σ:St) (H:Hp) (x:V) (xs:List V) (v:Value) (us:List Value) (Q:VK),Inv X pins σ H s→RelV x v→Vals xs us→r x xs H Q→
    wpAny (model X.prog X.w) X.A (call (.builtin id) (v::us)) (EP X pins σ Q) X.xe s
section
variable{X:Cx}{a b:Expr}{ta tb:TE}{pos:Pos}
theorem IxR.or{r r':R2}(h:IxR X r)(h':IxR X r'):IxR X (fun x y H Q=>r x y H Q∨r' x y H Q):=by
  intro value slice pins s σ H x y v u Q I rx ry q hs
  rcases q with q | q
  · exact h value slice pins s σ H x y v u Q I rx ry q hs
  · exact h' value slice pins s σ H x y v u Q I rx ry q hs
theorem MtR.or{id:String}{r r':V→List V→Hp→VK→Prop}(h:MtR X id r)(h':MtR X id r'):MtR X id (fun x xs H Q=>r x xs H Q∨r' x xs H Q):=by
  intro pins s σ H x xs v us Q I rx rs q
  rcases q with q | q
  · exact h pins s σ H x xs v us Q I rx rs q
  · exact h' pins s σ H x xs v us Q I rx rs q
theorem pe_ix{r:R2}(hr:IxR X r)(ha:PE X a ta)(hb:PE X b tb)(hs:PlainIx b):PE X (.Subscript a b pos) (tOp r ta tb):=by
  intro pins s σ H Q I h
  exact Subscript_ (binT ha hb I h fun v u s2 x y H2 I2 rx ry q=>hr a b pins s2 σ H2 x y v u Q I2 rx ry q (hs _ _))
def rIxL(K:PySem.W.Frag):R2:=fun x y H Q=>∃p xs i v,x=.ref p∧y=.int i∧SqL K H p xs∧atI xs i=some v∧Q v H
def rIxT(K:PySem.W.Frag):R2:=fun x y H Q=>∃p xs i v,x=.ref p∧y=.int i∧SqT K H p xs∧atI xs i=some v∧Q v H
def rIxS:R2:=fun x y H Q=>∃z i c,x=.str z∧y=.int i∧z.length≤sizeLine∧atI z.cps.toList i=some c∧Q (.str ⟨#[c]⟩) H
theorem ix_list:IxR X (rIxL X.K):=by
  intro value slice pins s σ H x y v u Q I rx ry h hs
  obtain⟨p,xs,i,z,rfl,rfl,hq,he,q⟩:=h
  cases rx
  obtain⟨t,rfl⟩:=ry
  obtain⟨its,r,pl,hz⟩:=I.list hq
  obtain⟨j,h1,h2,h3,h4,h5⟩:=atI_get he
  obtain⟨w,ew,rw'⟩:=r.get h2
  have hl:=r.length
  have hn:=line63
  have fin:EP X pins σ Q w s:=⟨z,H,I,rw',q⟩
  by_cases h0:0≤i
  · have hj:i.toNat=j:=by
      rw[seqIndex_of h0 h5]at h1
      exact Option.some.inj h1
    exact item_listR pl.isList h0 (by omega) (by rw[hj];simpa using ew) fin hs
  · have hj:(i+(its.toArray.size:Int)).toNat=j:=by
      rw[seqIndex_neg (by omega) h4]at h1
      rw[List.size_toArray,← hl]
      exact Option.some.inj h1
    exact subscriptTail_builtinR (x:=w) pl.isList.typeIs slot_list_getitem.lookup
      (wpAny_getItem_list_neg (Q:=fun r s'=>r=w∧EP X pins σ Q r s') pl.isList (by omega) (by rw[List.size_toArray] <;>omega) (by omega) (by rw[hj];simpa using ew) ⟨rfl,fin⟩) hs
theorem ix_tup:IxR X (rIxT X.K):=by
  intro value slice pins s σ H x y v u Q I rx ry h hs
  obtain⟨p,xs,i,z,rfl,rfl,hq,he,q⟩:=h
  cases rx
  obtain⟨t,rfl⟩:=ry
  obtain⟨its,r,pl,hz⟩:=I.tuple hq
  obtain⟨j,h1,h2,h3,h4,h5⟩:=atI_get he
  obtain⟨w,ew,rw'⟩:=r.get h2
  have hl:=r.length
  have hn:=line63
  have fin:EP X pins σ Q w s:=⟨z,H,I,rw',q⟩
  exact subscriptTail_builtinR (x:=w) pl.typeIs slot_tuple_getitem.lookup
    (getItem_tuple (j:=j) (Q:=fun r s'=>r=w∧EP X pins σ Q r s') pl (by omega) (by omega) (by rw[List.size_toArray,← hl];exact h1) (by simpa using ew) ⟨rfl,fin⟩) hs
theorem ix_str:IxR X rIxS:=by
  intro value slice pins s σ H x y v u Q I rx ry h hs
  obtain⟨z,i,c,rfl,rfl,hz,he,q⟩:=h
  obtain⟨t,rfl⟩:=rx
  obtain⟨t',rfl⟩:=ry
  obtain⟨j,h1,h2,h3,h4,h5⟩:=atI_get he
  have hl:z.cps.toList.length=z.length:=by simp[Str.length]
  rw[hl]at h1 h4 h5
  have hn:=line63
  exact tail_any (typeIs_str s z t) slot_str_getitem.lookup (getItem_str (c:=c) (by
    have e1:decide (i < -(2 ^ 63:Int))=false:=decide_eq_false (by omega)
    have e2:decide (i ≥ 2 ^ 63)=false:=decide_eq_false (by omega)
    rw[e1,e2,Bool.or_false]) (by rw[h1];simpa using h2) ⟨.str ⟨#[c]⟩,H,I.tok _,⟨_,rfl⟩,q⟩) hs
theorem mapSeq_set(its:List Value)(n j:Nat)(u:Value):Obj.mapSeq (·.setIfInBounds j u) { cls:=.type "list",data:=.seq its.toArray n }={ cls:=.type "list",data:=.seq (its.set j u).toArray n }:=by
  simp[Obj.mapSeq]
theorem Inv.lst{pins:List (Addr × Obj)}{σ:St}{H:Hp}{s:Shared}{p:Addr}{xs:List V}(I:Inv X pins σ H s)(h:H p=some (.lst xs)) :
    ∃(its:List Value) (n:Nat),Vals xs its∧s.heap.get? p=some { cls:=.type "list",data:=.seq its.toArray n }∧xs.length≤sizeLine:=by
  obtain⟨z,its,n,r,e⟩:=I.hok p _ h
  exact⟨its,n,r,e,z⟩
theorem Inv.lstUpd{pins:List (Addr × Obj)}{σ:St}{H:Hp}{s:Shared}{p:Addr}{xs ys:List V}{its its':List Value}{n n':Nat}{f:Obj→Obj}(I:Inv X pins σ H s)(h:H p=some (.lst xs))
    (ho:s.heap.get? p=some { cls:=.type "list",data:=.seq its.toArray n }) (hf:f { cls:=.type "list",data:=.seq its.toArray n }={ cls:=.type "list",data:=.seq its'.toArray n' }) (r:Vals ys its') (hz:ys.length≤sizeLine) (t:Nat) :
    Inv X pins σ (upd H p (.lst ys)) { s with heap:=s.heap.update p f,toks:=t }:=by
  have e:(s.heap.update p f).get? p=some { cls:=.type "list",data:=.seq its'.toArray n' }:=by
    rw[Heap.get?_update_self f ho (by rw[hf] <;>rfl),hf]
  refine I.write (x:=p) (e:=p) (by rw[h];trivial) (.inl rfl) (fun b u hb q=>(Heap.get?_update_other _ _ (Ne.symm hb)).trans q) ⟨_,e⟩ ?_
  exact⟨hz,its',n',r,e⟩
def rSetL:V→V→V→Hp→(Hp→Prop)→Prop:=fun o i v H Q=>∃p xs k j,o=.ref p∧i=.int k∧H p=some (.lst xs)∧ixN xs.length k=some j∧Q (upd H p (.lst (xs.set j v)))
theorem set_list:PSet X rSetL:=by
  intro pins s σ H o i v ov iv u Q I ro ri rv h
  obtain⟨p,xs,k,j,rfl,rfl,hp,hj,q⟩:=h
  cases ro
  obtain⟨t,rfl⟩:=ri
  obtain⟨its,n,r,ho,hz⟩:=I.lst hp
  obtain⟨h1,h2,h3,h4⟩:=ixN_seq hj
  have hl:=r.length
  have hn:=line63
  have I':Inv X pins σ (upd H p (.lst (xs.set j v))) { s with heap:=s.heap.update p (Obj.mapSeq (·.setIfInBounds j u)) }:=
    I.lstUpd hp ho (mapSeq_set its n j u) (r.set rv j) (by rw[List.length_set];exact hz) s.toks
  by_cases h0:0≤k
  · have hk:k.toNat=j:=by
      rw[seqIndex_of h0 h4]at h1
      exact Option.some.inj h1
    exact PySem.W.ki_setAt ho h0 (by omega) (by rw[List.size_toArray,← hl];exact h4) (by rw[hk];exact⟨_,I',q⟩)
  · have hk:(k+(its.toArray.size:Int)).toNat=j:=by
      rw[seqIndex_neg (by omega) h3]at h1
      rw[List.size_toArray,← hl]
      exact Option.some.inj h1
    exact PySem.W.ki_setBack ho (by omega) (by rw[List.size_toArray,← hl];exact h3) (by omega) (by rw[hk];exact⟨_,I',q⟩)
theorem slice_bounds(lo hi:Option Int)(n:Nat):(sliceBounds lo hi none n).1=((HT.sIx n 0 lo:Nat):Int)∧(sliceBounds lo hi none n).2.1=((HT.sIx n n hi:Nat):Int)∧(sliceBounds lo hi none n).2.2=1:=by
  refine⟨?_,?_,rfl⟩
  · cases lo with
    | none=>simp[sliceBounds,HT.sIx]
    | some i=>
      simp only[sliceBounds,HT.sIx,Option.getD_none,show(1:Int) > 0 by decide,if_true]
      by_cases h:i < 0
      · simp only[h,if_true] <;>omega
      · simp only[h,if_false] <;>omega
  · cases hi with
    | none=>simp[sliceBounds,HT.sIx]
    | some i=>
      simp only[sliceBounds,HT.sIx,Option.getD_none,show(1:Int) > 0 by decide,if_true]
      by_cases h:i < 0
      · simp only[h,if_true] <;>omega
      · simp only[h,if_false] <;>omega
theorem slicePick_cut(its:List Value)(lo hi:Option Int):slicePick its.toArray lo hi none=((its.drop (HT.sIx its.length 0 lo)).take (HT.sIx its.length its.length hi - HT.sIx its.length 0 lo)).toArray:=by
  obtain⟨h1,h2,h3⟩:=slice_bounds lo hi its.toArray.size
  unfold slicePick
  rw[h1,h2,h3]
  simp only[sliceRange_one,pick_run,List.size_toArray] <;>rfl
def rSlL(K:PySem.W.Frag):V→Option Int→Option Int→Hp→VK→Prop:=fun x lo hi H Q=>∃a xs,x=.ref a∧SqL K H a xs∧∀p,H p=none→Q (.ref p) (upd H p (.lst (cutV xs lo hi)))
theorem sl_list:SlR X (rSlL X.K):=by
  intro pins s σ H x v vl vu lo hi sl Q I rx hs pl pu h
  obtain⟨a,xs,rfl,hx,q⟩:=h
  cases rx
  obtain⟨its,r,ht,hz⟩:=I.list hx
  have hlen:=r.length
  refine⟨"list",_,slot_list_getitem.lookup,ht.isList.typeIs,?_⟩
  refine wpAny_getItem_list_slice ht.isList hs pl pu .none (by simp) ?_ (by rw[List.size_toArray] <;>omega)
  rw[slicePick_cut,← hlen]
  refine⟨.ref s.heap.objs.size,_,I.laid (t':=s.toks) (o:=.lst (cutV xs lo hi)) (fun b ob q=>Heap.get?_push_of_some _ q) (Nat.le_refl _) ?_,rfl,q _ (I.hok.fresh (Nat.le_refl _))⟩
  exact⟨Nat.le_trans (cutV_length xs lo hi) hz,_,0,(r.drop (HT.sIx xs.length 0 lo)).take (HT.sIx xs.length xs.length hi - HT.sIx xs.length 0 lo),Heap.get?_push_size _ rfl⟩
theorem CallR.or{f:Value}{r r':List V→Hp→VK→Prop}(h:CallR X f r)(h':CallR X f r'):CallR X f (fun xs H Q=>r xs H Q∨r' xs H Q):=by
  intro pins s σ H xs us Q I rs q
  rcases q with q | q
  · exact h pins s σ H xs us Q I rs q
  · exact h' pins s σ H xs us Q I rs q
theorem call_tuple_of:CallR X (.type "tuple") (fun xs H Q=>∃p ys,xs=[.ref p]∧((SqL X.K H p ys∧∀l,H l=none→Q (.ref l) (upd H l (.tup ys)))∨(SqT X.K H p ys∧Q (.ref p) H))):=by
  intro pins s σ H xs us Q I r h
  obtain⟨p,ys,rfl,h⟩:=h
  obtain⟨u,rfl,rx⟩:=vals1 r
  cases rx
  rcases h with ⟨hq,q⟩ | ⟨hq,q⟩
  · obtain⟨its,r',pl,hz⟩:=I.list hq
    have hlen:=r'.length
    refine call_tuple_list pl.isList (fun h' kp=>?_) (by simp only[List.size_toArray] <;>omega)
    have I1:Inv X pins σ H { s with heap:=h' }:=I.kept (t':=s.toks) kp
    have I2:Inv X pins σ (upd H h'.objs.size (.tup ys)) { s with heap:=h'.push { cls:=.type "tuple",data:=.seq its.toArray } }:=
      I1.laid (t':=s.toks) (fun b o e=>Heap.get?_push_of_some _ e) (Nat.le_refl _) (show ObjOk X.prog X.w _ _ _ (.tup ys)from⟨hz,its,r',IsTup.new _ _,fun _=>⟨_,Heap.get?_push_size _ rfl,rfl⟩⟩)
    exact⟨.ref h'.objs.size,_,I2,rfl,q _ (I1.hok.fresh (Nat.le_refl _))⟩
  · obtain⟨its,r',pl,hz⟩:=I.tuple hq
    exact call_tuple_same pl ⟨.ref p,H,I,rfl,q⟩
def tyV(K:PySem.W.Frag)(T:String)(x:V)(H:Hp):Prop:=match x with
  | .str _=>T="str"
  | .int _=>T="int"
  | .ref p=>(T="list"∧∃xs,SqL K H p xs)∨(T="tuple"∧∃o,K.lookup p=some o∧o.cls=.type "tuple"∧o.dict=none)∨
      (T="dict"∧((∃kvs,H p=some (.dK kvs))∨∃kvs,H p=some (.dT kvs)))∨(T="set"∧∃S n,H p=some (.set S n))
  | _=>False
theorem tyV_is{pins:List (Addr × Obj)}{σ:St}{H:Hp}{s:Shared}{T:String}{x:V}{v:Value}(I:Inv X pins σ H s)(r:RelV x v)(ty:tyV X.K T x H) :
    s.TypeIs v T∧∀a,v=.ref a→∃ob,s.heap.get? a=some ob∧ob.dict=none:=by
  cases x with
  | str z=>
    obtain⟨t,rfl⟩:=r
    cases (show T="str" from ty)
    exact⟨typeIs_str s z t,fun _ e=>nomatch e⟩
  | int i=>
    obtain⟨t,rfl⟩:=r
    cases (show T="int" from ty)
    exact⟨typeIs_int s i t,fun _ e=>nomatch e⟩
  | ref p=>
    cases r
    rcases ty with ⟨rfl,xs,hq⟩ | ⟨rfl,o,hk,hc,hd⟩ | ⟨rfl,hk⟩ | ⟨rfl,S,n,hk⟩
    · obtain⟨its,_,pl,_⟩:=I.list hq
      refine⟨pl.isList.typeIs,fun a e=>?_⟩
      cases e
      obtain⟨o,n,e,c,hd,_⟩:=pl
      exact⟨o,e,hd⟩
    · refine⟨⟨o,I.kIn p o hk,hc⟩,fun a e=>?_⟩
      cases e
      exact⟨o,I.kIn _ o hk,hd⟩
    · have z:∃o,s.heap.get? p=some o∧o.ExactDict:=by
        rcases hk with ⟨kvs,hk⟩ | ⟨kvs,hk⟩
        · obtain⟨_,_,_,_,o,_,_,e,ex,_⟩:=I.hok p _ hk
          exact⟨o,e,ex⟩
        · obtain⟨_,_,_,_,o,_,_,e,ex,_⟩:=I.hok p _ hk
          exact⟨o,e,ex⟩
      obtain⟨o,e,ex⟩:=z
      refine⟨⟨o,e,ex.1⟩,fun a e2=>?_⟩
      cases e2
      exact⟨o,e,ex.2.1⟩
    · obtain⟨o,_,_,_,e,ex,_⟩:=I.hok p _ hk
      refine⟨⟨o,e,ex.1⟩,fun a e2=>?_⟩
      cases e2
      exact⟨o,e,ex.2.1⟩
  | _=>exact False.elim ty
def tBM(K:PySem.W.Frag)(T:String)(r:V→List V→Hp→VK→Prop)(to:TE)(t:TA):TE:=fun σ H Q=>to σ H fun x H1=>tyV K T x H1∧t σ H1 fun xs H2=>r x xs H2 Q
variable{o e:Expr}{es:List Expr}{to:TE}{t:TA}{name:Str}{apos cpos:Pos}{T id:String}{r:V→List V→Hp→VK→Prop}
theorem pe_bm(pa:PlainAttrs T)(slot:Slot T name id)(hty:typeOf (.builtin id)=pure (.type "method_descriptor"))(hm:MtR X id r)(ho:PE X o to)(ha:PA X (e::es) t)
    (hbase:attributeBase o name X.env (eval o X.env)=eval o X.env:=by rfl)
    (hfew:((backTo cpos (starEach (e::es) X.env)).all (fun x=>!x.1) && (backToKw cpos (keywordEach [] X.env)).all (fun x=>x.1.isSome)
      && decide ((e::es).length+([]:List Keyword).length+(if([]:List Keyword).isEmpty then 0 else 1) < 30))=true:=by rfl)
    (hline:(apos.endLine == cpos.line)=true:=by rfl) (hs:starEach (e::es) X.env=(false,eval e X.env)::starEach es X.env:=by rfl) (hplain:(backTo cpos (starEach es X.env)).any (·.1)=false:=by rfl) :
    PE X (.Call (.Attribute o name apos) (e::es) [] cpos) (tBM X.K T r to t):=by
  intro pins s σ H Q I h
  refine wpAny_Call_method_late hbase hfew hline rfl (thn (ho pins s σ H _ I h) fun v s1 ⟨x,H1,I1,r1,ty,q1⟩=>?_)
  obtain⟨h1,h2⟩:=tyV_is I1 r1 ty
  refine⟨T,id,pa,slot,hty,h1,h2,?_⟩
  have hA:=ha cpos pins s1 σ H1 _ I1 q1
  rw[hs]at hA ⊢
  refine Calls.callWith_builtin (by show(false || (backTo cpos (starEach es X.env)).any (·.1))=false;rw[hplain] <;>rfl) (Calls.evalArgs_plain ?_)
  exact thn hA fun us s2 ⟨vs,H2,I2,r2,q2⟩=>hm pins s2 σ H2 x vs v us Q I2 r1 r2 q2
end
end L2
namespace L2
open PySem PySem.Spec PyProof.Rows
def MtM(X:Cx)(id:String)(r:V→List V→Hp→VK→Prop):Prop:=
  ∀(pins:List (Addr × Obj)) (s:Shared) (σ:St) (H:Hp) (x:V) (xs:List V) (v:Value) (us:List Value) (Q:VK),Inv X pins σ H s→RelV x v→Vals xs us→r x xs H Q→
    wpAny (model X.prog X.w) X.A (call (.builtin id) (v::us)) (EP X pins σ Q) X.xe s
theorem Vals.one:∀{x:V} {us:List Value},Vals [x] us→∃u,us=[u]∧RelV x u
  | _,_,.cons r .nil=>⟨_,rfl,r⟩
theorem Vals.two:∀{x y:V} {us:List Value},Vals [x,y] us→∃u v,us=[u,v]∧RelV x u∧RelV y v
  | _,_,_,.cons r (.cons q .nil)=>⟨_,_,rfl,r,q⟩
theorem Vals.zero:∀{us:List Value},Vals [] us→us=[]
  | _,.nil=>rfl
theorem Vals.eraseIdx:∀{xs:List V} {us:List Value} (i:Nat),Vals xs us→Vals (xs.eraseIdx i) (us.eraseIdx i)
  | _,_,_,.nil=>.nil
  | _,_,0,.cons _ t=>t
  | _,_,i+1,.cons r t=>.cons r (Vals.eraseIdx i t)
theorem Vals.reverse{xs:List V}{us:List Value}(h:Vals xs us):Vals xs.reverse us.reverse:=by
  induction h with
  | nil=>exact .nil
  | cons r t ih=>rw[List.reverse_cons,List.reverse_cons];exact Vals.append ih (.cons r .nil)
theorem Vals.rep{xs:List V}{us:List Value}(h:Vals xs us):∀k:Nat,Vals (List.replicate k xs).flatten (List.replicate k us).flatten
  | 0=>.nil
  | k+1=>by
    rw[List.replicate_succ,List.replicate_succ,List.flatten_cons,List.flatten_cons]
    exact Vals.append h (Vals.rep h k)
theorem len_erase{α:Type}:∀(l:List α) (i:Nat),(l.eraseIdx i).length≤l.length
  | [],_=>Nat.le_refl _
  | _::_,0=>Nat.le_succ _
  | _::r,i+1=>Nat.succ_le_succ (len_erase r i)
theorem foldl_rep(its:List Value):∀(k:Nat) (acc:List Value),
    List.foldl (fun x1 x2=>x1++x2) acc.toArray (List.replicate k its.toArray)=(acc++(List.replicate k its).flatten).toArray
  | 0,acc=>by simp
  | k+1,acc=>by
    have e:acc.toArray++its.toArray=(acc++its).toArray:=by simp
    have e2:(acc++its)++(List.replicate k its).flatten=acc++(List.replicate (k+1) its).flatten:=by
      rw[List.replicate_succ,List.flatten_cons,List.append_assoc]
    rw[← e2,← foldl_rep its k (acc++its),← e,List.replicate_succ,List.foldl_cons]
section
variable{X:Cx}{pins:List (Addr × Obj)}{σ:St}{H:Hp}{s:Shared}{l b:Addr}{xs ys zs:List V}
theorem Inv.lset{its its':List Value}{n:Nat}{f:Array Value→Array Value}{t':Nat}(I:Inv X pins σ H s)(hH:H l=some (.lst xs))
    (e:s.heap.get? l=some { cls:=.type "list",data:=.seq its.toArray n }) (hf:f its.toArray=its'.toArray) (hv:Vals ys its') (hz:ys.length≤sizeLine) :
    Inv X pins σ (upd H l (.lst ys)) { s with heap:=s.heap.update l (Obj.mapSeq f),toks:=t' }:=by
  have q:=PySem.IsL.update e f
  rw[hf]at q
  refine I.write (x:=l) (e:=l) (by rw[hH];exact trivial) (.inl rfl) (fun b' u hb hu=>(Heap.get?_update_other s.heap (Obj.mapSeq f) (Ne.symm hb)).trans hu) ⟨_,q⟩ ?_
  exact⟨hz,its',_,hv,q⟩
theorem Inv.lnew{its:List Value}{t':Nat}(I:Inv X pins σ H s)(hv:Vals ys its)(hz:ys.length≤sizeLine) :
    Inv X pins σ (upd H s.heap.objs.size (.lst ys)) { s with heap:=s.heap.push { cls:=.type "list",data:=.seq its.toArray },toks:=t' }:=
  I.laid (fun _ _ q=>Heap.get?_push_of_some _ q) (Nat.le_refl _) ⟨hz,its,0,hv,Heap.get?_push_size _ rfl⟩
theorem Inv.fresh(I:Inv X pins σ H s):H s.heap.objs.size=none:=I.hok.fresh (Nat.le_refl _)
theorem Inv.lstM(I:Inv X pins σ H s)(hH:H l=some (.lst xs)):xs.length≤sizeLine∧∃(its:List Value) (n:Nat),Vals xs its∧xs.length=its.length∧s.heap.get? l=some { cls:=.type "list",data:=.seq its.toArray n }:=by
  obtain⟨z,its,n,r,e⟩:=I.hok l _ hH
  exact⟨z,its,n,r,r.length,e⟩
theorem notLongL{n:Nat}(h:n≤sizeLine):Builtin.List.listTooLong n=false:=by
  unfold Builtin.List.listTooLong
  exact decide_eq_false (by omega)
end
section
variable{X:Cx}
def rAppend:V→List V→Hp→VK→Prop:=fun x vs H Q=>∃l xs y,x=.ref l∧vs=[y]∧H l=some (.lst xs)∧xs.length < sizeLine∧Q .non (upd H l (.lst (xs++[y])))
theorem mt_append:MtM X "list.append" rAppend:=by
  intro pins s σ H x vs v us Q I rx rv h
  obtain⟨l,xs,y,rfl,rfl,hH,hz,q⟩:=h
  cases rx
  obtain⟨u,rfl,ru⟩:=rv.one
  obtain⟨z,its,n,r,hl,e⟩:=I.lstM hH
  refine call_meets F.slot_list_append ⟨_,e,rfl⟩ F.entry_list_append (F.args_list_append_2 _ _) (PySem.list_append l its.toArray n u (by rw[List.size_toArray];omega)) ⟨e,?_⟩
  refine⟨.non,_,I.lset (its':=its++[u]) hH e (by simp) (r.append (.cons ru .nil)) ?_,rfl,q⟩
  rw[List.length_append,List.length_singleton]
  omega
def rExtend:V→List V→Hp→VK→Prop:=fun x vs H Q=>∃l b xs zs,x=.ref l∧vs=[.ref b]∧H l=some (.lst xs)∧H b=some (.lst zs)∧xs.length+zs.length≤sizeLine∧Q .non (upd H l (.lst (xs++zs)))
theorem mt_extend:MtM X "list.extend" rExtend:=by
  intro pins s σ H x vs v us Q I rx rv h
  obtain⟨l,b,xs,zs,rfl,rfl,hH,hB,hz,q⟩:=h
  cases rx
  obtain⟨u,rfl,ru⟩:=rv.one
  cases ru
  obtain⟨z,its,n,r,hl,e⟩:=I.lstM hH
  obtain⟨z2,its2,n2,r2,hl2,e2⟩:=I.lstM hB
  have hsz:its.toArray.size+its2.toArray.size≤sizeLine:=by rw[List.size_toArray,List.size_toArray];omega
  have hlong:¬(!its.toArray.isEmpty && Builtin.List.listTooLong (its.toArray.size+its2.toArray.size))=true:=by
    rw[notLongL hsz,Bool.and_false]
    exact Bool.false_ne_true
  refine call_meets F.slot_list_extend ⟨_,e,rfl⟩ F.entry_list_extend (F.args_list_extend_2 _ _)
    (AutoSeq1.list_extend_list_list_0 l its.toArray n b its2.toArray n2 hlong (by rw[List.size_toArray];omega) (by omega)) ⟨e,e2,?_⟩
  refine⟨.non,_,I.lset (its':=its++its2) hH e (by simp) (r.append r2) ?_,rfl,q⟩
  rw[List.length_append]
  omega
def rPopAt:V→List V→Hp→VK→Prop:=fun x vs H Q=>∃l xs i k y,x=.ref l∧vs=[.int i]∧H l=some (.lst xs)∧-(2 ^ 63)≤i∧i < 2 ^ 63∧seqIndex? i xs.length=some k∧xs[k]? = some y∧Q y (upd H l (.lst (xs.eraseIdx k)))
theorem mt_popAt:MtM X "list.pop" rPopAt:=by
  intro pins s σ H x vs v us Q I rx rv h
  obtain⟨l,xs,i,k,y,rfl,rfl,hH,h1,h2,hk,hy,q⟩:=h
  cases rx
  obtain⟨u,rfl,ru⟩:=rv.one
  obtain⟨t,rfl⟩:=ru
  obtain⟨z,its,n,r,hl,e⟩:=I.lstM hH
  obtain⟨w,hw,rw'⟩:=r.get hy
  refine call_meets F.slot_list_pop ⟨_,e,rfl⟩ F.entry_list_pop (F.args_list_pop_2 _ _)
    (MeetsSeq.list_pop_at l its.toArray n i t k w (fitsIndex_both h1 h2) (by rw[List.size_toArray,← hl];exact hk) (by rw[← Array.getElem?_toList];exact hw) (by rw[List.size_toArray];omega)) ⟨e,?_⟩
  refine⟨y,_,I.lset (its':=its.eraseIdx k) hH e ?_ (r.eraseIdx k) ?_,rw',q⟩
  · show its.toArray.eraseIdxIfInBounds k=(its.eraseIdx k).toArray
    rw[List.eraseIdxIfInBounds_toArray]
  · have:=len_erase xs k
    omega
def rCat:R2:=fun x y H Q=>∃l b xs zs,x=.ref l∧y=.ref b∧H l=some (.lst xs)∧H b=some (.lst zs)∧xs.length+zs.length≤sizeLine∧∀p,H p=none→Q (.ref p) (upd H p (.lst (xs++zs)))
theorem op_cat:OpR X (binaryOp .Add) rCat:=by
  intro pins s σ H x y v u Q I rx ry h
  obtain⟨l,b,xs,zs,rfl,rfl,hH,hB,hz,q⟩:=h
  cases rx
  cases ry
  obtain⟨z,its,n,r,hl,e⟩:=I.lstM hH
  obtain⟨z2,its2,n2,r2,hl2,e2⟩:=I.lstM hB
  refine PySem.P.add_list e e2 ?_ (by rw[List.size_toArray,List.size_toArray];omega)
  have ea:its.toArray++its2.toArray=(its++its2).toArray:=by simp
  rw[ea]
  exact⟨.ref _,_,I.lnew (t':=s.toks) (r.append r2) (by rw[List.length_append];omega),rfl,q _ I.fresh⟩
def rRep:R2:=fun x y H Q=>∃l k xs,x=.ref l∧y=.int k∧H l=some (.lst xs)∧-(2 ^ 63)≤k∧k < 2 ^ 63∧xs.length * k.toNat≤sizeLine∧
  ∀p,H p=none→Q (.ref p) (upd H p (.lst (List.replicate k.toNat xs).flatten))
theorem len_rep{α:Type}(xs:List α)(k:Nat):(List.replicate k xs).flatten.length=k * xs.length:=by
  induction k with
  | zero=>simp
  | succ k ih=>rw[List.replicate_succ,List.flatten_cons,List.length_append,ih,Nat.succ_mul,Nat.add_comm]
theorem op_rep:OpR X (binaryOp .Mult) rRep:=by
  intro pins s σ H x y v u Q I rx ry h
  obtain⟨l,k,xs,rfl,rfl,hH,h1,h2,hz,q⟩:=h
  cases rx
  obtain⟨t,rfl⟩:=ry
  obtain⟨z,its,n,r,hl,e⟩:=I.lstM hH
  have hlen:its.toArray.size * k.toNat≤sizeLine:=by rw[List.size_toArray,← hl];exact hz
  have hcap:¬its.toArray.size * k.toNat > (2 ^ 63 - 1) / 8:=by
    have:(sizeLine:Nat)≤(2 ^ 63 - 1) / 8:=by decide
    omega
  have hfit:¬(!Builtin.List.listFitsIndex k)=true:=by
    rw[fitsIndex_both h1 h2]
    exact Bool.false_ne_true
  have hlong:¬Builtin.List.listTooLong (its.toArray.size * k.toNat)=true:=by
    rw[notLongL hlen]
    exact Bool.false_ne_true
  have hnew:List.foldl (fun x1 x2=>x1++x2) #[] (List.replicate (if its.toArray.isEmpty=true then 0 else k.toNat) its.toArray)=(List.replicate k.toNat its).flatten.toArray:=by
    have f0:∀m:Nat,List.foldl (fun x1 x2=>x1++x2) #[] (List.replicate m its.toArray)=(List.replicate m its).flatten.toArray:=fun m=>by
      have:=foldl_rep its m []
      rw[List.nil_append]at this
      exact this
    rw[f0]
    cases its with
    | nil=>simp
    | cons a r'=>rw[if_neg (by simp)]
  refine wpAny_binaryOp_repeat_ref (T:="list") (U:="int") (by decide) ⟨_,e,rfl⟩ (fun s'=>typeIs_int s' k t) noFill_list_mul F.fills_int_mul F.slot_int_rmul repeat_list F.slot_int_index.lookup
    (call_meets F.slot_int_rmul (typeIs_int s k t) F.entry_int_rmul (F.args_int_rmul_2 _ _) (int___rmul___int_list k t l its.toArray n)
      ⟨e,rfl,⟨_,e,rfl⟩,call_meets F.slot_list_mul ⟨_,e,rfl⟩ F.entry_list_mul (F.args_list_mul_2 _ _) (AutoListH.list___mul___list_int_3 l its.toArray n k t hfit hcap hlong) ⟨e,?_⟩⟩)
  rw[hnew]
  exact⟨.ref _,_,I.lnew (t':=s.toks) (r.rep k.toNat) (by rw[len_rep,Nat.mul_comm];exact hz),rfl,q _ I.fresh⟩
end
section
variable{prog:Program}{w:World}{A:Around}{E:Value→Shared→Prop}{s:Shared}
set_option maxRecDepth 100000 in
end
section
variable{X:Cx}
end
end L2
namespace Att
open PySem PySem.W PySem.Calls PyProof.Rows
theorem ints_of_wellAll{P:Params}{h:Heap}:∀(ns:List Int) (vs:List Value),WellAll P h vs (ns.map WData.int)→IntsAre vs ns:=by
  intro ns
  induction ns with
  | nil=>
    intro vs w
    rw[List.map_nil]at w
    cases w
    exact .nil
  | cons n ns ih=>
    intro vs w
    rw[List.map_cons]at w
    cases w with
    | cons a b=>
      cases a
      exact .cons _ _ (ih _ b)
theorem script_of{l:OpenLaw}{n:Nat}(hn:l.most=some n){P:Params}{h:Heap}{args:List WData}{vals:List Value}
    (hpre:l.row.toRowW.claim.pre args=true) (hwl:WellAll P h vals args) :
    ∃a vs ns,vals=[Value.ref a]∧args=[WData.list (ns.map WData.int)]∧h.get? a=some { cls:=.type "list",data:=.seq vs.toArray }∧IntsAre vs ns∧ns.length≤n:=by
  have hsh:WShape.hasAll [] args [.list .int]=true:=(pre_splitW hpre).1
  have hc:l.pre.holds [] { args:=args }=true:=(pre_splitW hpre).2
  obtain⟨d,r,rfl,h1,h2⟩:=hasAllW_cons hsh
  obtain rfl:=hasAllW_nil h2
  obtain⟨xs,rfl,h3⟩:=hasW_list h1
  obtain⟨ns,rfl⟩:=items_int h3
  have hlen:ns.length≤n:=by
    unfold OpenLaw.pre at hc
    have h4:(WTm.not (.lt (.lit (.int (n:Int))) (.len (.arg 0)))).holds [] { args:=[.list (ns.map .int)] }=true:=by
      have h4:=(holds_andW hc).1
      rw[hn]at h4
      exact h4
    have h5:=condW_of h4 (w_not (w_lt w_lit (w_len_list (w_arg rfl))))
    rw[List.length_map]at h5
    refine Nat.le_of_not_lt fun q=>?_
    have q':(n:Int) < ((ns.length:Nat):Int):=by omega
    first
      | (rw[decide_eq_true q']at h5;exact absurd h5 (by decide))
      | (simp at h5;omega)
  cases hwl with
  | cons w1 w2=>
    cases w2
    cases w1 with
    | list ho hall=>exact⟨_,_,ns,rfl,rfl,ho,ints_of_wellAll ns _ hall,hlen⟩
theorem post_true(l:OpenLaw)(args:List WData):l.row.toRowW.claim.post args (.bool true) args=true:=
  postW_of (r:=l.row.toRowW) (X:=(true == true))
    (show WShape.has [] (.bool true) .bool=true by first | rfl | decide | simp[WShape.has,WShape.arms,WShape.armsAll])
    (show(WTm.eq .res (.lit (.bool true))).value [] { args:=args,res:=some (.bool true),after:=args }=some (.bool (true == true))from w_eq_bool (w_res rfl) w_lit) rfl
theorem attach_call{l:OpenLaw}{n:Nat}{q:Program}{loose:List Str}{XP:(Str→Option Value)→Heap→Prop}{YP:World→Heap→Prop}{d:DefRec}
    (hn:l.most=some n) (hdf:d.params.defaults=[])
    (call:∀(w:World) (s₀ s₁:Shared) (mg mb:Str→Option Value) (fa:Addr) (o:Obj) (pm cd doc:Value) (a:Addr) (vs:List Value) (ns:List Int),
      Ground q loose [] XP w s₀ mg mb s₁.heap→YP w s₁.heap→
      s₁.heap.get? fa=some o→o.data=.func (docDef d.name d.params d.body d.scope pm cd doc)→s₁.heap.CodeRec cd d.name→mg d.name=some (.ref fa)→
      s₁.heap.get? a=some { cls:=.type "list",data:=.seq vs.toArray }→IntsAre vs ns→ns.length≤n→s₁.gens=#[]→
      codeAny (model l.prog w) callerA (.call (.ref fa) ⟨[.ref a],[]⟩) (fun r s'=>r=.ok (.ret (.bool true))∧OldK s₁.heap s'.heap∧s'.os=s₁.os∧AllBare s'.gens) s₁) :
    WalkO q loose XP YP l.row.toRowW d [] (fun f vs=>PySem.call f vs):=by
  intro w s₀ s₁ mg mb G Y fa o pm cd doc dV kV ho hd hcd hD hmg hg args vals as hpre hlay hrd hwl hlo
  obtain rfl:dV=.none:=Dflts.none hD hdf
  obtain rfl:kV=.none:=Dflts.noKw hD
  obtain⟨a,vs,ns,rfl,rfl,hobj,hints,hlen⟩:=script_of hn hpre hwl
  refine enter_call (codeAny_mono (call w s₀ s₁ mg mb fa o pm cd doc a vs ns G Y ho (fd_plain hd) hcd hmg hobj hints hlen hg) fun r s' hq=>?_)
  obtain⟨rfl,h2,h3,h4⟩:=hq
  exact⟨.inl ⟨.bool true,.bool true,[],rfl,fun _=>rfl,.bool true,post_true l _,fun _=>⟨List.Pairwise.nil,fun _ hm=>(nomatch hm)⟩⟩,h2,h3,h4⟩
section
variable{prog:Program}{w:World}{A:Around}{E:Value→Shared→Prop}{s:Shared}{K:Frag}
def ledger(h:Heap)(L d:Addr):List (Addr × Obj):=(List.range h.objs.size).filterMap fun a=>if a=L∨a=d then none else(h.get? a).map fun o=>(a,o)
end
end Att
namespace L2
open PySem PySem.Spec PyProof.Rows
theorem vals_ints:∀{vs:List Value} {ns:List Int},IntsAre vs ns→Vals (ns.map V.int) vs
  | _,_,.nil=>.nil
  | _,_,.cons n t h=>.cons ⟨t,rfl⟩ (vals_ints h)
def Only(H:Hp):Prop:=∀b,H b=none∨∃o xs,H b=some (.frz o (.lst xs))
theorem law_call{P:Program}{w:World}{K:PySem.W.Frag}{mg mb:Str→Option Value}{CX:CXT}{k:Nat}{fa a:Addr}{fd:FuncData}{x:Str}{sp:Sp}{s₁:Shared}{vs:List Value}{ns:List Int}
    (KX:K.In s₁.heap) (hns:s₁.heap.Ns mainGlobals mg) (hb:s₁.heap.Ns builtinsNs mb) (hbb:∀x:Str,x≠"__name__"→mb x=bootBuiltins x) (hlim:s₁.heap.NoLimit) (hsee:s₁.heap.NoSeer) (hg:s₁.gens=#[])
    (ha:s₁.heap.get? a=some { cls:=.type "list",data:=.seq vs.toArray }) (hi:IntsAre vs ns) (hl:ns.length≤sizeLine) (hr:Room k callerA)
    (F:∀base:Heap,K.In base→base.Ns mainGlobals mg→FnOk P w K mg base CX k fa fd [x] sp) (hbind:∀(s:Shared) (u:Value),BindsTo s fd ⟨[u],[]⟩ [(x,u)])
    (hsp:∀H:Hp,Only H→SqL K H a (ns.map V.int)→sp [.ref a] H (fun v _=>v=.bl true) fun _ _ _=>False)
    (hCX:∀H e s',CX [] H s₁ (fun _ _ _=>False) e s'→False) :
    codeAny (model P w) callerA (.call (.ref fa) ⟨[.ref a],[]⟩) (fun r s'=>r=.ok (.ret (.bool true))∧OldK s₁.heap s'.heap∧s'.os=s₁.os∧AllBare s'.gens) s₁:=by
  have rv:=vals_ints hi
  have lenV:=hi.length
  have core:∀H:Hp,Only H→SqL K H a (ns.map V.int)→HOk P w H s₁.heap→(∀b,H b≠none→b=a)→(H a≠none→K.lookup a=none)→
      codeAny (model P w) callerA (.call (.ref fa) ⟨[.ref a],[]⟩) (fun r s'=>r=.ok (.ret (.bool true))∧OldK s₁.heap s'.heap∧s'.os=s₁.os∧AllBare s'.gens) s₁:=by
    intro H hO hS hok hA hK
    have base_of:∀{b:Addr} {o:Obj},s₁.heap.get? b=some o→H b=none→(hidT s₁.heap H).get? b=some o:=fun e n=>hidT_get e n
    have noA:∀{b:Addr} {o:Obj} {es:Array DictEntry} {ep:Nat},s₁.heap.get? b=some o→o.data=.dict es ep→H b=none:=fun{b o es ep} e d=>by
      cases q:H b with
      | none=>rfl
      | some u=>
        have e':b=a:=hA b (by rw[q];simp)
        subst e'
        rw[ha]at e;cases e
        have d':Data.seq vs.toArray _=Data.dict es ep:=d
        cases d'
    have nsK:∀{b:Addr} {m:Str→Option Value},s₁.heap.Ns b m→(hidT s₁.heap H).Ns b m:=fun{b m} ⟨o,es,ep,e,d,r⟩=>⟨o,es,ep,base_of e (noA e d),d,r⟩
    have hKb:K.In (hidT s₁.heap H):=fun b o e=>base_of (KX b o e) (by
      cases q:H b with
      | none=>rfl
      | some u=>
        have e':b=a:=hA b (by rw[q];simp)
        subst e'
        rw[hK (by rw[q];simp)]at e;cases e)
    have hM:Mod K mg (hidT s₁.heap H):=⟨hKb,nsK hns,⟨mb,nsK hb,hbb⟩,let⟨mc,h1,h2⟩:=hlim;⟨mc,nsK h1,h2⟩,
      ⟨let⟨mc,h1,h2⟩:=hsee.statics;⟨mc,nsK h1,h2⟩,let⟨mc,h1,h2⟩:=hsee.mods;⟨mc,nsK h1,h2⟩,let⟨mc,h1,h2⟩:=hsee.imp;⟨mc,nsK h1,h2⟩,by
        obtain⟨mg',bm,ob,n1,n2,n3,n4,n5⟩:=hsee.main
        refine⟨mg',bm,ob,nsK n1,n2,base_of n3 ?_,n4,n5⟩
        cases q:H bm with
        | none=>rfl
        | some u=>
          have e':bm=a:=hA bm (by rw[q];simp)
          subst e'
          rw[ha]at n3;cases n3
          exact absurd (show Value.type "list"=Value.type "module" from n4) (fun z=>by injection z with z;exact absurd z (by decide))⟩⟩
    have e0:Env0 P w K mg (hidT s₁.heap H) callerA [] s₁ H:=⟨rfl,hM,fun b o e=>of_hidT e,Nat.le_of_eq (hidT_size _ _),trivial,fun b hb=>absurd (show b∈([]:List Addr)from hb) (by simp),hok,.of_eq hg⟩
    refine codeAny_mono ((F _ hKb (nsK hns)).run callerA [] s₁ H ⟨[.ref a],[]⟩ [.ref a] [.ref a] _ _ hr e0 (hbind s₁ (.ref a)) (.cons rfl .nil) (hsp H hO hS)) fun r s' h=>?_
    cases r with
    | error e=>exact(hCX H e s' h).elim
    | ok fl=>
      cases fl with
      | next=>exact False.elim h
      | brk=>exact False.elim h
      | cont=>exact False.elim h
      | ret u=>
        obtain⟨v,H',os,bare,un,hok',r',q⟩:=h
        have q':v=.bl true:=q
        subst q'
        obtain rfl:u=Value.bool true:=r'
        refine⟨rfl,OldK.of_keep fun b o e=>?_,os,bare⟩
        cases q:H b with
        | none=>exact un.keep b o e q (by intro z;exact absurd (show b∈([]:List Addr)from z) (by simp)) (by simp)
        | some u=>
          rcases hO b with z | ⟨ob,xs,z⟩
          · rw[q]at z;cases z
          · have z2:=un.frzs b ob _ z
            obtain⟨e1,_⟩:=hok b _ z
            obtain⟨e2,_⟩:=hok' b _ z2
            rw[e]at e1;cases e1
            exact e2
  cases hk:K.lookup a with
  | some o=>
    have e:=KX a o hk
    rw[ha]at e
    cases e
    refine core (fun _=>none) (fun _=>.inl rfl) (.inr ⟨_,vs.toArray,_,hk,rfl,rfl,rfl,by rw[List.size_toArray,lenV];exact hl,by simpa using rv⟩) (fun b u z=>by have z':(none:Option HO)=some u:=z;cases z') (fun b z=>absurd rfl z) fun z=>absurd rfl z
  | none=>
    refine core (fun b=>if b=a then some (.frz { cls:=.type "list",data:=.seq vs.toArray } (.lst (ns.map V.int)))else none) (fun b=>?_) (.inl (.inr ⟨{ cls:=.type "list",data:=.seq vs.toArray },if_pos rfl⟩)) (fun b u z=>?_) (fun b z=>?_) fun _=>hk
    · by_cases hb:b=a
      · exact .inr ⟨_,_,if_pos hb⟩
      · exact .inl (if_neg hb)
    · by_cases hb:b=a
      · have z':=(if_pos hb).symm.trans z
        cases z'
        subst hb
        exact⟨ha,by rw[List.length_map];exact hl,vs,_,rv,ha⟩
      · have z':=(if_neg hb).symm.trans z
        cases z'
    · by_cases hb:b=a
      · exact hb
      · exact absurd (if_neg hb) z
end L2
namespace L2
open PySem PySem.Spec PyProof.Rows
abbrev KOf{K:PySem.W.Frag}{h:Heap}(_:K.In h):PySem.W.Frag:=K
theorem walk_of{l:PySem.W.OpenLaw}{n k:Nat}{q:Program}{loose:List Str}{XP:(Str→Option Value)→Heap→Prop}{YP:World→Heap→Prop}{d:DefRec}{K:Params→PySem.W.Frag}{CX:World→CXT}{sp:World→Sp}{x:Str}
    (hn:l.most=some n) (hn2:n≤sizeLine) (hdf:d.params.defaults=[]) (hr:Room k callerA) (hq:importsNone q=true)
    (hY:∀(w:World) (h:Heap),YP w h→(K w.params).In h)
    (F:∀(w:World) (mg:Str→Option Value) (fa:Addr) (h:Heap),(K w.params).In h→h.Ns mainGlobals mg→mg d.name=some (.ref fa)→
      ∃fd:FuncData,(∀(s:Shared) (u:Value),BindsTo s fd ⟨[u],[]⟩ [(x,u)])∧
        ∀base:Heap,(K w.params).In base→base.Ns mainGlobals mg→FnOk l.prog w (K w.params) mg base (CX w) k fa fd [x] (sp w))
    (hsp:∀(w:World) (H:Hp) (a:Addr) (ns:List Int),ns.length≤n→Only H→SqL (K w.params) H a (ns.map V.int)→sp w [.ref a] H (fun v _=>v=.bl true) fun _ _ _=>False)
    (hCX:∀(w:World) (H:Hp) (s:Shared) (e:Value) (s':Shared),CX w [] H s (fun _ _ _=>False) e s'→False) :
    PySem.W.WalkO q loose XP YP l.row.toRowW d [] (fun f vs=>PySem.call f vs):=by
  refine Att.attach_call hn hdf fun w s₀ s₁ mg mb fa o pm cd doc a vs ns G Y ho hd hcd hmg hobj hints hlen hg=>?_
  have KX:=hY w _ Y
  obtain⟨fd,hb,hF⟩:=F w mg fa _ KX G.T.g hmg
  exact law_call KX G.T.g G.T.b G.T.builtins G.T.nolimit (G.T.seer hq) hg hobj hints (Nat.le_trans hlen hn2) hr hF hb (fun H hO hS=>hsp w H a ns hlen hO hS) fun H e s'=>hCX w H s₁ e s'
theorem walk_ofK{l:PySem.W.OpenLaw}{n k:Nat}{q:Program}{loose:List Str}{XP:(Str→Option Value)→Heap→Prop}{YP:World→Heap→Prop}{d:DefRec}{K:Params→PySem.W.Frag}{CX:CXT}{sp:PySem.W.Frag→Sp}{x:Str}
    (hn:l.most=some n) (hn2:n≤sizeLine) (hdf:d.params.defaults=[]) (hr:Room k callerA) (hq:importsNone q=true)
    (hY:∀(w:World) (h:Heap),YP w h→(K w.params).In h)
    (F:∀(w:World) (mg:Str→Option Value) (fa:Addr) (h:Heap),(K w.params).In h→h.Ns mainGlobals mg→mg d.name=some (.ref fa)→
      ∃fd:FuncData,(∀(s:Shared) (u:Value),BindsTo s fd ⟨[u],[]⟩ [(x,u)])∧
        ∀base:Heap,(K w.params).In base→base.Ns mainGlobals mg→FnOk l.prog w (K w.params) mg base CX k fa fd [x] (sp (K w.params)))
    (hsp:∀(K:PySem.W.Frag) (H:Hp) (a:Addr) (ns:List Int),ns.length≤n→Only H→SqL K H a (ns.map V.int)→sp K [.ref a] H (fun v _=>v=.bl true) fun _ _ _=>False)
    (hCX:∀(H:Hp) (s:Shared) (e:Value) (s':Shared),CX [] H s (fun _ _ _=>False) e s'→False) :
    PySem.W.WalkO q loose XP YP l.row.toRowW d [] (fun f vs=>PySem.call f vs):=
  walk_of (K:=K) (CX:=fun _=>CX) (sp:=fun w=>sp (K w.params)) hn hn2 hdf hr hq hY F (fun w H a ns h1 h2 h3=>hsp (K w.params) H a ns h1 h2 h3) fun _ H s e s'=>hCX H s e s'
end L2
namespace L2
open PySem PySem.Spec PyProof.Rows
def inClass(s:Stmt)(j:Nat):Stmt:=match s with
  | .ClassDef _ _ _ body _ _ _ _ _ _ _=>body.getD j (.Pass ⟨0,0,0,0⟩)
  | _=>.Pass ⟨0,0,0,0⟩
def defArgs(s:Stmt):Arguments:=match s with
  | .FunctionDef _ a _ _ _ _ _ _ _ _=>a
  | _=>{ posonlyargs:=[],args:=[],vararg:=none,kwonlyargs:=[],kw_defaults:=[],kwarg:=none,defaults:=[] }
def defBody(s:Stmt):List Stmt:=match s with
  | .FunctionDef _ _ b _ _ _ _ _ _ _=>b
  | _=>[]
def defScope(s:Stmt):Scope:=match s with
  | .FunctionDef _ _ _ _ _ _ sc _ _ _=>sc
  | _=>{ kind:=.function,names:=[],isGenerator:=false,isCoroutine:=false }
abbrev CX0:CXT:=fun _ _ _ _ _ _=>False
abbrev E0:XK:=fun _ _ _=>False
theorem pass0{X:Cx}:Passes CX0 X E0:=fun _ _ _ _ _ _ _ h=>h.elim
structure Fun(K:PySem.W.Frag)(x qual:Str)(st:Stmt)(f:Addr)(fd:FuncData):Prop where
  ex:∃(oc:Value) (od:Option Addr) (kV doc pm:Value) (an:Option Addr) (cdv ct:Value) (osl:Array (Option Value)),
    fd=PySem.W.fnOf x qual (defArgs st) (defBody st) (defScope st) .none kV doc pm an cdv ct∧K.lookup f=some ⟨oc,od,.func fd,osl⟩∧PySem.W.codeIn K cdv qual=true
  kp:PySem.W.keepIn K (.ref f)=true
section
variable{P:Program}{w:World}{K:PySem.W.Frag}{mg:Str→Option Value}{base:Heap}
theorem Fun.ok{x qual:Str}{st:Stmt}{f:Addr}{fd:FuncData}{N ps:List Str}{k:Nat}{sp:Sp}(F:Fun K x qual st f fd)(S:FnScope N ps (defScope st))(len:∀vs H Q E,sp vs H Q E→vs.length=ps.length)
    (hbody:∀(cdv:Value) (A:Around) (outer:List Env) (s:Shared) (H:Hp) (vs:List V) (Q:VK) (E:XK),Room k (A.deeper (envOfC qual (defScope st) s.heap.objs.size f cdv))→sp vs H Q E→
      ∃t,PSs (cxOf CX0 P w K mg base N qual (defScope st) f cdv A outer s H E).nox (defBody st) t∧t { nx:=fun _ H'=>Q .non H',rt:=Q } (start N vs) H):FnOk P w K mg base CX0 (k+1) f fd ps sp:=by
  obtain⟨oc,od,kV,doc,pm,an,cdv,ct,osl,rfl,lk,hcd⟩:=F.ex
  refine fn_of lk hcd S len fun A outer s H vs Q E hr hsp=>?_
  obtain⟨t,h,q⟩:=hbody cdv A outer s H vs Q E hr hsp
  exact⟨t,h.nox,q⟩
theorem Fun.binds{x qual:Str}{st:Stmt}{f:Addr}{fd:FuncData}{ps:List Str}(F:Fun K x qual st f fd)
    (h:∀(kV doc pm:Value) (an:Option Addr) (cdv ct:Value) (us:List Value),us.length=ps.length→bindArgs (PySem.W.fnOf x qual (defArgs st) (defBody st) (defScope st) .none kV doc pm an cdv ct) ⟨us,[]⟩=pure (ps.zip us)):Binds K fd ps []:=by
  obtain⟨oc,od,kV,doc,pm,an,cdv,ct,osl,rfl,lk,hcd⟩:=F.ex
  exact .all (h kV doc pm an cdv ct)
theorem fun_mk{x qual:Str}{st:Stmt}{f:Addr}{oc:Value}{od an:Option Addr}{osl:Array (Option Value)}{kV doc pm cdv ct:Value}(l:K.lookup f=some ⟨oc,od,.func (PySem.W.fnOf x qual (defArgs st) (defBody st) (defScope st) .none kV doc pm an cdv ct),osl⟩)
    (c:PySem.W.codeIn K cdv qual=true) (k:PySem.W.keepIn K (.ref f)=true):Fun K x qual st f (PySem.W.fnOf x qual (defArgs st) (defBody st) (defScope st) .none kV doc pm an cdv ct):=⟨⟨oc,od,kV,doc,pm,an,cdv,ct,osl,rfl,l,c⟩,k⟩
end
theorem hu_of{A:Around}{k:Nat}(hr:Room k A):A.units+1 < cLine:=Nat.lt_of_le_of_lt (Nat.add_le_add_left (by decide:1≤64) _) hr.units
theorem small1000{n:Nat}(h:n≤1000):n < sizeLine:=Nat.lt_of_le_of_lt h (by decide)
section
variable{X:Cx}
theorem pv(i:Nat){x:Str}{pos:Pos}(hN:X.N[i]? = some x:=by rfl)(hv:Vis X.env.scope x:=by first | exact Or.inl rfl | exact Or.inr (Or.inl rfl) | exact Or.inr (Or.inr rfl))(hd:(x == ("__debug__":Str))=false:=by decide)
    (hcd:(x == ("__classdict__":Str))=false:=by decide):PE X (.Name x pos) (tVar i):=pe_var hN hv hd hcd
end
theorem iteF{A B:Prop}(h:B):if false=true then A else B:=by
  rw[if_neg Bool.false_ne_true]
  exact h
theorem iteT{A B:Prop}(h:A):if true=true then A else B:=by
  rw[if_pos rfl]
  exact h
def Same(H H':Hp):Prop:=∀b o,H b=some o→H' b=some o
theorem Same.refl(H:Hp):Same H H:=fun _ _ h=>h
theorem Same.trans{H H1 H2:Hp}(a:Same H H1)(b:Same H1 H2):Same H H2:=fun c o h=>b c o (a c o h)
theorem Same.free{H H':Hp}(e:Same H H'){l:Addr}(h:H' l=Option.none):H l=Option.none:=by
  cases q:H l with
  | none=>rfl
  | some o=>
    rw[e l o q]at h
    cases h
theorem Same.seq{K:PySem.W.Frag}{H H':Hp}{a:Addr}{xs:List V}(e:Same H H')(h:SqL K H a xs):SqL K H' a xs:=by
  rcases h with (h | ⟨o,h⟩) | h
  · exact .inl (.inl (e _ _ h))
  · exact .inl (.inr ⟨o,e _ _ h⟩)
  · exact .inr h
end L2
set_option maxHeartbeats 4000000
namespace L2
open PySem PySem.Spec PyProof.Rows PySem.SeqAt
section
variable{X:Cx}
def CDivB(_ j:Int):Prop:=j≠0∧j.natAbs.log2 < 9000
theorem op_fdivB:OpR X (binaryOp .FloorDiv) (rI CDivB fun i j=>.int (i.fdiv j)):=opI fun _ _ _ _ _ _ _ hc q=>floordiv_int hc.1 q (Or.inl (PyProof.noPylong_of_log2 hc.2))
def rIsi(K:PySem.W.Frag):List V→Hp→VK→Prop:=fun xs H Q=>∃x n t b,xs=[x,.ty n]∧TyOf K H x t∧PySem.W.kitOne K t (.type n)=some b∧Q (.bl b) H
theorem call_isi:CallR X (.builtin "isinstance") (rIsi X.K):=by
  intro pins s σ H xs us Q I r h
  obtain⟨x,n,t,b,rfl,ty,e,q⟩:=h
  cases r with
  | cons rx r1=>
    cases r1 with
    | cons ry r2=>
      cases r2
      cases ry
      exact isinst_ok I rx ty e fun tk=>⟨.bl b,H,I.tok _,rfl,q⟩
structure MkO(K:PySem.W.Frag)(C:Addr):Prop where
  makes:PySem.W.makesIn K C=true
  init:PySem.W.findIn K (.ref C) "__init__"=some (some (.builtin "object.__init__"))
  kp:PySem.W.keepIn K (.ref C)=true
def tMakeO(C:Addr):TE:=fun _ H Q=>∀x dx,H x=none→H dx=none→dx≠x→Q (.ref x) (upd (upd H dx (.own x)) x (.ins C dx []))
theorem pe_makeO{C:Addr}{x:Str}{p pos:Pos}(M:MkO X.K C)(hg:Gl X x)(hm:X.mg x=some (.ref C))(hdb:(x == ("__debug__":Str))=false:=by decide):PE X (.Call (.Name x p) [] [] pos) (tMakeO C):=by
  intro pins s σ H Q I h
  refine wpAny_Call_Name_kw (ld_glob I hg hm ?_ hdb)
  refine PySem.W.callWith_K0 I.kIn M.kp ?_
  have hq:=h (s.heap.objs.size+1) s.heap.objs.size (I.hok.fresh (Nat.le_succ _)) (I.hok.fresh (Nat.le_refl _)) (Nat.ne_of_lt (Nat.lt_succ_self _))
  have I2:=Inv.made (C:=C) I
  have Y:=PySem.W.makes_of (M:=model X.prog X.w) I.kIn M.makes
  refine wpAny_call (make_map0 I.kIn M.makes M.init (fun self=>PySem.W.Looks.of_pure (PySem.W.oi_bind self)) ?_)
  have t1:PySem.W.Looks (model X.prog X.w) ((s.heap.push PySem.W.emptyDict).push (PySem.W.instObj C s.heap.objs.size)) (typeOf (.ref (s.heap.objs.size+1))) (.ref C):=
    (PySem.W.Looks.ld (o:=PySem.W.instObj C s.heap.objs.size) (by have e:((s.heap.push PySem.W.emptyDict).push (PySem.W.instObj C s.heap.objs.size)).get? (s.heap.push PySem.W.emptyDict).objs.size=some (PySem.W.instObj C s.heap.objs.size):=Heap.get?_push_size _ rfl;rw[Heap.size_push]at e;exact e)).andThen .now
  have t2:PySem.W.Looks (model X.prog X.w) ((s.heap.push PySem.W.emptyDict).push (PySem.W.instObj C s.heap.objs.size)) (isInstance (.ref (s.heap.objs.size+1)) (.type "object")) true:=
    t1.andThen (Y.top.keeps fun b o e=>Heap.get?_push_of_some _ (Heap.get?_push_of_some _ e))
  refine PySem.codeAny_call_builtin PySem.W.oi_plain PySem.W.entry_oi (@PySem.W.check_slot (model X.prog X.w) _ _ _ "object.__init__" "object" "__init__" (.ref (s.heap.objs.size+1)) [] [] _ PySem.W.oi_kind PySem.W.oi_split t2 (PySem.W.oi_args (.ref (s.heap.objs.size+1))) ?_)
  rw[PySem.W.oi_run]
  exact wpAny_pure (And.intro rfl ⟨V.ref (s.heap.objs.size+1),_,I2,rfl,hq⟩)
end
mutual
inductive Is(K:PySem.W.Frag)(H:Hp):V→PyData→Prop
  | non:Is K H .non .none
  | bl (b:Bool):Is K H (.bl b) (.bool b)
  | int (i:Int):Is K H (.int i) (.int i)
  | str (x:Str):Is K H (.str x) (.str x)
  | tup {a:Addr} {xs:List V} {ds:List PyData}:SqT K H a xs→IsAll K H xs ds→Is K H (.ref a) (.tuple ds)
  | lst {a:Addr} {xs:List V} {ds:List PyData}:SqL K H a xs→IsAll K H xs ds→Is K H (.ref a) (.list ds)
inductive IsAll(K:PySem.W.Frag)(H:Hp):List V→List PyData→Prop
  | nil:IsAll K H [] []
  | cons {v:V} {vs:List V} {d:PyData} {ds:List PyData}:Is K H v d→IsAll K H vs ds→IsAll K H (v::vs) (d::ds)
end
theorem Same.tup{K:PySem.W.Frag}{H H':Hp}{a:Addr}{xs:List V}(e:Same H H')(h:SqT K H a xs):SqT K H' a xs:=by
  rcases h with (h | ⟨o,h⟩) | h
  · exact .inl (.inl (e _ _ h))
  · exact .inl (.inr ⟨o,e _ _ h⟩)
  · exact .inr h
mutual
theorem Is.same{K:PySem.W.Frag}{H H':Hp}(e:Same H H'):∀{v:V} {d:PyData},Is K H v d→Is K H' v d
  | _,_,.non=>.non
  | _,_,.bl b=>.bl b
  | _,_,.int i=>.int i
  | _,_,.str x=>.str x
  | _,_,.tup h r=>.tup (e.tup h) (IsAll.same e r)
  | _,_,.lst h r=>.lst (e.seq h) (IsAll.same e r)
theorem IsAll.same{K:PySem.W.Frag}{H H':Hp}(e:Same H H'):∀{v:List V} {d:List PyData},IsAll K H v d→IsAll K H' v d
  | _,_,.nil=>.nil
  | _,_,.cons a r=>.cons (Is.same e a) (IsAll.same e r)
end
section
variable{X:Cx}{pins:List (Addr × Obj)}{σ:St}{H:Hp}{s:Shared}
mutual
theorem Is.reads(I:Inv X pins σ H s):∀{v:V} {d:PyData} {u:Value},Is X.K H v d→RelV v u→∃as,Reads s.heap u d as
  | _,_,_,.non,r=>by cases r;exact⟨_,.none⟩
  | _,_,_,.bl b,r=>by cases r;exact⟨_,.bool b⟩
  | _,_,_,.int i,r=>by obtain⟨t,rfl⟩:=r;exact⟨_,.int i t⟩
  | _,_,_,.str x,r=>by obtain⟨t,rfl⟩:=r;exact⟨_,.str x t⟩
  | _,_,_,.tup h a,r=>by
    cases r
    obtain⟨its,rv,⟨o,ho,hc,n,hd⟩,_⟩:=I.tuple h
    obtain⟨as,hr⟩:=IsAll.reads I a rv
    exact⟨as,.tuple ho hc hd (by simpa using hr)⟩
  | _,_,_,.lst h a,r=>by
    cases r
    obtain⟨its,rv,⟨o,n,ho,hc,_,hd⟩,_⟩:=I.list h
    obtain⟨as,hr⟩:=IsAll.reads I a rv
    exact⟨_,.list ho hc hd (by simpa using hr)⟩
theorem IsAll.reads(I:Inv X pins σ H s):∀{vs:List V} {ds:List PyData} {us:List Value},IsAll X.K H vs ds→Vals vs us→∃as,ReadsAll s.heap us ds as
  | _,_,_,.nil,.nil=>⟨_,.nil⟩
  | _,_,_,.cons a r,.cons q t=>by
    obtain⟨as,h1⟩:=Is.reads I a q
    obtain⟨bs,h2⟩:=IsAll.reads I r t
    exact⟨_,.cons h1 h2⟩
end
def rEqD(K:PySem.W.Frag):R2:=fun x y H Q=>∃d d',Is K H x d∧Is K H y d'∧shaped d=true∧shaped d'=true∧noMix d d'=true∧Q (.bl (PySem.Spec.same d d')) H
def rNeD(K:PySem.W.Frag):R2:=fun x y H Q=>∃d d',Is K H x d∧Is K H y d'∧shaped d=true∧shaped d'=true∧noMix d d'=true∧Q (.bl (!PySem.Spec.same d d')) H
theorem op_eqD(hu:X.A.units+64 < cLine):OpR X (compareOp .Eq) (rEqD X.K):=by
  intro pins s σ H x y v u Q I rx ry h
  obtain⟨d,d',hx,hy,sx,sy,nm,q⟩:=h
  obtain⟨as,ra⟩:=hx.reads I rx
  obtain⟨bs,rb⟩:=hy.reads I ry
  exact eq_dataH_same ra rb sx sy hu nm ⟨.bl _,H,I,rfl,q⟩
theorem op_neD(hu:X.A.units+64 < cLine):OpR X (compareOp .NotEq) (rNeD X.K):=by
  intro pins s σ H x y v u Q I rx ry h
  obtain⟨d,d',hx,hy,sx,sy,nm,q⟩:=h
  obtain⟨as,ra⟩:=hx.reads I rx
  obtain⟨bs,rb⟩:=hy.reads I ry
  exact ne_dataH_same ra rb sx sy hu nm ⟨.bl _,H,I,rfl,q⟩
end
theorem iteI{i j:Int}{A B:Prop}(h1:i=j→A)(h2:¬i=j→B):if decide (V.int i=V.int j)=true then A else B:=by
  by_cases h:i=j
  · rw[if_pos (decide_eq_true (congrArg V.int h))];exact h1 h
  · rw[if_neg (by simpa using h)];exact h2 h
theorem iteNI{i j:Int}{A B:Prop}(h1:¬i=j→A)(h2:i=j→B):if(!decide (V.int i=V.int j))=true then A else B:=by
  by_cases h:i=j
  · rw[if_neg (by simpa using h)];exact h2 h
  · rw[if_pos (by simpa using h)];exact h1 h
theorem iteP{p A B:Prop} [Decidable p](h1:p→A)(h2:¬p→B):if decide p=true then A else B:=by
  by_cases h:p
  · rw[if_pos (decide_eq_true h)];exact h1 h
  · rw[if_neg (by simpa using h)];exact h2 h
theorem same_upd{H:Hp}{p:Addr}{o:HO}(h:H p=none):Same H (upd H p o):=fun b u e=>by
  rw[upd_ne (ne_of_none e h)];exact e
end L2
namespace L2
open PySem PySem.Spec PyProof.Rows
section
variable{κ:Type} [DecidableEq κ]
def valV(kvs:List (κ × V))(k:κ):Option V:=(kvs.find? fun kv=>decide (kv.1=k)).map (·.2)
def putK(kvs:List (κ × V))(k:κ)(v:V):List (κ × V):=
  if(kvs.any fun kv=>decide (kv.1=k))=true then kvs.map (fun kv=>if kv.1=k then(kv.1,v)else kv)else kvs++[(k,v)]
def dropK(kvs:List (κ × V))(k:κ):List (κ × V):=kvs.filter fun kv=>decide (kv.1≠k)
theorem valV_pos{p:κ × V}{r:List (κ × V)}{k:κ}(e:p.1=k):valV (p::r) k=some p.2:=by simp[valV,List.find?_cons,e]
theorem valV_neg{p:κ × V}{r:List (κ × V)}{k:κ}(e:¬p.1=k):valV (p::r) k=valV r k:=by simp[valV,List.find?_cons,e]
theorem valV_any(k:κ):∀kvs:List (κ × V),(kvs.any fun kv=>decide (kv.1=k))=(valV kvs k).isSome
  | []=>rfl
  | p::r=>by
    rw[List.any_cons]
    by_cases e:p.1=k
    · simp only[valV_pos e,decide_eq_true e,Bool.true_or,Option.isSome_some]
    · rw[valV_neg e,decide_eq_false e,Bool.false_or];exact valV_any k r
theorem length_putK(kvs:List (κ × V))(k:κ)(v:V):(putK kvs k v).length≤kvs.length+1:=by
  unfold putK
  split
  · rw[List.length_map];omega
  · rw[List.length_append,List.length_cons,List.length_nil];omega
theorem RelO.isSome_eq{o:Option V}{u:Option Value}(r:RelO o u):o.isSome=u.isSome:=by
  cases o with
  | none=>cases u with
    | none=>rfl
    | some _=>exact(show False from r).elim
  | some _=>cases u with
    | none=>exact(show False from r).elim
    | some _=>rfl
theorem RelO.getD{o:Option V}{u:Option Value}{d:V}{d':Value}(r:RelO o u)(rd:RelV d d'):RelV (o.getD d) (u.getD d'):=by
  cases o with
  | none=>cases u with
    | none=>exact rd
    | some _=>exact(show False from r).elim
  | some _=>cases u with
    | none=>exact(show False from r).elim
    | some _=>exact r
theorem KV.val{kvs:List (κ × V)}{vs:List (κ × Value)}(r:KV kvs vs)(k:κ):RelO (valV kvs k) (valueAt vs k):=by
  unfold KV at r
  induction r with
  | nil=>exact True.intro
  | @cons p q ps qs h t ih=>
    obtain⟨h1,h2⟩:=h
    by_cases e:p.1=k
    · have e':q.1=k:=h1.symm.trans e
      have b:valueAt (q::qs) k=some q.2:=by simp[valueAt,List.find?_cons,e']
      rw[valV_pos e,b];exact h2
    · have e':¬q.1=k:=fun z=>e (h1.trans z)
      have b:valueAt (q::qs) k=valueAt qs k:=by simp[valueAt,List.find?_cons,e']
      rw[valV_neg e,b];exact ih
theorem KV.any{kvs:List (κ × V)}{vs:List (κ × Value)}(r:KV kvs vs)(k:κ):(kvs.any fun kv=>decide (kv.1=k))=vs.any fun kv=>decide (kv.1=k):=by
  unfold KV at r
  induction r with
  | nil=>rfl
  | cons h t ih=>rw[List.any_cons,List.any_cons,ih,h.1]
theorem KV.repl{kvs:List (κ × V)}{vs:List (κ × Value)}(r:KV kvs vs)(k:κ){y:V}{u:Value}(ry:RelV y u) :
    KV (kvs.map fun kv=>if kv.1=k then(kv.1,y)else kv) (vs.map fun kv=>if kv.1=k then(kv.1,u)else kv):=by
  unfold KV at r ⊢
  induction r with
  | nil=>exact .nil
  | @cons p q ps qs h t ih=>
    rw[List.map_cons,List.map_cons]
    refine .cons ?_ ih
    obtain⟨h1,h2⟩:=h
    by_cases e:p.1=k
    · rw[if_pos e,if_pos (h1.symm.trans e)];exact⟨h1,ry⟩
    · rw[if_neg e,if_neg (fun z=>e (h1.trans z))];exact⟨h1,h2⟩
theorem KV.put{kvs:List (κ × V)}{vs:List (κ × Value)}(r:KV kvs vs)(k:κ){y:V}{u:Value}(ry:RelV y u):KV (putK kvs k y) (stored vs k u):=by
  unfold putK stored
  rw[r.any k]
  by_cases e:(vs.any fun kv=>decide (kv.1=k))=true
  · rw[if_pos e,if_pos e];exact r.repl k ry
  · rw[if_neg e,if_neg e];exact Paired.snoc r ⟨rfl,ry⟩
theorem KV.drop{kvs:List (κ × V)}{vs:List (κ × Value)}(r:KV kvs vs)(k:κ):KV (dropK kvs k) (without vs k):=by
  unfold KV at r ⊢
  unfold dropK without
  induction r with
  | nil=>exact .nil
  | @cons p q ps qs h t ih=>
    obtain⟨h1,h2⟩:=h
    rw[List.filter_cons,List.filter_cons]
    by_cases e:p.1=k
    · have a:¬decide (p.1≠k)=true:=by simp[e]
      have b:¬decide (q.1≠k)=true:=by simp[h1.symm.trans e]
      rw[if_neg a,if_neg b];exact ih
    · have e':¬q.1=k:=fun z=>e (h1.trans z)
      have a:decide (p.1≠k)=true:=by simp[e]
      have b:decide (q.1≠k)=true:=by simp[e']
      rw[if_pos a,if_pos b];exact .cons ⟨h1,h2⟩ ih
theorem KV.keys{kvs:List (κ × V)}{vs:List (κ × Value)}(r:KV kvs vs):kvs.map (·.1)=vs.map (·.1):=by
  unfold KV at r
  induction r with
  | nil=>rfl
  | cons h t ih=>rw[List.map_cons,List.map_cons,ih,h.1]
theorem KV.length{kvs:List (κ × V)}{vs:List (κ × Value)}(r:KV kvs vs):kvs.length=vs.length:=Paired.length r
end
theorem kV_is{P:Program}{w:World}{k:Key}{u:Value}(r:RelV (kV k) u):(mixKind P w).is k u=true:=by
  cases k with
  | inl i=>obtain⟨t,e⟩:=(show ∃t,u=Value.int i t from r);subst e;exact mixKind_int P w i t
  | inr x=>obtain⟨t,e⟩:=(show ∃t,u=Value.str x t from r);subst e;exact mixKind_str P w x t
theorem items_are{P:Program}{w:World}:∀{ks:List Key} {us:List Value},Vals (ks.map kV) us→ItemsAre (mixKind P w) ks us
  | [],_,r=>by rw[List.map_nil]at r;cases r;exact .nil
  | k::ks,_,r=>by
    rw[List.map_cons]at r
    cases r with
    | cons h t=>exact .cons (kV_is h) (items_are t)
abbrev KT(H:Hp):List (List Key × V)→List (List Key × Addr × Value)→Prop:=Paired fun p q=>p.1=q.1∧H q.2.1=some (.tup (p.1.map kV))∧RelV p.2 q.2.2
theorem KT.val{H:Hp}{kvs:List (List Key × V)}{xs:List (List Key × Addr × Value)}(r:KT H kvs xs)(k:List Key):RelO (valV kvs k) ((atKey xs k).map (·.2)):=by
  induction r with
  | nil=>exact True.intro
  | @cons p q ps qs h t ih=>
    obtain⟨h1,_,h2⟩:=h
    by_cases e:p.1=k
    · have e':q.1=k:=h1.symm.trans e
      have b:atKey (q::qs) k=some q.2:=by simp[atKey,List.find?_cons,e']
      rw[valV_pos e,b];exact h2
    · have e':¬q.1=k:=fun z=>e (h1.trans z)
      have b:atKey (q::qs) k=atKey qs k:=by simp[atKey,List.find?_cons,e']
      rw[valV_neg e,b];exact ih
theorem KT.repl{H:Hp}{kvs:List (List Key × V)}{xs:List (List Key × Addr × Value)}(r:KT H kvs xs)(k:List Key){y:V}{u:Value}(ry:RelV y u) :
    KT H (kvs.map fun kv=>if kv.1=k then(kv.1,y)else kv) (xs.map (putAt k u)):=by
  induction r with
  | nil=>exact .nil
  | @cons p q ps qs h t ih=>
    rw[List.map_cons,List.map_cons]
    refine .cons ?_ ih
    obtain⟨h1,h2,h3⟩:=h
    unfold putAt
    by_cases e:p.1=k
    · rw[if_pos e,if_pos (h1.symm.trans e)];exact⟨h1,h2,ry⟩
    · rw[if_neg e,if_neg (fun z=>e (h1.trans z))];exact⟨h1,h2,h3⟩
theorem KT.put{H:Hp}{kvs:List (List Key × V)}{xs:List (List Key × Addr × Value)}(r:KT H kvs xs)(k:List Key){b:Addr}{y:V}{u:Value}(hb:H b=some (.tup (k.map kV)))(ry:RelV y u) :
    KT H (putK kvs k y) (storedH xs k b u):=by
  have e:(kvs.any fun kv=>decide (kv.1=k))=(atKey xs k).isSome:=by
    rw[valV_any,(r.val k).isSome_eq,Option.isSome_map]
  unfold putK storedH
  rw[e]
  by_cases q:(atKey xs k).isSome=true
  · rw[if_pos q,if_pos q];exact r.repl k ry
  · rw[if_neg q,if_neg q];exact Paired.snoc r ⟨rfl,hb,ry⟩
theorem KT.keeps{H H':Hp}{kvs:List (List Key × V)}{xs:List (List Key × Addr × Value)}(r:KT H kvs xs)(ht:∀b ys,H b=some (.tup ys)→H' b=some (.tup ys)):KT H' kvs xs:=
  Paired.mapP r fun _ _ z=>⟨z.1,ht _ _ z.2.1,z.2.2⟩
section
variable{P:Program}{w:World}{H:Hp}{h:Heap}{a:Addr}
theorem rd_of{u:HO}(ok:HOk P w H h)(e:Rd H a u):ObjOk P w H h a u:=e.ok ok
theorem dk_rd{kvs:List (Key × V)}(ok:HOk P w H h)(e:Rd H a (.dK kvs)):kvs.length≤sizeLine∧(a == sysModules)=false∧∃vs,KV kvs vs∧h.DictOf (mixKind P w) a vs:=
  show ObjOk P w H h a (.dK kvs)from rd_of ok e
theorem dk_of{kvs:List (Key × V)}(ok:HOk P w H h)(e:H a=some (.dK kvs)):kvs.length≤sizeLine∧(a == sysModules)=false∧∃vs,KV kvs vs∧h.DictOf (mixKind P w) a vs:=dk_rd ok (.inl e)
theorem key_of{ks:List Key}(ok:HOk P w H h)(e:H a=some (.tup (ks.map kV))):(tupleKind (mixKind P w)).is h ks a:=by
  obtain⟨_,its,r,⟨o,h1,h2,n,h3⟩,_⟩:=(show ObjOk P w H h a (.tup (ks.map kV))from ok a _ e)
  exact⟨o,its.toArray,n,h1,h2,h3,by simpa using items_are r⟩
theorem dt_rd{kvs:List (List Key × V)}(ok:HOk P w H h)(e:Rd H a (.dT kvs)):kvs.length≤sizeLine∧(a == sysModules)=false∧
    ∃xs,KT H kvs xs∧h.DictOfH (tupleKind (mixKind P w)) a xs:=by
  obtain⟨z,y,xs,r,o,es,ep,h1,h2,h3,h4,h5⟩:=(show ObjOk P w H h a (.dT kvs)from rd_of ok e)
  refine⟨z,y,xs,r,o,es,ep,h1,h2,h3,h4,fun x hx=>?_,h5⟩
  have all:∀{l:List (List Key × V)} {m:List (List Key × Addr × Value)},KT H l m→∀x∈m,(tupleKind (mixKind P w)).is h x.1 x.2.1:=by
    intro l m q
    induction q with
    | nil=>intro x hx;exact nomatch hx
    | @cons p q ps qs hq t ih=>
      intro x hx
      rcases List.mem_cons.mp hx with e | hx
      · subst e
        exact key_of ok (by rw[← hq.1];exact hq.2.1)
      · exact ih x hx
  exact all r x hx
end
def DGet(H:Hp)(a:Addr)(y:V)(r:Option V):Prop:=
  (∃kvs k,Rd H a (.dK kvs)∧y=kV k∧r=valV kvs k)∨∃kvs k b,Rd H a (.dT kvs)∧y=.ref b∧H b=some (.tup (k.map kV))∧r=valV kvs k
def DPut(H:Hp)(a:Addr)(y v:V)(H':Hp):Prop:=
  (∃kvs k,H a=some (.dK kvs)∧y=kV k∧kvs.length < sizeLine∧H'=upd H a (.dK (putK kvs k v)))∨
  ∃kvs k b,H a=some (.dT kvs)∧y=.ref b∧H b=some (.tup (k.map kV))∧kvs.length < sizeLine∧H'=upd H a (.dT (putK kvs k v))
theorem DGet.k{H:Hp}{a:Addr}{kvs:List (Key × V)}{k:Key}(e:H a=some (.dK kvs)):DGet H a (kV k) (valV kvs k):=.inl ⟨kvs,k,.inl e,rfl,rfl⟩
theorem DGet.t{H:Hp}{a b:Addr}{kvs:List (List Key × V)}{k:List Key}(e:H a=some (.dT kvs))(eb:H b=some (.tup (k.map kV))):DGet H a (.ref b) (valV kvs k):=.inr ⟨kvs,k,b,.inl e,rfl,eb,rfl⟩
theorem DPut.k{H:Hp}{a:Addr}{kvs:List (Key × V)}{k:Key}{v:V}(e:H a=some (.dK kvs))(hl:kvs.length < sizeLine):DPut H a (kV k) v (upd H a (.dK (putK kvs k v))):=.inl ⟨kvs,k,e,rfl,hl,rfl⟩
theorem DPut.t{H:Hp}{a b:Addr}{kvs:List (List Key × V)}{k:List Key}{v:V}(e:H a=some (.dT kvs))(eb:H b=some (.tup (k.map kV)))(hl:kvs.length < sizeLine) :
    DPut H a (.ref b) v (upd H a (.dT (putK kvs k v))):=.inr ⟨kvs,k,b,e,rfl,eb,hl,rfl⟩
section
variable{X:Cx}{pins:List (Addr × Obj)}{σ:St}{H:Hp}{s:Shared}{a:Addr}{y v:V}{u r:Value}{o:Option V}{A:Around}{E:Value→Shared→Prop}
theorem Inv.big(I:Inv X pins σ H s):sysModules < s.heap.objs.size:=by
  have h:mainGlobals < s.heap.objs.size:=(I.mod.glob.keeps I.bk).lt
  exact Nat.lt_trans (by decide) h
theorem d_getItem{Q:Value→Shared→Prop}(hu:A.units+1 < cLine)(I:Inv X pins σ H s)(g:DGet H a y (some v))(ry:RelV y u)(h:∀w' s',Inv X pins σ H s'→RelV v w'→Q w' s') :
    wpAny (model X.prog X.w) A (getItem (.ref a) u) Q E s:=by
  rcases g with ⟨kvs,k,e,ey,l⟩ | ⟨kvs,k,b,e,ey,eb,l⟩
  · subst ey
    obtain⟨z,hd,vs,rel,dd⟩:=dk_rd I.hok e
    obtain⟨w',hw,rw'⟩:=RelO.some_of (v:=v) (o:=valueAt vs k) (by rw[l];exact rel.val k)
    exact wpAny_getItem_of (kV_is ry) dd.mapOf hw (h w' _ (I.tok _) rw')
  · subst ey
    cases (show u=Value.ref b from ry)
    obtain⟨z,hd,xs,rel,dd⟩:=dt_rd I.hok e
    obtain⟨w',hw,rw'⟩:=RelO.some_of (v:=v) (o:=(atKey xs k).map (·.2)) (by rw[l];exact rel.val k)
    obtain⟨p,hp,hp2⟩:=Option.map_eq_some_iff.mp hw
    refine wpAny_getItem_heap (tupleKind_room_in1 hu) (key_of I.hok eb) dd hp ?_
    rw[hp2]
    exact h w' _ (I.tok _) rw'
theorem d_write{h':Heap}{t':Nat}{ob:HO}(I:Inv X pins σ H s)(mu:Mut (H a))(hs:Heap.SameBut a s.heap h')(he:∃q,h'.get? a=some q)(new:ObjOk X.prog X.w (upd H a ob) h' a ob) :
    Inv X pins σ (upd H a ob) { s with heap:=h',toks:=t' }:=
  I.write (x:=a) (e:=a) mu (.inl rfl) (fun b q hb z=>(hs.2 b hb).trans z) he new
theorem dk_new{P:Program}{w:World}{H':Hp}{h':Heap}{kvs:List (Key × V)}{vs:List (Key × Value)}(z:kvs.length≤sizeLine)(hd:(a == sysModules)=false)(rel:KV kvs vs)(dd:h'.DictOf (mixKind P w) a vs) :
    ObjOk P w H' h' a (.dK kvs):=⟨z,hd,vs,rel,dd⟩
end
section
variable{X:Cx}{pins:List (Addr × Obj)}{σ:St}{H:Hp}{s:Shared}{a:Addr}{kvs:List (Key × V)}{k:Key}{u:Value}{A:Around}{E:Value→Shared→Prop}
end
def NoSl(i:Expr):Prop:=∀ov iv,subscripted i false ov iv=operate [ov,iv] (getItem ov iv)
theorem subD_of{prog:Program}{w:World}{A:Around}{E:Value→Shared→Prop}{s:Shared}{env:Env}{value slice:Expr}{pos:Pos}{T id:String}{Q:Value→Shared→Prop}
    (hl:typeLookup (.type T) "__getitem__"=pure (some (.builtin id))) (hs:NoSl slice)
    (h:wpAny (model prog w) A (eval value env) (fun o s₁=>wpAny (model prog w) A (eval slice env) (fun i s₂=>s₂.TypeIs o T∧wpAny (model prog w) A (getItem o i) Q E s₂) E s₁) E s) :
    wpAny (model prog w) A (eval (.Subscript value slice pos) env) Q E s:=by
  refine Subscript_ (wpAny_mono h (fun o s₁ h₁=>wpAny_mono h₁ (fun i s₂ h₂=>?_) fun _ _ x=>x) fun _ _ x=>x)
  obtain⟨hT,h₂⟩:=h₂
  unfold subscriptTail
  refine wpAny_bind ?_
  rw[getitemInPython_of_ne hT.not_modules]
  refine wpAny_bind (wpAny_specialOf hT hl ?_)
  have fin:wpAny (model prog w) A (subscripted slice false o i) (fun r s₃=>wpAny (model prog w) A (letTemporaryGo value o r >>= fun _=>pure r) Q E s₃) E s₂:=by
    rw[hs o i]
    exact wpAny_operating (wpAny_mono h₂ (fun r s₃ h₃=>wpAny_bind (wpAny_letTemporaryGo (wpAny_pure h₃))) fun _ _ x=>x)
  first
    | exact wpAny_pure (wpAny_bind fin)
    | exact wpAny_bind (wpAny_pure (wpAny_bind fin))
    | exact wpAny_bind fin
theorem dict_typeIs{X:Cx}{pins:List (Addr × Obj)}{σ:St}{H:Hp}{s:Shared}{a:Addr}{y:V}{o:Option V}(I:Inv X pins σ H s)(g:DGet H a y o):s.TypeIs (.ref a) "dict":=by
  rcases g with ⟨kvs,k,e,_,_⟩ | ⟨kvs,k,b,e,_,_,_⟩
  · obtain⟨_,_,vs,_,dd⟩:=dk_rd I.hok e
    exact dd.typeIs
  · obtain⟨_,_,xs,_,dd⟩:=dt_rd I.hok e
    exact dd.typeIs
def tDGet(td ty:TE):TE:=fun σ H Q=>td σ H fun x H1=>ty σ H1 fun y H2=>∃a v,x=.ref a∧DGet H2 a y (some v)∧Q v H2
section
variable{X:Cx}{o i e value:Expr}{pos pos' tpos:Pos}{td ty tv:TE}
theorem pe_dget(hu:X.A.units+1 < cLine)(ho:PE X o td)(hi:PE X i ty)(hs:NoSl i):PE X (.Subscript o i pos) (tDGet td ty):=by
  intro pins s σ H Q I h
  refine subD_of PySem.F.slot_dict_getitem.lookup hs (thn (ho pins s σ H _ I h) fun u s1 ⟨x,H1,I1,rx,q1⟩=>thn (hi pins s1 σ H1 _ I1 q1) fun iv s2 ⟨y,H2,I2,ry,a,v,ex,g,q2⟩=>?_)
  subst ex
  obtain rfl:u=Value.ref a:=rx
  exact⟨dict_typeIs I2 g,d_getItem hu I2 g ry fun w' s3 I3 rw'=>⟨v,H2,I3,rw',q2⟩⟩
end
theorem dk_empty{P:Program}{w:World}{H:Hp}(h:Heap)(hb:sysModules < h.objs.size):ObjOk P w H (h.push { cls:=.type "dict",data:=.dict #[] }) h.objs.size (.dK []):=
  ⟨Nat.zero_le _,beq_eq_false_iff_ne.mpr (Ne.symm (Nat.ne_of_lt hb)),[],.nil,Heap.DictOf.new h⟩
section
variable{X:Cx}{pos:Pos}
end
def tPairs:List (TE × TE)→St→Hp→(List (V × V)→Hp→Prop)→Prop
  | [],_,H,Q=>Q [] H
  | (tk,tv)::r,σ,H,Q=>tk σ H fun x H1=>tv σ H1 fun y H2=>tPairs r σ H2 fun ps H3=>Q ((x,y)::ps) H3
abbrev VV:List (V × V)→List (Value × Value)→Prop:=Paired fun p q=>RelV p.1 q.1∧RelV p.2 q.2
def PPs(X:Cx)(pos:Pos)(keys:List (Option Expr))(values:List Expr)(trs:List (TE × TE)):Prop:=
  ∀(pins:List (Addr × Obj)) (s:Shared) (σ:St) (H:Hp) (Q:List (V × V)→Hp→Prop),Inv X pins σ H s→tPairs trs σ H Q→
    wpAny (model X.prog X.w) X.A (evalPairs (pairTrees keys values X.env pos)) (fun vs s'=>∃ps H',Inv X pins σ H' s'∧VV ps vs∧Q ps H') X.xe s
theorem pps_nil{X:Cx}{pos:Pos}:PPs X pos [] [] []:=fun pins s σ H Q I h=>pairTrees_nil_walk ⟨[],H,I,.nil,h⟩
theorem pps_cons{X:Cx}{pos:Pos}{k v:Expr}{ks:List (Option Expr)}{vs:List Expr}{tk tv:TE}{trs:List (TE × TE)}(hk:PE X k tk)(hv:PE X v tv)(hr:PPs X pos ks vs trs) :
    PPs X pos (some k::ks) (v::vs) ((tk,tv)::trs):=fun pins s σ H Q I h=>
  pairTrees_cons_walk (thn (hk pins s σ H _ I h) fun u s1 ⟨x,H1,I1,rx,q1⟩=>thn (hv pins s1 σ H1 _ I1 q1) fun w2 s2 ⟨y,H2,I2,ry,q2⟩=>
    thn (hr pins s2 σ H2 _ I2 q2) fun ws s3 ⟨ps,H3,I3,rel,q3⟩=>⟨(x,y)::ps,H3,I3,.cons ⟨rx,ry⟩ rel,q3⟩)
def mergeK(kvs more:List (Key × V)):List (Key × V):=more.foldl (fun acc kv=>putK acc kv.1 kv.2) kvs
theorem KV.merge:∀{more:List (Key × V)} {rs:List (Key × Value)} {kvs:List (Key × V)} {vs:List (Key × Value)},KV more rs→KV kvs vs→KV (mergeK kvs more) (merged vs rs):=by
  intro more rs kvs vs r
  unfold KV at r
  induction r generalizing kvs vs with
  | nil=>intro q;exact q
  | @cons p q ps qs h t ih=>
    intro r0
    have e:KV (putK kvs p.1 p.2) (stored vs q.1 q.2):=by
      have:=r0.put p.1 h.2
      rw[← h.1];exact this
    exact ih e
theorem length_mergeK:∀(more kvs:List (Key × V)),(mergeK kvs more).length≤kvs.length+more.length
  | [],kvs=>by show kvs.length≤kvs.length+0;omega
  | p::r,kvs=>by
    have h1:=length_mergeK r (putK kvs p.1 p.2)
    have h2:=length_putK kvs p.1 p.2
    show(mergeK (putK kvs p.1 p.2) r).length≤_
    rw[List.length_cons];omega
theorem carries_of{P:Program}{w:World}:∀{kvs:List (Key × V)} {ws:List (Value × Value)},VV (kvs.map fun kv=>(kV kv.1,kv.2)) ws→∃rs,Carries (mixKind P w) ws rs∧KV kvs rs
  | [],_,r=>by rw[List.map_nil]at r;cases r;exact⟨[],True.intro,.nil⟩
  | p::kvs,_,r=>by
    rw[List.map_cons]at r
    cases r with
    | @cons a b as bs h t=>
      obtain⟨rs,c,q⟩:=carries_of (P:=P) (w:=w) t
      obtain⟨b1,b2⟩:=b
      exact⟨(p.1,b2)::rs,⟨kV_is h.1,rfl,c⟩,.cons ⟨rfl,h.2⟩ q⟩
def tDisp(trs:List (TE × TE)):TE:=fun σ H Q=>∀p,H p=none→tPairs trs σ (upd H p (.dK [])) fun ps H2=>H2 p=some (.dK [])∧∃kvs:List (Key × V),ps=kvs.map (fun kv=>(kV kv.1,kv.2))∧kvs.length≤15∧Q (.ref p) (upd H2 p (.dK (mergeK [] kvs)))
theorem pe_disp{X:Cx}{pos:Pos}{keys:List (Option Expr)}{values:List Expr}{trs:List (TE × TE)}(h:PPs X pos keys values trs)(hall:keys.all (·.isSome)=true)(hl:keys.length=values.length)(h0:keys≠[])
    (h15:keys.length≤15):PE X (.Dict keys values pos) (tDisp trs):=by
  intro pins s σ H Q I q
  have hn:=I.hok.fresh (Nat.le_refl s.heap.objs.size)
  have I1:=I.laid (a:=s.heap.objs.size) (o:=.dK []) (h':=s.heap.push { cls:=.type "dict",data:=.dict #[] }) (t':=s.toks) (fun _ _ q=>Heap.get?_push_of_some _ q) (Nat.le_refl _) (dk_empty s.heap I.big)
  refine wpAny_Dict_walk (knd:=mixKind X.prog X.w) hall hl h0 h15 (thn (h pins _ σ _ _ I1 (q _ hn)) fun ws s2 ⟨ps,H2,I2,rel,e,kvs,ep,lk,q2⟩=>?_)
  subst ep
  obtain⟨rs,c,rk⟩:=carries_of (P:=X.prog) (w:=X.w) rel
  obtain⟨z,hd,vs0,r0,dd⟩:=dk_of I2.hok e
  cases r0
  refine⟨rs,c,dd,fun h' dd' hs=>⟨.ref s.heap.objs.size,_,?_,rfl,q2⟩⟩
  have hz:(mergeK [] kvs).length≤sizeLine:=by
    have h1:=length_mergeK kvs []
    rw[List.length_nil]at h1
    rw[sizeLine_eq];omega
  have he:∃q,h'.get? s.heap.objs.size=some q:=let⟨q,_,_,hq,_⟩:=dd';⟨q,hq⟩
  exact d_write I2 (by rw[e];exact True.intro) hs he (dk_new hz hd (rk.merge .nil) dd')
structure M1(X:Cx)(o:Expr)(m:Str)(apos:Pos)(e:Expr)(cpos:Pos):Prop where
  base:attributeBase o m X.env (eval o X.env)=eval o X.env
  few:((backTo cpos (starEach [e] X.env)).all (fun x=>!x.1) && (backToKw cpos (keywordEach [] X.env)).all (fun x=>x.1.isSome)
    && decide (([e]:List Expr).length+([]:List Keyword).length+(if([]:List Keyword).isEmpty then 0 else 1) < 30))=true
  line:(apos.endLine == cpos.line)=true
  trees:backTo cpos (starEach [e] X.env)=[(false,eval e X.env)]
structure M2(X:Cx)(o:Expr)(m:Str)(apos:Pos)(e f:Expr)(cpos:Pos):Prop where
  base:attributeBase o m X.env (eval o X.env)=eval o X.env
  few:((backTo cpos (starEach [e,f] X.env)).all (fun x=>!x.1) && (backToKw cpos (keywordEach [] X.env)).all (fun x=>x.1.isSome)
    && decide (([e,f]:List Expr).length+([]:List Keyword).length+(if([]:List Keyword).isEmpty then 0 else 1) < 30))=true
  line:(apos.endLine == cpos.line)=true
  trees:backTo cpos (starEach [e,f] X.env)=[(false,eval e X.env),(false,eval f X.env)]
section
variable{X:Cx}{pins:List (Addr × Obj)}{σ:St}{H:Hp}{s:Shared}{a:Addr}{y d:V}{u r:Value}{o:Option V}{A:Around}{E:Value→Shared→Prop}
end
section
variable{X:Cx}{o e f:Expr}{apos cpos:Pos}{td ty tx:TE}
end
section
variable{X:Cx}{pins:List (Addr × Obj)}{σ:St}{H:Hp}{s:Shared}{a:Addr}{kvs:List (Key × V)}{A:Around}{E:Value→Shared→Prop}
end
section
variable{X:Cx}{pins:List (Addr × Obj)}{σ:St}{H:Hp}{s:Shared}{a:Addr}{y:V}{u:Value}{A:Around}{E:Value→Shared→Prop}
end
end L2
namespace L2
open PySem PySem.Spec PyProof.Rows
section
variable{P:Program}{w:World}{H H':Hp}{h h':Heap}
theorem HOk.there(x:HOk P w H h){a:Addr}{o:HO}(e:H a=some o):∃ob,h.get? a=some ob:=by
  have y:=x a o e
  clear e x
  induction o with
  | lst xs=>obtain⟨_,its,n,r,e⟩:=y;exact⟨_,e⟩
  | tup xs=>obtain⟨_,its,r,⟨ob,e,c⟩,_⟩:=y;exact⟨_,e⟩
  | dK kvs=>obtain⟨_,_,vs,r,ob,es,ep,e,c⟩:=y;exact⟨_,e⟩
  | dT kvs=>obtain⟨_,_,xs,r,ob,es,ep,e,c⟩:=y;exact⟨_,e⟩
  | set S n=>obtain⟨ob,es,ep,t,e,c⟩:=y;exact⟨_,e⟩
  | ins C dx fs=>obtain⟨d,z,ne,e,_⟩:=y;exact⟨_,e⟩
  | own y'=>exact y
  | xd fs=>obtain⟨mA,⟨od,es,ep,e,c⟩,r⟩:=y;exact⟨_,e⟩
  | rng lo hi=>obtain⟨t,u,v,e⟩:=y;exact⟨_,e⟩
  | frz ob u ih=>exact⟨_,y.1⟩
  | tbl ps=>exact⟨_,y⟩
  | met f y'=>exact⟨_,y⟩
  | ext φ=>exact y.2.1
theorem HOk.nothing(x:HOk P w H h){a:Addr}(n:h.get? a=none):H a=none:=by
  cases q:H a with
  | none=>rfl
  | some o=>obtain⟨ob,e⟩:=x.there q;rw[n]at e;cases e
theorem HOk.loose(x:HOk P w H h)(k:∀b u,H b≠none→h.get? b=some u→h'.get? b=some u):HOk P w H h':=fun a o e=>
  (x a o e).stay (fun b u hb q=>k b u (by
    rcases hb with z | z
    · rw[z,e];exact nofun
    · rw[z];exact nofun) q) (fun _ q=>q) fun _ _ q=>q
def XT(h:Heap)(a T C:Addr):Prop:=∃oe vs a0 oT ts,h.get? a=some oe∧(oe.cls=.ref C∧vs[0]? = some a0)∧oe.data=.fields vs∧vs[1]? = some (.ref T)∧T≠a∧h.get? T=some oT∧oT.data=.fields ts∧ts[3]? = some .none
structure Fly(P:Program)(w:World)(fs:List Addr)(H H':Hp)(s s':Shared)(a T C:Addr):Prop where
  os:s'.os=s.os
  bare:AllBare s'.gens
  un:Un fs [] H H' s.heap s'.heap
  hok:HOk P w H' s'.heap
  xt:XT s'.heap a T C
  na:s.heap.get? a=none
  nT:s.heap.get? T=none
  ha:H' a=none
  hT:H' T=none
def CX1(P:Program)(w:World):CXT:=fun outer H s E e s'=>∃a T C H',e=.ref a∧Fly P w (frs outer) H H' s s' a T C∧E (.ref C) none H'
theorem funs_rebase{h base base':Heap}:∀{l:List Env},h.FunFrames base l→(∀b∈frs l,base'.get? b=none)→h.FunFrames base' l
  | [],_,_=>trivial
  | env::r,⟨k,⟨L,o,hf,_,ho,hd⟩,t⟩,hb=>⟨k,⟨L,o,hf,hb L (by unfold frs;rw[List.filterMap_cons,hf];exact List.mem_cons_self),ho,hd⟩,
      funs_rebase t fun b hm=>hb b (by unfold frs;rw[List.filterMap_cons,hf];exact List.mem_cons_of_mem _ hm)⟩
abbrev hid(h:Heap)(a T:Addr)(fs:List Addr):Heap:=PySem.W.hideAll h (a::T::fs)
end
section
variable{P:Program}{w:World}{H H':Hp}{s s':Shared}{a T C:Addr}{l:List Env}{base0:Heap}
theorem Fly.base(F:Fly P w (frs l) H H' s s' a T C)(ff:s'.heap.FunFrames base0 l):∃a0,Heap.FlyingW (hid s'.heap a T (frs l)) l a (.ref C) a0 s'.heap:=by
  obtain⟨oe,vs,a0,oT,ts,e1,e2,e3,e4,e5,e6,e7,e8⟩:=F.xt
  exact⟨a0,fun b o e=>PySem.W.of_hideAll _ e,PySem.W.hideAll_none _ (by simp),funs_rebase ff fun b hb=>PySem.W.hideAll_none _ (by simp[hb]),
    oe,vs,T,oT,ts,e1,e2,e3,e4,PySem.W.hideAll_none _ (by simp),e5,e6,e7,e8⟩
theorem Fly.back{l':List Env}{h':Heap}{a0:Value}{tk:Nat}(F:Fly P w (frs l) H H' s s' a T C)(ff:s'.heap.FunFrames base0 l)(fH:∀b∈frs l,H' b=none)
    (fl:Heap.FlyingW (hid s'.heap a T (frs l)) l' a (.ref C) a0 h') (up:s'.heap.UpToSlots h'):∃T',Fly P w (frs l) H H' s { s' with heap:=h',toks:=tk } a T' C:=by
  obtain⟨k1,_,_,oe,vs,T',oT,ts,e1,e2,e3,e4,e0,e5,e6,e7,e8⟩:=fl
  have keep:∀b o,s'.heap.get? b=some o→b≠a→b≠T→b ∉ frs l→h'.get? b=some o:=fun b o e n1 n2 n3=>k1 b o (PySem.W.hideAll_get _ e (by simp[n1,n2,n3]))
  have slot:∀b o,s'.heap.get? b=some o→b∈frs l→(∃sl,h'.get? b=some { o with slots:=sl })∧∀vs,o.data≠.fields vs:=fun b o e hb=>by
    obtain⟨_,o1,q1,q2⟩:=ff.mem hb
    rw[e]at q1;cases q1
    exact⟨up b o e q2,q2⟩
  have nf:T' ∉ frs l:=fun hb=>by
    obtain⟨_,o1,q1,q2⟩:=ff.mem hb
    obtain⟨sl,q3⟩:=up _ o1 q1 q2
    rw[e6]at q3;cases q3
    exact q2 _ e7
  have tt:T'=T∨s'.heap.get? T'=none:=by
    by_cases z:T'=T
    · exact .inl z
    · right
      cases q:s'.heap.get? T' with
      | none=>rfl
      | some o=>
        have:=PySem.W.hideAll_get (a::T::frs l) q (by simp[e5,z,nf])
        rw[e0]at this;cases this
  have hT':H' T'=none:=by
    rcases tt with z | z
    · rw[z];exact F.hT
    · exact F.hok.nothing z
  have nT':s.heap.get? T'=none:=by
    rcases tt with z | z
    · rw[z];exact F.nT
    · cases q:s.heap.get? T' with
      | none=>rfl
      | some o=>
        obtain⟨o',q'⟩:=F.un.there _ o q (by simp)
        rw[z]at q';cases q'
  have ne:∀b o,s.heap.get? b=some o→b≠a∧b≠T:=fun b o e=>⟨(fun z=>by rw[z,F.na]at e;cases e),(fun z=>by rw[z,F.nT]at e;cases e)⟩
  refine⟨T',F.os,F.bare,⟨fun b o e n hb hx=>?_,fun b o e n hb hx=>?_,F.un.free,fun b o e hx=>?_,F.un.tups,F.un.frzs,F.un.tbls⟩,F.hok.loose fun b u hb e=>?_,⟨oe,vs,a0,oT,ts,e1,e2,e3,e4,e5,e6,e7,e8⟩,F.na,nT',F.ha,hT'⟩
  · exact keep b o (F.un.keep b o e n hb hx) (ne b o e).1 (ne b o e).2 hb
  · obtain⟨sl,q⟩:=F.un.slot b o e n hb hx
    obtain⟨⟨sl',q'⟩,_⟩:=slot b _ q hb
    exact⟨sl',q'⟩
  · obtain⟨o',q⟩:=F.un.there b o e hx
    by_cases hb:b∈frs l
    · obtain⟨⟨sl,q'⟩,_⟩:=slot b o' q hb
      exact⟨_,q'⟩
    · exact⟨o',keep b o' q (ne b o e).1 (ne b o e).2 hb⟩
  · exact keep b u e (fun z=>hb (z▸F.ha)) (fun z=>hb (z▸F.hT)) fun z=>hb (fH b z)
def ExcO(a C:Addr):HO:=.ext fun h=>∃o,h.get? a=some o∧o.cls=.ref C
theorem Fly.un'(F:Fly P w (frs l) H H' s s' a T C):Un (frs l) [] H (upd H' a (ExcO a C)) s.heap s'.heap where
  keep:=F.un.keep
  slot:=F.un.slot
  free:=fun b o e n hx=>by rw[upd_ne (fun z=>by rw[z,F.na]at e;cases e)];exact F.un.free b o e n hx
  there:=F.un.there
  tups:=fun b xs e=>by have:=F.un.tups b xs e;rw[upd_ne (ne_of_none this F.ha)];exact this
  frzs:=fun b o u e=>by have:=F.un.frzs b o u e;rw[upd_ne (ne_of_none this F.ha)];exact this
  tbls:=fun b ps e=>by obtain⟨m,q⟩:=F.un.tbls b ps e;exact⟨m,by rw[upd_ne (ne_of_none q F.ha)];exact q⟩
theorem Fly.hok'(F:Fly P w (frs l) H H' s s' a T C):HOk P w (upd H' a (ExcO a C)) s'.heap:=fun b o e=>by
  by_cases z:b=a
  · subst z
    rw[upd_same]at e;cases e
    obtain⟨oe,vs,a0,oT,ts,e1,e2,_⟩:=F.xt
    exact⟨⟨oe,e1,e2.1⟩,⟨oe,e1⟩,fun h1 h2 ⟨o,q1,q2⟩ k=>⟨o,k o q1,q2⟩⟩
  · rw[upd_ne z]at e
    exact(F.hok b o e).stay (fun _ _ _ q=>q) (fun c q=>by rw[upd_ne (ne_of_none q F.ha)];exact q) fun c xs q=>by rw[upd_ne (ne_of_none q F.ha)];exact q
end
def XP(X:Cx)(pins:List (Addr × Obj))(σ:St)(E:XK)(e:Value)(s':Shared):Prop:=∃s H,Inv X pins σ H s∧CX1 X.prog X.w X.stack H s E e s'
structure Thru(X:Cx)(E:XK):Prop where
  stk:X.stack=X.env::X.outer
  fr:X.env.frame=some X.env.locals
  ex:X.ex=[]
  xe:X.xe=fun e s'=>wpAny (model X.prog X.w) X.A (leaving X.env e) (fun _ s''=>CX1 X.prog X.w X.outer X.H₀ X.s₀ E e s'') (fun e' s''=>CX1 X.prog X.w X.outer X.H₀ X.s₀ E e' s'') s'
section
variable{X:Cx}{pins:List (Addr × Obj)}{σ:St}{H:Hp}{s s':Shared}{E:XK}{e:Value}
theorem Fly.inv{H':Hp}{a T C:Addr}(I:Inv X pins σ H s)(F:Fly X.prog X.w (frs X.stack) H H' s s' a T C):Inv X pins σ H' s':=I.call' F.os F.un F.hok F.bare (ch:=[]) (fun _ z=>absurd z (by simp))
theorem Fly.inv'{H':Hp}{a T C:Addr}(I:Inv X pins σ H s)(F:Fly X.prog X.w (frs X.stack) H H' s s' a T C):Inv X pins σ (upd H' a (ExcO a C)) s':=I.call' F.os F.un' F.hok' F.bare (ch:=[]) (fun _ z=>absurd z (by simp))
theorem Fly.out{H':Hp}{a T C:Addr}(R:Thru X E)(I:Inv X pins σ H s)(F:Fly X.prog X.w (frs X.stack) H H' s s' a T C)(q:E (.ref C) none H'):CX1 X.prog X.w X.outer X.H₀ X.s₀ E (.ref a) s':=by
  have fsub:∀b∈frs X.outer,b∈frs X.stack:=fun b hb=>by rw[R.stk];unfold frs;rw[List.filterMap_cons,R.fr];exact List.mem_cons_of_mem _ hb
  have u0:Un (frs X.stack) [] X.H₀ H X.s₀.heap s.heap:=I.base.mono fsub (by rw[R.ex];simp)
  have u1:=u0.trans F.un
  have neL:∀b o,X.s₀.heap.get? b=some o→b≠X.env.locals:=fun b o e=>Nat.ne_of_lt (Nat.lt_of_lt_of_le (Heap.lt_size e) I.ok.above)
  have nin:∀b o,X.s₀.heap.get? b=some o→b ∉ frs X.outer→b ∉ frs X.stack:=fun b o e hb hm=>by
    rw[R.stk]at hm
    unfold frs at hm
    rw[List.filterMap_cons,R.fr]at hm
    rcases List.mem_cons.mp hm with z | z
    · exact neL b o e z
    · exact hb z
  have none0:∀b,s.heap.get? b=none→X.s₀.heap.get? b=none:=fun b n=>by
    cases q:X.s₀.heap.get? b with
    | none=>rfl
    | some o=>
      obtain⟨o',q'⟩:=I.base.there b o q (by rw[R.ex];simp)
      rw[n]at q';cases q'
  exact⟨a,T,C,H',rfl,⟨F.os.trans I.os,F.bare,⟨fun b o e n hb hx=>u1.keep b o e n (nin b o e hb) hx,fun b o e n hb hx=>u1.slot b o e n (fsub b hb) hx,u1.free,u1.there,u1.tups,u1.frzs,u1.tbls⟩,F.hok,F.xt,none0 a F.na,none0 T F.nT,F.ha,F.hT⟩,q⟩
theorem XP.leave(R:Thru X E)(x:XP X pins σ E e s'):X.xe e s':=by
  obtain⟨s,H,I,a,T,C,H',rfl,F,q⟩:=x
  have J:=F.inv I
  obtain⟨a0,fl⟩:=F.base J.stack
  rw[R.xe]
  rw[R.stk]at fl
  refine wpAny_leaves_onW (J.ok.frames.trans (by rw[R.stk])) R.fr fl fun h' fl' up=>?_
  rw[← R.stk]at fl'
  obtain⟨T',F'⟩:=F.back (tk:=s'.toks) J.stack J.stkFree fl' up
  exact F'.out R I q
theorem made_leave{h':Heap}{a C:Addr}{vs:List Value}(R:Thru X E)(I:Inv X pins σ H s)(m:Heap.MadeExcOf s.heap h' a (.ref C) vs)(q:E (.ref C) none H):X.xe (.ref a) { s with heap:=h' }:=by
  have J:Inv X pins σ H { s with heap:=h' }:=I.kept (t':=s.toks) m.keeps
  obtain⟨t,he,htn,ht⟩:=m.there
  have ha:H a=none:=I.hok.nothing m.new
  rw[R.xe]
  have ff:h'.FunFrames (hid h' a a (frs X.stack)) X.stack:=funs_rebase J.stack fun b hb=>PySem.W.hideAll_none _ (by simp[hb])
  have ff':h'.FunFrames (hid h' a a (frs X.stack)) (X.env::X.outer):=by
    have z:=J.stack
    rw[R.stk]at z
    exact funs_rebase z fun b hb=>PySem.W.hideAll_none _ (by rw[R.stk];simp[hb])
  refine wpAny_leaving_firstW (a0:=.ref t) (base:=hid h' a a (frs X.stack)) (J.ok.frames.trans (by rw[R.stk])) ff' R.fr he (fun b o e=>PySem.W.of_hideAll _ e) (PySem.W.hideAll_none _ (by simp)) rfl rfl rfl fun h2 hL=>?_
  obtain⟨k1,_,⟨oe,ws,T',oT,ts,e1,e2,e3,e4,e0,e5,e6,e7,e8⟩,k4⟩:=hL
  have ffm:∀b∈frs X.stack,∃o,h'.get? b=some o∧∀vs,o.data≠.fields vs:=fun b hb=>(ff.mem hb).2
  have keep:∀b o,h'.get? b=some o→b≠a→b ∉ frs X.stack→h2.get? b=some o:=fun b o e n1 n3=>k1 b o (PySem.W.hideAll_get _ e (by simp[n1,n3]))
  have nf:T' ∉ frs X.stack:=fun hb=>by
    obtain⟨o1,q1,q2⟩:=ffm _ hb
    obtain⟨sl,q3⟩:=k4 _ o1 q1 q2
    rw[e6]at q3;cases q3
    exact q2 _ e7
  have nT:h'.get? T'=none:=by
    cases q:h'.get? T' with
    | none=>rfl
    | some o=>
      have:=PySem.W.hideAll_get (a::a::frs X.stack) q (by simp[e5,nf])
      rw[e0]at this;cases this
  have ne:∀b o,s.heap.get? b=some o→b≠a:=fun b o e z=>by rw[z,m.new]at e;cases e
  have F':Fly X.prog X.w (frs X.stack) H H s { s with heap:=h2 } a T' C:=by
    refine⟨rfl,I.bare,⟨fun b o e n hb hx=>keep b o (m.keeps b o e) (ne b o e) hb,fun b o e n hb hx=>?_,fun _ _ _ n _=>n,fun b o e hx=>?_,fun _ _ e=>e,fun _ _ _ e=>e,fun b ps e=>⟨#[],by rw[e];simp⟩⟩,J.hok.loose fun b u hb e=>keep b u e (fun z=>hb (z▸ha)) fun z=>hb (J.stkFree b z),
      ⟨oe,ws,_,oT,ts,e1,e2,e3,e4,e5,e6,e7,e8⟩,m.new,?_,ha,J.hok.nothing nT⟩
    · obtain⟨o1,q1,q2⟩:=ffm b hb
      have q3:=m.keeps b o e
      rw[q1]at q3;cases q3
      exact k4 b _ q1 q2
    · by_cases hb:b∈frs X.stack
      · obtain⟨o1,q1,q2⟩:=ffm b hb
        obtain⟨sl,q3⟩:=k4 b o1 q1 q2
        exact⟨_,q3⟩
      · exact⟨o,keep b o (m.keeps b o e) (ne b o e) hb⟩
    · cases q:s.heap.get? T' with
      | none=>rfl
      | some o=>rw[m.keeps _ o q]at nT;cases nT
  exact F'.out R I q
end
end L2
namespace L2
open PySem PySem.Spec PyProof.Rows
abbrev bmV:List Value:=[.type "ValueError",.type "Exception",.type "BaseException",.type "object"]
theorem excIn_obj{K:PySem.W.Frag}{h:Heap}{C:Addr}{bmB:List Value}{newId:String}(X:K.In h)(q:PySem.W.excIn K C bmB newId=true) :
    ∃bm N nm q bs hdct sn sub ab col dd k0 k1 k2 k3 k5 mN,h.get? C=some (excClassObj nm q C N bs bm hdct sn sub ab col dd k0 k1 k2 k3 k5 newId)∧h.Ns N mN∧mN "__init__"=none∧OwnTail h bmB bm:=by
  unfold PySem.W.excIn at q
  split at q
  · rename_i dd cd sl ho
    split at q
    · rename_i C' bm k0 k1 k2 k3 n k5 hm hs
      simp only[Bool.and_eq_true,beq_iff_eq,Bool.not_eq_true']at q
      obtain⟨⟨⟨⟨⟨rfl,rfl⟩,hdel⟩,ht⟩,hok⟩,hni⟩:=q
      obtain⟨nm,bs,mro,ns,qn,hd,sn,sub,ab,col,del⟩:=cd
      dsimp only at hm hdel hok hni
      subst hm hdel
      have hsl:sl=#[k0,k1,k2,k3,some (.builtin n),k5]:=by
        obtain⟨l⟩:=sl
        simp only at hs
        rw[hs]
      subst hsl
      exact⟨bm,ns,nm,qn,bs,hd,sn,sub,ab,col,dd,k0,k1,k2,k3,k5,_,X _ _ ho,.of_isNs (PySem.W.isNs_of_in X hok),PySem.W.nsMap_none_of_in X hok hni,PySem.W.tail_of_in X ht⟩
    · cases q
  · cases q
theorem FnOk.quiet{P:Program}{w:World}{K:PySem.W.Frag}{mg:Str→Option Value}{base:Heap}{k:Nat}{f:Addr}{fd:FuncData}{ps:List Str}{sp:Sp}(F:FnOk P w K mg base (CX1 P w) k f fd ps sp) :
    FnOk P w K mg base CX0 k f fd ps (fun vs H Q _=>sp vs H Q E0):=
  ⟨fun vs H Q _ h=>F.len vs H Q E0 h,fun A outer s H args us vs Q E hr e0 hb r h=>codeAny_mono (F.run A outer s H args us vs Q E0 hr e0 hb r h) fun r s' hq=>by
    cases r with
    | error e=>obtain⟨_,_,_,_,_,_,z⟩:=hq;exact z.elim
    | ok fl=>cases fl <;>exact hq⟩
theorem FnOk.loud{P:Program}{w:World}{K:PySem.W.Frag}{mg:Str→Option Value}{base:Heap}{k:Nat}{f:Addr}{fd:FuncData}{ps:List Str}{sp:Sp}(F:FnOk P w K mg base CX0 k f fd ps sp):FnOk P w K mg base (CX1 P w) k f fd ps sp:=
  ⟨F.len,fun A outer s H args us vs Q E hr e0 hb r h=>codeAny_mono (F.run A outer s H args us vs Q E hr e0 hb r h) fun r s' hq=>by
    cases r with
    | error e=>exact hq.elim
    | ok fl=>cases fl <;>exact hq⟩
section
variable{P:Program}{w:World}{K:PySem.W.Frag}{mg:Str→Option Value}{base:Heap}
theorem Fun.okx{x qual:Str}{st:Stmt}{f:Addr}{fd:FuncData}{N ps:List Str}{k:Nat}{sp:Sp}(F:Fun K x qual st f fd)(S:FnScope N ps (defScope st))(len:∀vs H Q E,sp vs H Q E→vs.length=ps.length)
    (hbody:∀(cdv:Value) (A:Around) (outer:List Env) (s:Shared) (H:Hp) (vs:List V) (Q:VK) (E:XK),Room k (A.deeper (envOfC qual (defScope st) s.heap.objs.size f cdv))→sp vs H Q E→
      ∃t,PSs (cxOf (CX1 P w) P w K mg base N qual (defScope st) f cdv A outer s H E) (defBody st) t∧t { nx:=fun _ H'=>Q .non H',rt:=Q } (start N vs) H):FnOk P w K mg base (CX1 P w) (k+1) f fd ps sp:=by
  obtain⟨oc,od,kV,doc,pm,an,cdv,ct,osl,rfl,lk,hcd⟩:=F.ex
  exact fn_of lk hcd S len fun A outer s H vs Q E hr hsp=>hbody cdv A outer s H vs Q E hr hsp
theorem Thru.own{X:Cx}{E:XK}(R:Thru X E):PassesOwn (model X.prog X.w) X.A X.env X.xe:=by rw[R.xe];exact PassesOwn.leaving
theorem thru_cx{N:List Str}{qual:Str}{scope:Scope}{f:Addr}{cd:Value}{A:Around}{outer:List Env}{s:Shared}{H:Hp}{E:XK}:Thru (cxOf (CX1 P w) P w K mg base N qual scope f cd A outer s H E) E:=⟨rfl,rfl,rfl,rfl⟩
end
abbrev TX:=St→Hp→VK→XK→Prop
abbrev TSX:=Ends→XK→St→Hp→Prop
def PEX(X:Cx)(e:Expr)(t:TX):Prop:=
  ∀(pins:List (Addr × Obj)) (s:Shared) (σ:St) (H:Hp) (Q:VK) (E:XK),Inv X pins σ H s→t σ H Q E→wpAny (model X.prog X.w) X.A (eval e X.env) (EP X pins σ Q) (XP X pins σ E) s
def PSX(X:Cx)(st:Stmt)(t:TSX):Prop:=
  ∀(pins:List (Addr × Obj)) (s:Shared) (σ:St) (H:Hp) (D:Ends) (E:XK),Inv X pins σ H s→t D E σ H→wpAny (model X.prog X.w) X.A (exec st X.env) (SP X pins D) (XP X pins σ E) s
def PSXs(X:Cx)(st:List Stmt)(t:TSX):Prop:=
  ∀(pins:List (Addr × Obj)) (s:Shared) (σ:St) (H:Hp) (D:Ends) (E:XK),Inv X pins σ H s→t D E σ H→wpAny (model X.prog X.w) X.A (execs st X.env) (SP X pins D) (XP X pins σ E) s
section
variable{X:Cx}{k:Nat}{f C:Addr}{fd:FuncData}{ps:List Str}{sp:Sp}{dvs:List V}{ds:List Value}{E:XK}{x m:Str}{p np cpos pos apos:Pos}{e o:Expr}{es:List Expr}{ta:TE}{t:TA}{tx:TX}
theorem PEX.thru(R:Thru X E)(h:PEX X e tx):PE X e (fun σ H Q=>tx σ H Q E):=fun pins s σ H Q I q=>wpAny_mono (h pins s σ H Q E I q) (fun _ _ z=>z) fun _ _ z=>z.leave R
theorem run_fnX{pins:List (Addr × Obj)}{σ:St}{H:Hp}{s:Shared}{Q:VK}{us:List Value}{vs:List V}(F:FnOk X.prog X.w X.K X.mg X.base (CX1 X.prog X.w) k f fd ps sp)(hr:Room k X.A)(hb:Binds X.K fd ps ds)(hd:Vals dvs ds)
    (I:Inv X pins σ H s) (r:Vals vs us) (h:sp (vs++dvs) H Q E):wpAny (model X.prog X.w) X.A (call (.ref f) us) (EP X pins σ Q) (XP X pins σ E) s:=by
  have r2:Vals (vs++dvs) (us++ds):=r.append hd
  have hl:(us++ds).length=ps.length:=by rw[← r2.length];exact F.len _ _ _ _ h
  refine wpAny_call (codeAny_mono (F.run X.A X.stack s H ⟨us,[]⟩ (us++ds) (vs++dvs) Q E hr I.env0 (hb s us I.kIn hl) r2 h) fun r s' hq=>?_)
  cases r with
  | error e=>exact⟨s,H,I,hq⟩
  | ok fl=>
    cases fl with
    | ret u=>exact I.after hq
    | next=>exact False.elim hq
    | brk=>exact False.elim hq
    | cont=>exact False.elim hq
theorem px_call(F:FnOk X.prog X.w X.K X.mg X.base (CX1 X.prog X.w) k f fd ps sp)(hr:Room k X.A)(hg:Gl X x)(hm:X.mg x=some (.ref f))(hk:PySem.W.keepIn X.K (.ref f)=true)(hb:Binds X.K fd ps ds)(hd:Vals dvs ds)
    (ha:PA X.nox (e::es) t) (hdb:(x == ("__debug__":Str))=false:=by decide) (he:starEach (e::es) X.env=(false,eval e X.env)::starEach es X.env:=by rfl) (hpl:(backTo pos (starEach es X.env)).any (·.1)=false:=by rfl) :
    PEX X (.Call (.Name x p) (e::es) [] pos) (fun σ H Q E=>tCall sp dvs E t σ H Q):=by
  intro pins s σ H Q E I h
  refine wpAny_Call_Name_kw (ld_glob I hg hm ?_ hdb)
  exact PySem.W.callWith_K (h₀:=X.base) I.ok.mod.kin hk (wpAny_mono (ha pos pins s σ H _ (I.wish _) h) (fun us s1 ⟨vs,H1,I1,r,q⟩=>⟨I1.unwish.kIn,run_fnX F hr hb hd I1.unwish r q⟩) fun _ _ z=>z.elim) he hpl
def tRaise(E:XK)(C:Addr)(t:TA):TS:=fun _ σ H=>t σ H fun vs H1=>vs.length≤sizeLine∧E (.ref C) none H1
theorem ps_raise(R:Thru X E)(hc:X.calm=true)(q:PySem.W.excIn X.K C bmV "ValueError.__new__"=true)(hg:Gl X x)(hm:X.mg x=some (.ref C))(ha:PA X.nox (e::es) t)
    (hdb:(x == ("__debug__":Str))=false:=by decide) (he:starEach (e::es) X.env=(false,eval e X.env)::starEach es X.env:=by rfl) (hpl:(backTo cpos (starEach es X.env)).any (·.1)=false:=by rfl) :
    PS X (.Raise (some (.Call (.Name x np) (e::es) [] cpos)) none pos) (tRaise E C t):=by
  intro pins s σ H D I h
  obtain⟨bm,N,nm,qn,bs,hdct,sn,sub,ab,col,dd,k0,k1,k2,k3,k5,mN,hC,hN,hni,T⟩:=excIn_obj I.mod.kin q
  have hh:X.A.handled=none:=I.ok.hd hc
  have ev:=ha cpos pins s σ H _ (I.wish _) h
  refine wpAny_Raise_call_subU (C:=C) (nm:=nm) (q:=qn) (N:=N) (bs:=bs) (bm:=bm) (hdct:=hdct) (sn:=sn) (sub:=sub) (ab:=ab) (col:=col) (dd:=dd) (k0:=k0) (k1:=k1) (k2:=k2) (k3:=k3) (k5:=k5)
    PySem.F.excBase_ValueError (by decide) PySem.F.excBase_ValueError (mN:=mN) (T.hasType PySem.F.excBase_ValueError.hasBase) hh (by rw[he];show(false || (backTo cpos (starEach es X.env)).any (·.1))=false;rw[hpl];rfl) hni (ld_glob I hg hm ⟨rfl,?_⟩ hdb)
  rw[he]
  change wpAny _ _ (spliced (backTo cpos (starEach (e::es) X.env))) _ _ _ at ev
  rw[he]at ev
  refine Calls.evalArgs_plain (wpAny_mono ev (fun us s2 ⟨vs,H1,I1,r,hl,q2⟩=>?_) fun _ _ z=>z.elim)
  have J:Inv X pins σ H1 s2:=I1.unwish
  exact⟨rfl,by rw[← r.length];exact hl,J.bk _ _ hC,hN.keeps J.bk,T.keeps J.bk,fun h' a m=>made_leave R J m q2⟩
end
end L2
namespace L2
open PySem PySem.Spec PyProof.Rows
abbrev Cx.caught(X:Cx)(a:Addr):Cx:={ X with A:=X.A.mark (some (.ref a)),calm:=false,xe:=fun _ _=>False }
section
variable{X:Cx}{pins:List (Addr × Obj)}{σ:St}{H:Hp}{s:Shared}{a:Addr}
theorem Inv.catch(I:Inv X pins σ H s)(a:Addr):Inv (X.caught a) pins σ H s:=
  ⟨⟨I.ok.mod,I.ok.kind,I.ok.glob,I.ok.blt,I.ok.above,I.ok.inj,I.ok.has,I.ok.cab,(fun z=>by cases z),I.ok.frames,I.ok.stk,I.ok.exf,I.ok.bs,I.ok.bsz,I.ok.noex,I.ok.exfs,I.ok.funs,I.ok.frf⟩,I.os,I.bare,I.base,I.loc,I.cell,I.free,I.freeC,I.pin,I.hok,I.len⟩
theorem Inv.uncatch(ok:X.Ok)(I:Inv (X.caught a) pins σ H s):Inv X pins σ H s:=⟨ok,I.os,I.bare,I.base,I.loc,I.cell,I.free,I.freeC,I.pin,I.hok,I.len⟩
theorem Inv.unset{i:Nat}{n:Str}{m:Str→Option Value}{v:Option Value}{h':Heap}{tk:Nat}(I:Inv X pins σ H s)(hN:X.N.Nodup)(hi:X.N[i]? = some n)(hk:X.env.kindOf n=some .local)
    (hl:∀(j:Nat) (x:Str) (v:V),X.N[j]? = some x→σ[j]? = some (some v)→Vis X.env.scope x→∃u,RelV v u∧Look X.env s.heap m x u)
    (hn':h'.Ns X.env.locals (fun x=>if x=n then v else m x)) (hs:Heap.SameBut X.env.locals s.heap h'):Inv X pins (σ.set i none) H { s with heap:=h',toks:=tk }:=by
  have cne:=I.cne
  have hiσ:i < σ.length:=by rw[I.len];exact(List.getElem?_eq_some_iff.mp hi).1
  have nb:∀b o,X.s₀.heap.get? b=some o→b≠X.env.locals:=fun b o e=>Nat.ne_of_lt (Nat.lt_of_lt_of_le (Heap.lt_size e) I.ok.above)
  refine⟨I.ok,I.os,I.bare,⟨fun b o e n hb hx=>?_,fun b o e n hb hx=>?_,I.base.free,fun b o e hx=>?_,I.base.tups,I.base.frzs,I.base.tbls⟩,⟨_,hn',fun j y v' e1 e2 e3=>?_⟩,fun y c e=>?_,I.free,I.freeC,fun p hp=>?_,I.hok.loose fun b u hb e=>?_,by simpa using I.len⟩
  · exact(hs.2 b (nb b o e)).trans (I.base.keep b o e n hb hx)
  · obtain⟨sl,e1⟩:=I.base.slot b o e n hb hx
    exact⟨sl,(hs.2 b (nb b o e)).trans e1⟩
  · obtain⟨o',e1⟩:=I.base.there b o e hx
    exact⟨o',(hs.2 b (nb b o e)).trans e1⟩
  · by_cases hj:j=i
    · subst hj
      rw[List.getElem?_set_self hiσ]at e2
      cases e2
    · rw[List.getElem?_set_ne (Ne.symm hj)]at e2
      obtain⟨u',r',q⟩:=hl j y v' e1 e2 e3
      refine⟨u',r',?_⟩
      rcases q with ⟨k,e⟩ | ⟨k,c,e,z⟩
      · refine .inl ⟨k,?_⟩
        have:y≠n:=fun e=>hj (nodup_ix hN e1 (e▸hi))
        simp[this,e]
      · exact .inr ⟨k,c,e,z.sameBut hs (cne y c e)⟩
  · obtain⟨w',z⟩:=I.cell y c e
    exact⟨w',z.sameBut hs (cne y c e)⟩
  · obtain⟨e,n,ne,nf,d⟩:=I.pin p hp
    exact⟨(hs.2 p.1 ne).trans e,n,ne,nf,d⟩
  · exact(hs.2 b fun z=>hb (z▸I.free)).trans e
end
abbrev Ends.gone(D:Ends)(i:Nat):Ends:={ nx:=fun σ H=>D.nx (σ.set i none) H,rt:=D.rt,bk:=fun σ H=>D.bk (σ.set i none) H,ct:=fun σ H=>D.ct (σ.set i none) H }
def tTry(K:PySem.W.Frag)(Cc:Addr)(i:Nat)(tb:TSX)(ts:TS):TS:=fun D σ H=>tb D (fun cls _ H'=>∃C,cls=.ref C∧PySem.W.exmOne K (.ref C) (.ref Cc)=some true∧
  ∀a,H' a=none→ts (D.gone i) (σ.set i (some (.ref a))) (upd H' a (ExcO a C))) σ H
section
variable{X:Cx}{e:Expr}{te:TE}{tx:TX}{pos:Pos}{st:Stmt}{t u:TSX}
theorem psx_one(h:PSX X st t):PSXs X [st] t:=by
  intro pins s σ H D E I q
  refine wpAny_execs_cons (thn (h pins s σ H D E I q) fun f s1 q=>?_)
  cases f with
  | next=>exact wpAny_execs_nil q
  | ret v=>exact q
  | brk=>exact q
  | cont=>exact q
theorem psx_expr(he:PEX X e tx)(hs:swapsWith e none pos.line X.env=pure false:=by rfl):PSX X (.Expr e pos) (fun D E σ H=>tx σ H (fun _ H1=>D.nx σ H1) E):=by
  intro pins s σ H D E I h
  exact wpAny_Expr_any (thn (he pins s σ H _ E I h) fun v s1 ⟨x,H1,I1,r1,q1⟩=>⟨σ,H1,I1,q1⟩) I.quiet hs
theorem ps_try{body:List Stmt}{c n:Str}{np hpos:Pos}{b₀:Stmt}{suite:List Stmt}{Cc:Addr}{i:Nat}{ts:TS}(hb:PSXs X body t)(stk:X.stack=X.env::X.outer)(fr:X.env.frame=some X.env.locals)
    (hN:X.N.Nodup) (hi:X.N[i]? = some n) (hk:X.env.kindOf n=some .local) (hg:Gl X c) (hm:X.mg c=some (.ref Cc)) (hs:∀a,PSs (X.caught a) (b₀::suite) ts)
    (hdb:(c == ("__debug__":Str))=false:=by decide):PS X (.Try body [.ExceptHandler (some (.Name c np)) (some n) (b₀::suite) hpos] [] [] pos) (tTry X.K Cc i t ts):=by
  intro pins s σ H D I h
  refine wpAny_Try_except (wpAny_mono (hb pins s σ H D _ I h) (fun f s1 q=>?_) fun e s1 q=>?_)
  · cases f with
    | next=>exact wpAny_execs_nil q
    | ret v=>exact q
    | brk=>exact q
    | cont=>exact q
  · obtain⟨s0,H0,I0,a,T,C,H',rfl,F,C',eC,hx,hq⟩:=q
    cases eC
    have J:=F.inv I0
    obtain⟨a0,fl⟩:=F.base J.stack
    have hfr:X.A.frames=some (X.env::X.outer):=J.ok.frames.trans (by rw[stk])
    have fl1:=fl
    rw[stk]at fl1
    refine wpAny_looks_onW hfr fr fl1 fun h1 held up1=>?_
    refine wpAny_landsW held fun h2 fl2 up2=>?_
    have fl2':=fl2
    rw[← stk]at fl2'
    obtain⟨T2,F2⟩:=F.back (tk:=s1.toks) J.stack J.stkFree fl2' (up1.trans up2)
    have J2:Inv X pins σ H' { s1 with heap:=h2,toks:=s1.toks }:=F2.inv I0
    obtain⟨oe,vs,b0,oT,tsx,e1,e2,_⟩:=F2.xt
    have LT:PySem.W.Looks (model X.prog X.w) h2 (typeOf (.ref a)) (.ref C):=e2.1▸(PySem.W.Looks.ld e1).andThen .now
    refine wpAny_handleBy_cons (codeAny_handlers_test (ld_glob (X:=X.caught a) (s:={ s1 with heap:=h2,toks:=s1.toks }) (J2.catch a) hg hm ?_ hdb)) (by intro q;cases q)
    refine(PySem.W.exm_one (M:=model X.prog X.w) J2.kIn LT hx).here ?_
    refine codeAny_handlers_suite_as ?_
    refine lands_againW fl2 fun h3 fl3 up3=>?_
    have fl3':=fl3
    rw[← stk]at fl3'
    obtain⟨T3,F3⟩:=F.back (tk:=s1.toks) J.stack J.stkFree fl3' ((up1.trans up2).trans up3)
    have J3:Inv X pins σ (upd H' a (ExcO a C)) { s1 with heap:=h3,toks:=s1.toks }:=F3.inv' I0
    refine store_ok (X:=X) (v:=.ref a) J3 hN hi (.inl hk) rfl (fun s4 J4=>?_) (.inr hk)
    refine wpAny_mono (hs a pins s4 _ _ (D.gone i) (J4.catch a) (hq a F.ha)) (fun fl s5 q=>?_) fun _ _ z=>z.elim
    have cl:(X.env.scope.kind == .class || (X.env.scope.kind == .module && X.env.locals != X.env.globals))=false:=by rw[I.ok.kind];rfl
    cases fl with
    | next=>
      obtain⟨σ',H5,I5,q5⟩:=q
      have K5:=I5.uncatch I.ok
      obtain⟨m,hn,hl⟩:=id K5.loc
      exact wpAny_nameGoes_keeps hk hn cl fun h' v hn' hs'=>⟨_,H5,K5.unset hN hi hk hl hn' hs',q5⟩
    | brk=>
      obtain⟨σ',H5,I5,q5⟩:=q
      have K5:=I5.uncatch I.ok
      obtain⟨m,hn,hl⟩:=id K5.loc
      exact wpAny_nameGoes_keeps hk hn cl fun h' v hn' hs'=>⟨_,H5,K5.unset hN hi hk hl hn' hs',q5⟩
    | cont=>
      obtain⟨σ',H5,I5,q5⟩:=q
      have K5:=I5.uncatch I.ok
      obtain⟨m,hn,hl⟩:=id K5.loc
      exact wpAny_nameGoes_keeps hk hn cl fun h' v hn' hs'=>⟨_,H5,K5.unset hN hi hk hl hn' hs',q5⟩
    | ret u=>
      obtain⟨vr,σ',H5,I5,rv,q5⟩:=q
      have K5:=I5.uncatch I.ok
      obtain⟨m,hn,hl⟩:=id K5.loc
      exact wpAny_nameGoes_keeps hk hn cl fun h' v hn' hs'=>⟨vr,_,H5,K5.unset hN hi hk hl hn' hs',rv,q5⟩
end
end L2
namespace Mine
open PySem PySem.W PySem.Spec PySem.Calls PyProof.Rows
section
variable{prog:Program}{w:World}{A:Around}{E:Value→Shared→Prop}{s:Shared}{K:Frag}{x D:Addr}{o:Obj}{c:Value}
theorem check_ga{M:Model}{nameV:Value}{Q:Unit→Shared→Prop}(X:K.In s.heap)(L0:Looks M s.heap (typeOf (.ref x)) (.ref D))(hb:mroIn K D (.type "BaseException")=some true)(hq:Q () s) :
    wpAny M A (checkBuiltinCall "BaseException.__getattribute__" ⟨[.ref x,nameV],[]⟩) Q E s:=by
  obtain⟨hh,g,d,t,os⟩:=s
  have hk:builtinKind "BaseException.__getattribute__"=some .slot:=by decide +kernel
  have hsplit:splitId "BaseException.__getattribute__"=some ("BaseException","__getattribute__"):=by decide +kernel
  have LB:=looks_mroIn (M:=M) X hb
  have ha:=PySem.F.args_bexc_ga (.ref x) nameV
  have LI:Looks M hh (isInstance (.ref x) (.type "BaseException")) true:=L0.andThen LB
  simp only[checkBuiltinCall,hk,hsplit]
  refine wpAny_bind (LI.at ?_)
  repeat (any_goals (first | assumption | wp_step))
open Builtin Builtin.Getset_descriptor in
theorem class_get1{R:Result→Shared→Prop}{tp:Value}(X:K.In s.heap)(L0:∀M:Model,Looks M s.heap (typeOf (.ref x)) (.ref D))(hm:mroIn K D (.type "object")=some true)
    (hR:R (.ok (.ret (.ref D))) s):codeAny (model prog w) A (.call (.builtin "getset_descriptor.__get__") ⟨[.builtin "object.__class__",.ref x,tp],[]⟩) R s:=by
  rcases s with ⟨hp,gn,dn,tk,os⟩
  have look:=L0 (model prog w)
  have above:=looks_mroIn (M:=model prog w) X hm
  have known:=KF.slot_gs.check (model prog w) A.in1
  have kind:(⟨hp,gn,dn,tk,os⟩:Shared).TypeIs (.builtin "object.__class__") "getset_descriptor":=KF.type_class
  apply codeAny_call_builtin KF.slot_gs.plain KF.entry_gs
  apply known _ _ _ _ _ _ kind (KF.args_gs _ _ _)
  delta Builtin.«getset_descriptor.__get__» descrGet
  rw[dga_obj]
  apply wpAny_bind
  apply wpAny_pure
  delta descrGetter descrCheckInstance descrNameAndClass isInstance
  simp only[KF.owner_class]
  repeat lk
  constructor
  · exact Code.quiet_builtin _ (by decide +kernel)
  · apply codeAny_builtin KF.entry_class
    delta Builtin.«object.__class__» shownTypeOf
    repeat lk
    exact hR
theorem class_entry{nm:Tok}{Q:Fin→Shared→Prop}(X:K.In s.heap)(L0:∀M:Model,Looks M s.heap (typeOf (.ref x)) (.ref D))(ha:findIn K (.ref D) "__class__"=some (some (.builtin "object.__class__")))
    (hm:mroIn K D (.type "object")=some true) (hq:Q (.done (.ret (.ref D))) s) :
    wpAny (model prog w) A (Builtin.«object.__getattribute__» ⟨[.ref x,.str "__class__" nm],[]⟩) Q E s:=by
  obtain⟨hh,g,d,t,os⟩:=s
  have L1:=L0 (model prog w)
  have L3:=looks_findIn (M:=model prog w) X ha
  have f5:=KF.type_class
  have f6:=PySem.F.slot_gs_get.lookup
  have f7:=PySem.F.slot_gs_set.lookup
  repeat (any_goals (first | assumption | with_reducible refine wpAny_bind (L1.at ?_) | with_reducible refine L1.at ?_ | with_reducible refine wpAny_bind (L3.at ?_) | with_reducible refine L3.at ?_ | wp_step))
  refine class_get1 (D:=D) X L0 hm ?_
  repeat (any_goals (first | assumption | wp_step))
theorem class_call{nm:Tok}{R:Result→Shared→Prop}(X:K.In s.heap)(L0:∀M:Model,Looks M s.heap (typeOf (.ref x)) (.ref D))(ha:findIn K (.ref D) "__class__"=some (some (.builtin "object.__class__")))
    (hm:mroIn K D (.type "object")=some true) (hb:mroIn K D (.type "BaseException")=some true) (hq:R (.ok (.ret (.ref D))) s) :
    codeAny (model prog w) A (.call (.builtin "BaseException.__getattribute__") ⟨[.ref x,.str "__class__" nm],[]⟩) R s:=
  codeAny_call_builtin PySem.F.attr_ValueError.ga.plain PySem.F.entry_bexc_ga (check_ga X (L0 _) hb (class_entry X L0 ha hm hq))
theorem exc_class{Q:Option Value→Shared→Prop}(X:K.In s.heap)(L0:∀M:Model,Looks M s.heap (typeOf (.ref x)) (.ref D))
    (hga:findIn K (.ref D) "__getattribute__"=some (some (.builtin "BaseException.__getattribute__"))) (hgt:findIn K (.ref D) "__getattr__"=some none) (ha:findIn K (.ref D) "__class__"=some (some (.builtin "object.__class__")))
    (hm:mroIn K D (.type "object")=some true) (hb:mroIn K D (.type "BaseException")=some true) (h:Q (some (.ref D)) { s with toks:=s.toks+1 }) :
    wpAny (model prog w) A (getAttr? (.ref x) "__class__") Q E s:=by
  obtain⟨hh,g,d,t,os⟩:=s
  have L1:=L0 (model prog w)
  have L2:=looks_findIn (M:=model prog w) X hga
  have L3:=looks_findIn (M:=model prog w) X hgt
  have f3:=PySem.F.attr_ValueError.ga.bind (.ref x)
  have hx2:(Value.builtin "BaseException.__getattribute__" == Value.builtin "object.__getattribute__")=false:=by decide +kernel
  have hx1:(onTheHeap (Value.ref D) && Value.builtin "BaseException.__getattribute__" == Value.builtin "object.__getattribute__")=false:=by rw[hx2];rfl
  have hx0:(false && onTheHeap (Value.builtin "BaseException.__getattribute__"))=false:=rfl
  unfold getAttr? getAttrBy? getAttrBy
  refine wpAny_bind (wpAny_mkText (wpAny_bind (wpAny_attempt (wpAny_holding (wpAny_bind (L1.at (wpAny_bind (L2.at ?_))))))))
  simp only[hx1]
  repeat (any_goals (first | assumption | with_reducible refine wpAny_bind (L1.at ?_) | with_reducible refine L1.at ?_ | with_reducible refine wpAny_bind (L3.at ?_) | with_reducible refine L3.at ?_ | wp_step))
  refine class_call (D:=D) (s:=⟨hh,g,d,t+1,os⟩) X (fun M=>L0 M) ha hm hb ?_
  show wpAny (model prog w) A (handedOut (Value.ref D)) _ _ _
  exact handed_on rfl (wpAny_pure h)
def ExcAt(x D:Addr)(h:Heap):Prop:=∃o,h.get? x=some o∧o.cls=.ref D
theorem excAt_ty{M:Model}{h:Heap}(p:ExcAt x D h):Looks M h (typeOf (.ref x)) (.ref D):=by
  obtain⟨o,h1,h2⟩:=p
  exact h2▸(Looks.ld h1).andThen .now
theorem kitx_exc
    (hga:findIn K (.ref D) "__getattribute__"=some (some (.builtin "BaseException.__getattribute__"))) (hgt:findIn K (.ref D) "__getattr__"=some none) (ha:findIn K (.ref D) "__class__"=some (some (.builtin "object.__class__")))
    (hm:mroIn K D (.type "object")=some true) (hb:mroIn K D (.type "BaseException")=some true):KitX K (.ref x) (.ref D) (ExcAt x D)where
  ty:=fun _ _ _ p=>excAt_ty p
  it:=fun _ _ X _=>by
    obtain⟨cdD,hcD,_⟩:=Option.bind_eq_some_iff.mp (show(clsIn K D).bind _=some true from hm)
    unfold clsIn at hcD
    split at hcD
    · rename_i c' d' cd' sl' ho
      intro A' Q' E' s' k q
      unfold isType loadHead
      exact wpAny_bind (wpAny_loadPart (k _ _ (X _ _ ho)) (wpAny_pure q))
    · cases hcD
  ne:=fun h tp dd its n sl X htp=>by
    refine Bool.eq_false_iff.mpr fun q=>?_
    have e:D=tp:=Value.ref.inj (beq_iff_eq.mp q)
    subst e
    obtain⟨cdD,hcD,_⟩:=Option.bind_eq_some_iff.mp (show(clsIn K D).bind _=some true from hm)
    unfold clsIn at hcD
    split at hcD
    · rename_i c' d' cd' sl' ho
      have z:=(X _ _ ho).symm.trans htp
      cases z
    · cases hcD
  ca:=fun X p k=>exc_class X (fun _=>excAt_ty p) hga hgt ha hm hb k
end
end Mine
namespace L2
open PySem PySem.Spec PyProof.Rows
structure ExcK(K:PySem.W.Frag)(C:Addr):Prop where
  ga:PySem.W.findIn K (.ref C) "__getattribute__"=some (some (.builtin "BaseException.__getattribute__"))
  gt:PySem.W.findIn K (.ref C) "__getattr__"=some none
  cl:PySem.W.findIn K (.ref C) "__class__"=some (some (.builtin "object.__class__"))
  ob:PySem.W.mroIn K C (.type "object")=some true
  be:PySem.W.mroIn K C (.type "BaseException")=some true
  ex:PySem.W.excIn K C bmV "ValueError.__new__"=true
def clsV:V→Option Value
  | .ty n=>some (.type n)
  | .ref D=>some (.ref D)
  | _=>none
section
variable{X:Cx}
def rIsx(K:PySem.W.Frag):List V→Hp→VK→Prop:=fun xs H Q=>∃a C c cv b,xs=[.ref a,c]∧H a=some (ExcO a C)∧ExcK K C∧clsV c=some cv∧PySem.W.kitOne K (.ref C) cv=some b∧Q (.bl b) H
theorem call_isx:CallR X (.builtin "isinstance") (rIsx X.K):=by
  intro pins s σ H xs us Q I r h
  obtain⟨a,C,c,cv,b,rfl,ea,ek,ec,e,q⟩:=h
  cases r with
  | cons rx r1=>
    cases r1 with
    | cons ry r2=>
      cases r2
      cases (show _=Value.ref a from rx)
      have hv:∀u,RelV c u→u=cv:=fun u ru=>by
        cases c with
        | ty n=>cases ec;exact ru
        | ref D=>cases ec;exact ru
        | _=>cases ec
      cases hv _ ry
      obtain⟨p,_,_⟩:=(show ObjOk X.prog X.w H s.heap a (ExcO a C)from I.hok a _ ea)
      exact PySem.W.kia_one (Mine.kitx_exc ek.ga ek.gt ek.cl ek.ob ek.be) I.kIn p e (fun z=>nomatch z) fun tk=>⟨.bl b,H,I.tok _,rfl,q⟩
theorem call_isxK(K:PySem.W.Frag)(h:X.K=K):CallR X (.builtin "isinstance") (rIsx K):=h▸call_isx
theorem PS.nox{st:Stmt}{t:TS}(h:PS X.nox st t):PS X st t:=fun pins s σ H D I hw=>
  wpAny_mono (h pins s σ H D (I.wish _) hw) (fun _ _ q=>q.unwish) fun _ _ z=>False.elim z
end
end L2
namespace L2
open PySem PySem.Spec PyProof.Rows
theorem boot_VE:bootBuiltins "ValueError"=some (.type "ValueError"):=by decide +kernel
section
variable{X:Cx}
end
end L2
namespace Mine
@[irreducible] def dv(a b:Int):Int:=(Int.gcd a b:Int)
theorem dv_nonneg(a b:Int):0≤dv a b:=by unfold dv;exact Int.natCast_nonneg _
theorem dv_fmod(a b:Int):dv b (a.fmod b)=dv a b:=by
  unfold dv
  have e:a.fmod b=a - a.fdiv b * b:=by rw[Int.fmod_def,Int.mul_comm]
  rw[e,Int.gcd_sub_mul_right_right,Int.gcd_comm]
theorem dv_zero(a:Int):dv a 0=(a.natAbs:Int):=by
  unfold dv;rw[Int.gcd_zero_right]
theorem dv_abs(a b:Int):dv (a.natAbs:Int) (b.natAbs:Int)=dv a b:=by
  unfold dv Int.gcd;simp
theorem d_turn{a b g r:Int}(h:dv g r=dv a b)(hr:0 < r):0≤r∧0≤g.fmod r∧dv r (g.fmod r)=dv a b:=
  ⟨by omega,Int.fmod_nonneg_of_pos g hr,by rw[dv_fmod,h]⟩
theorem d_less{g r:Int}(hr:0 < r):(g.fmod r).toNat < r.toNat:=by
  have h1:=Int.fmod_nonneg_of_pos g hr
  have h2:=Int.fmod_lt_of_pos g hr
  omega
theorem d_out{a b g r:Int}(h:dv g r=dv a b)(g0:0≤g)(r0:0≤r)(hr:¬0 < r):g=dv a b:=by
  have e:r=0:=by omega
  rw[← h,e,dv_zero];omega
theorem dv_left(a b:Int):∃q,a=dv a b * q:=by
  obtain⟨q,hq⟩:=Int.gcd_dvd_left a b
  exact⟨q,by unfold dv;exact hq⟩
theorem dv_right(a b:Int):∃q,b=dv a b * q:=by
  obtain⟨q,hq⟩:=Int.gcd_dvd_right a b
  exact⟨q,by unfold dv;exact hq⟩
theorem dv_eq_zero{a b:Int}(h:dv a b=0):a=0∧b=0:=by
  obtain⟨q,hq⟩:=dv_left a b
  obtain⟨r,hr⟩:=dv_right a b
  rw[h]at hq hr
  exact⟨by omega,by omega⟩
theorem dv_pos{a b:Int}(h:b≠0):0 < dv a b:=by
  have:=dv_nonneg a b
  rcases(by omega:dv a b=0∨0 < dv a b)with e | e
  · exact absurd (dv_eq_zero e).2 h
  · exact e
theorem dv_le(a b:Int)(h:b≠0):dv a b≤(b.natAbs:Int):=by
  have:Int.gcd a b≤b.natAbs:=by
    unfold Int.gcd
    exact Nat.gcd_le_right _ (by omega)
  unfold dv;omega
theorem fdiv_mul{g q:Int}(hg:g≠0):(g * q).fdiv g=q:=Int.mul_fdiv_cancel_left q hg
@[irreducible] def sg(a b:Int):Int:=if b < 0 then -(dv a b)else dv a b
@[irreducible] def tp(a b:Int):Int:=a.fdiv (sg a b)
@[irreducible] def bt(a b:Int):Int:=b.fdiv (sg a b)
theorem sg_pos{a b:Int}(h:¬b < 0):sg a b=dv a b:=by unfold sg;rw[if_neg h]
theorem sg_neg{a b:Int}(h:b < 0):sg a b = -(dv a b):=by unfold sg;rw[if_pos h]
theorem sg_ne{a b:Int}(h:b≠0):sg a b≠0:=by
  have:=dv_pos (a:=a) h
  unfold sg;split <;>omega
theorem tp_mul{a b:Int}(h:b≠0):sg a b * tp a b=a:=by
  obtain⟨q,hq⟩:=dv_left a b
  have hs:=sg_ne (a:=a) h
  have:∃k,a=sg a b * k:=by
    unfold sg;split
    · exact⟨-q,by rw[Int.neg_mul_neg];exact hq⟩
    · exact⟨q,hq⟩
  obtain⟨k,hk⟩:=this
  have e:tp a b=k:=by
    unfold tp
    conv=>lhs;lhs;rw[hk]
    exact fdiv_mul hs
  rw[e];exact hk.symm
theorem bt_mul{a b:Int}(h:b≠0):sg a b * bt a b=b:=by
  obtain⟨q,hq⟩:=dv_right a b
  have hs:=sg_ne (a:=a) h
  have:∃k,b=sg a b * k:=by
    unfold sg;split
    · exact⟨-q,by rw[Int.neg_mul_neg];exact hq⟩
    · exact⟨q,hq⟩
  obtain⟨k,hk⟩:=this
  have e:bt a b=k:=by
    unfold bt
    conv=>lhs;lhs;rw[hk]
    exact fdiv_mul hs
  rw[e];exact hk.symm
theorem bt_pos{a b:Int}(h:b≠0):0 < bt a b:=by
  have e:=bt_mul (a:=a) h
  have g:=dv_pos (a:=a) h
  rcases(by omega:0 < bt a b∨bt a b≤0)with p | p
  · exact p
  · exfalso
    by_cases hb:b < 0
    · rw[sg_neg hb,Int.neg_mul]at e
      have:=Int.mul_nonpos_of_nonneg_of_nonpos (Int.le_of_lt g) p
      omega
    · rw[sg_pos hb]at e
      have:=Int.mul_nonpos_of_nonneg_of_nonpos (Int.le_of_lt g) p
      omega
theorem cross{a b:Int}(h:b≠0):tp a b * b=a * bt a b:=by
  have e1:=tp_mul (a:=a) h
  have e2:=bt_mul (a:=a) h
  calc tp a b * b=tp a b * (sg a b * bt a b):=by rw[e2]
    _=(sg a b * tp a b) * bt a b:=by rw[Int.mul_comm (sg a b) (tp a b),Int.mul_assoc]
    _=a * bt a b:=by rw[e1]
theorem natAbs_sg(a b:Int):(sg a b).natAbs=Int.gcd a b:=by
  unfold sg dv;split <;>omega
theorem gcd_scale{a b s t u:Int}(e1:s * t=a)(e2:s * u=b):Int.gcd a b=s.natAbs * Int.gcd t u:=by
  rw[← e1,← e2,Int.gcd_mul_left]
theorem low{a b:Int}(h:b≠0):dv (tp a b) (bt a b)=1:=by
  have e:=gcd_scale (tp_mul (a:=a) h) (bt_mul (a:=a) h)
  rw[natAbs_sg]at e
  have p:=dv_pos (a:=a) h
  have q:0 < Int.gcd a b:=by unfold dv at p;omega
  have:Int.gcd a b * Int.gcd (tp a b) (bt a b)=Int.gcd a b * 1:=by rw[← e,Nat.mul_one]
  have:=Nat.eq_of_mul_eq_mul_left q this
  unfold dv;rw[this];rfl
theorem coprime_eq{a b c d:Int}(hb:0 < b)(hd:0 < d)(h1:dv a b=1)(h2:dv c d=1)(e:a * d=c * b):a=c∧b=d:=by
  have g1:Nat.Coprime b.natAbs a.natAbs:=by
    have:Int.gcd a b=1:=by unfold dv at h1;omega
    unfold Int.gcd at this
    exact Nat.Coprime.symm this
  have g2:Nat.Coprime d.natAbs c.natAbs:=by
    have:Int.gcd c d=1:=by unfold dv at h2;omega
    unfold Int.gcd at this
    exact Nat.Coprime.symm this
  have en:a.natAbs * d.natAbs=c.natAbs * b.natAbs:=by rw[← Int.natAbs_mul,← Int.natAbs_mul,e]
  have d1:b.natAbs ∣ d.natAbs:=g1.dvd_of_dvd_mul_left ⟨c.natAbs,by rw[en,Nat.mul_comm]⟩
  have d2:d.natAbs ∣ b.natAbs:=g2.dvd_of_dvd_mul_left ⟨a.natAbs,by rw[← en,Nat.mul_comm]⟩
  have eb:b.natAbs=d.natAbs:=Nat.dvd_antisymm d1 d2
  have ebd:b=d:=by omega
  refine⟨?_,ebd⟩
  rw[ebd]at e
  exact Int.eq_of_mul_eq_mul_right (by omega) e
theorem tp_uniq{a b x y:Int}(h:b≠0)(hy:0 < y)(hl:dv x y=1)(e:a * y=x * b):tp a b=x∧bt a b=y:=by
  refine coprime_eq (bt_pos h) hy (low h) hl ?_
  have c:=cross (a:=a) h
  have:(tp a b * y) * b=(x * bt a b) * b:=by
    calc (tp a b * y) * b=(tp a b * b) * y:=by rw[Int.mul_assoc,Int.mul_comm y b,← Int.mul_assoc]
      _=(a * bt a b) * y:=by rw[c]
      _=(a * y) * bt a b:=by rw[Int.mul_assoc,Int.mul_comm (bt a b) y,← Int.mul_assoc]
      _=(x * b) * bt a b:=by rw[e]
      _=(x * bt a b) * b:=by rw[Int.mul_assoc,Int.mul_comm b,← Int.mul_assoc]
  exact Int.eq_of_mul_eq_mul_right h this
theorem natAbs_fdiv_le(a s:Int)(k:Int)(e:s * k=a)(hs:s≠0):k.natAbs≤a.natAbs:=by
  have:a.natAbs=s.natAbs * k.natAbs:=by rw[← e,Int.natAbs_mul]
  rw[this]
  exact Nat.le_mul_of_pos_left _ (by omega)
theorem tp_le{a b:Int}(h:b≠0):(tp a b).natAbs≤a.natAbs:=natAbs_fdiv_le a _ _ (tp_mul h) (sg_ne h)
theorem bt_le{a b:Int}(h:b≠0):(bt a b).natAbs≤b.natAbs:=natAbs_fdiv_le b _ _ (bt_mul h) (sg_ne h)
theorem same_cross{a b c d:Int}(hb:b≠0)(hd:d≠0)(e:a * d=c * b):tp a b=tp c d∧bt a b=bt c d:=by
  refine tp_uniq hb (bt_pos hd) (low hd) ?_
  have h:=cross (a:=c) hd
  have:(a * bt c d) * d=(tp c d * b) * d:=by
    calc (a * bt c d) * d=(a * d) * bt c d:=by rw[Int.mul_assoc,Int.mul_comm (bt c d) d,← Int.mul_assoc]
      _=(c * b) * bt c d:=by rw[e]
      _=(c * bt c d) * b:=by rw[Int.mul_assoc,Int.mul_comm b,← Int.mul_assoc]
      _=(tp c d * d) * b:=by rw[h]
      _=(tp c d * b) * d:=by rw[Int.mul_assoc,Int.mul_comm d b,← Int.mul_assoc]
  exact Int.eq_of_mul_eq_mul_right hd this
theorem lo_self{x y:Int}(hy:0 < y)(hl:dv x y=1):tp x y=x∧bt x y=y:=tp_uniq (by omega) hy hl rfl
theorem ne_mul{a b:Int}(ha:a≠0)(hb:b≠0):a * b≠0:=Int.mul_ne_zero ha hb
theorem plus_assoc{a b c d e f T B T' B':Int}(hb:b≠0)(hd:d≠0)(hf:f≠0)(hB:B≠0)(hB':B'≠0)
    (h1:T * (b * d)=(a * d+c * b) * B) (h2:T' * (d * f)=(c * f+e * d) * B') :
    tp (T * f+e * B) (B * f)=tp (a * B'+T' * b) (b * B')∧bt (T * f+e * B) (B * f)=bt (a * B'+T' * b) (b * B'):=by
  refine same_cross (ne_mul hB hf) (ne_mul hb hB') ?_
  have k:((T * f+e * B) * (b * B')) * ((b * d) * (d * f))=((a * B'+T' * b) * (B * f)) * ((b * d) * (d * f)):=by
    grind
  exact Int.eq_of_mul_eq_mul_right (ne_mul (ne_mul hb hd) (ne_mul hd hf)) k
theorem times_assoc{a b c d e f T B T' B':Int}(hb:b≠0)(hd:d≠0)(hf:f≠0)(hB:B≠0)(hB':B'≠0)
    (h1:T * (b * d)=(a * c) * B) (h2:T' * (d * f)=(c * e) * B') :
    tp (T * e) (B * f)=tp (a * T') (b * B')∧bt (T * e) (B * f)=bt (a * T') (b * B'):=by
  refine same_cross (ne_mul hB hf) (ne_mul hb hB') ?_
  have k:((T * e) * (b * B')) * ((b * d) * (d * f))=((a * T') * (B * f)) * ((b * d) * (d * f)):=by
    grind
  exact Int.eq_of_mul_eq_mul_right (ne_mul (ne_mul hb hd) (ne_mul hd hf)) k
theorem distrib{a b c d e f T B P U R V:Int}(hb:b≠0)(hd:d≠0)(hf:f≠0)(hB:B≠0)(hU:U≠0)(hV:V≠0)
    (h1:T * (d * f)=(c * f+e * d) * B) (h2:P * (b * d)=(a * c) * U) (h3:R * (b * f)=(a * e) * V) :
    tp (a * T) (b * B)=tp (P * V+R * U) (U * V)∧bt (a * T) (b * B)=bt (P * V+R * U) (U * V):=by
  refine same_cross (ne_mul hb hB) (ne_mul hU hV) ?_
  have k:((a * T) * (U * V)) * ((d * f) * ((b * d) * (b * f)))=((P * V+R * U) * (b * B)) * ((d * f) * ((b * d) * (b * f))):=by
    grind
  exact Int.eq_of_mul_eq_mul_right (ne_mul (ne_mul hd hf) (ne_mul (ne_mul hb hd) (ne_mul hb hf))) k
theorem plus_comm{a b c d:Int}:tp (a * d+c * b) (b * d)=tp (c * b+a * d) (d * b)∧bt (a * d+c * b) (b * d)=bt (c * b+a * d) (d * b):=by
  rw[Int.add_comm,Int.mul_comm b d];exact⟨rfl,rfl⟩
theorem times_comm{a b c d:Int}:tp (a * c) (b * d)=tp (c * a) (d * b)∧bt (a * c) (b * d)=bt (c * a) (d * b):=by
  rw[Int.mul_comm a c,Int.mul_comm b d];exact⟨rfl,rfl⟩
theorem plus_zero{a b:Int}(hb:0 < b)(hl:dv a b=1):tp (a * 1+0 * b) (b * 1)=a∧bt (a * 1+0 * b) (b * 1)=b:=by
  have e1:a * 1+0 * b=a:=by omega
  have e2:b * 1=b:=by omega
  rw[e1,e2];exact lo_self hb hl
theorem times_one{a b:Int}(hb:0 < b)(hl:dv a b=1):tp (a * 1) (b * 1)=a∧bt (a * 1) (b * 1)=b:=by
  rw[Int.mul_one,Int.mul_one];exact lo_self hb hl
theorem dv01:dv 0 1=1:=by unfold dv;decide
theorem dv11:dv 1 1=1:=by unfold dv;decide
theorem times_zero{a b:Int}(hb:0 < b):tp (a * 0) (b * 1)=0∧bt (a * 0) (b * 1)=1:=
  tp_uniq (by omega) (by omega) dv01 (by omega)
open PySem
theorem abs_start(a b:Int):dv (if a < 0 then -a else a) (if b < 0 then -b else b)=dv a b:=by
  have e:∀x:Int,(if x < 0 then -x else x)=(x.natAbs:Int):=fun x=>by split <;>omega
  rw[e,e,dv_abs]
theorem start1(a b:Int):0≤(if a < 0 then -a else a)∧0≤(if b < 0 then -b else b)∧dv (if a < 0 then -a else a) (if b < 0 then -b else b)=dv a b:=
  ⟨by split <;>omega,by split <;>omega,abs_start a b⟩
structure S1(x:Int):Prop where
  lo:-10000000000000000000000000000000≤x
  hi:x≤10000000000000000000000000000000
structure S2(x:Int):Prop where
  lo:-1000000000000000000000000000000000000000000000000000000000000000≤x
  hi:x≤1000000000000000000000000000000000000000000000000000000000000000
structure Po(x:Int):Prop where
  lo:0 < x
theorem S1.two{x:Int}(h:S1 x):S2 x:=⟨by have:=h.lo;omega,by have:=h.hi;omega⟩
theorem S1.zero:S1 0:=⟨by decide,by decide⟩
theorem S1.one:S1 1:=⟨by decide,by decide⟩
theorem Po.one:Po 1:=⟨by decide⟩
theorem S2.lt{y:Int}(h:S2 y):y.natAbs < 2 ^ 210:=by
  have:(2:Nat) ^ 210 > 1000000000000000000000000000000000000000000000000000000000000000:=by decide
  have:=h.lo
  have:=h.hi
  omega
theorem mul_in{x y:Int}(hx:S1 x)(hy:S1 y):-100000000000000000000000000000000000000000000000000000000000000≤x * y∧x * y≤100000000000000000000000000000000000000000000000000000000000000:=by
  have x0:=hx.lo
  have x1:=hx.hi
  have y0:=hy.lo
  have y1:=hy.hi
  have h:(x * y).natAbs=x.natAbs * y.natAbs:=Int.natAbs_mul x y
  have k:x.natAbs * y.natAbs≤10000000000000000000000000000000 * 10000000000000000000000000000000:=Nat.mul_le_mul (by omega) (by omega)
  omega
theorem S2.mul{x y:Int}(hx:S1 x)(hy:S1 y):S2 (x * y):=⟨by have:=mul_in hx hy;omega,by have:=mul_in hx hy;omega⟩
theorem Po.mul{x y:Int}(hx:Po x)(hy:Po y):Po (x * y):=⟨Int.mul_pos hx.lo hy.lo⟩
theorem Po.ne{x:Int}(h:Po x):x≠0:=by have:=h.lo;omega
theorem Po.sg{a b:Int}(h:Po b):dv a b=sg a b:=(sg_pos (by have:=h.lo;omega)).symm
theorem S1.tp{a b:Int}(h:S1 a)(p:Po b):S1 (tp a b):=by
  have l:=tp_le (a:=a) p.ne
  have:=h.lo
  have:=h.hi
  exact⟨by omega,by omega⟩
theorem S2.tp{a b:Int}(h:S2 a)(p:Po b):S2 (tp a b):=by
  have l:=tp_le (a:=a) p.ne
  have:=h.lo
  have:=h.hi
  exact⟨by omega,by omega⟩
theorem S1.bt{a b:Int}(h:S1 b)(p:Po b):S1 (bt a b):=by
  have l:=bt_le (a:=a) p.ne
  have:=h.lo
  have:=h.hi
  exact⟨by omega,by omega⟩
theorem S2.bt{a b:Int}(h:S2 b)(p:Po b):S2 (bt a b):=by
  have l:=bt_le (a:=a) p.ne
  have:=h.lo
  have:=h.hi
  exact⟨by omega,by omega⟩
theorem Po.bt{a b:Int}(p:Po b):Po (bt a b):=⟨bt_pos p.ne⟩
theorem S2.dv{a b:Int}(h:S2 b)(p:Po b):S2 (dv a b):=by
  have:=dv_le a b p.ne
  have:=dv_nonneg a b
  have:=h.lo
  have:=h.hi
  exact⟨by omega,by omega⟩
structure Low(a b:Int):Prop where
  one:dv a b=1
theorem lz{a b:Int}(p:Po b)(l:Low a b):tp (a * 1+0 * b) (b * 1)=a∧bt (a * 1+0 * b) (b * 1)=b:=plus_zero p.lo l.one
theorem cp{a b c d:Int}(_:Low (tp (c * b+a * d) (d * b)) (bt (c * b+a * d) (d * b))):tp (a * d+c * b) (b * d)=tp (c * b+a * d) (d * b)∧bt (a * d+c * b) (b * d)=bt (c * b+a * d) (d * b):=plus_comm
theorem ct{a b c d:Int}(_:Low (tp (c * a) (d * b)) (bt (c * a) (d * b))):tp (a * c) (b * d)=tp (c * a) (d * b)∧bt (a * c) (b * d)=bt (c * a) (d * b):=times_comm
end Mine
namespace Mine
def Pr(p:Nat):Prop:=2≤p∧∀d,2≤d→d * d≤p→¬p % d=0
theorem Pr.div{p d:Nat}(h:Pr p)(hd:d ∣ p):d=1∨d=p:=by
  obtain⟨k,hk⟩:=hd
  have p2:=h.1
  rcases(by omega:d=0∨d=1∨2≤d)with e | e | e
  · rw[e,Nat.zero_mul]at hk;omega
  · exact .inl e
  · rcases(by omega:k=0∨k=1∨2≤k)with f | f | f
    · rw[f,Nat.mul_zero]at hk;omega
    · rw[f,Nat.mul_one]at hk;exact .inr hk.symm
    · exfalso
      rcases Nat.le_total d k with g | g
      · have:d * d≤p:=by rw[hk];exact Nat.mul_le_mul_left d g
        exact h.2 d e this (by rw[hk];exact Nat.mul_mod_right d k)
      · have:k * k≤p:=by rw[hk];exact Nat.mul_le_mul_right k g
        exact h.2 k f this (by rw[hk];exact Nat.mul_mod_left d k)
theorem Pr.cop{p a:Nat}(h:Pr p)(ha:¬p ∣ a):Nat.Coprime p a:=by
  have d1:=Nat.gcd_dvd_left p a
  have d2:=Nat.gcd_dvd_right p a
  rcases h.div d1 with e | e
  · exact e
  · rw[e]at d2;exact absurd d2 ha
theorem Pr.mul{p a b:Nat}(h:Pr p)(hd:p ∣ a * b):p ∣ a∨p ∣ b:=by
  by_cases c:p ∣ a
  · exact .inl c
  · exact .inr ((h.cop c).dvd_of_dvd_mul_left hd)
theorem small{p a:Nat}(h0:0 < a)(h1:a < p):¬p ∣ a:=fun h=>by
  have:=Nat.le_of_dvd h0 h
  omega
theorem hole:∀(n:Nat) (l:List Nat),l.Nodup→(∀a∈l,a < n)→l.length≤n
  | 0,l,_,h=>by
    cases l with
    | nil=>exact Nat.le_refl 0
    | cons a r=>exact absurd (h a (List.mem_cons_self ..)) (by omega)
  | n+1,l,nd,h=>by
    by_cases c:n∈l
    · have e:=List.length_erase_of_mem c
      have:=hole n (l.erase n) (nd.erase n) (fun a ha=>by
        have m:=(List.Nodup.mem_erase_iff nd).mp ha
        have:=h a m.2
        have:=m.1
        omega)
      omega
    · have:=hole n l nd (fun a ha=>by
        have:=h a ha
        have:a≠n:=fun e=>c (e▸ha)
        omega)
      omega
theorem fe{a p:Int}(hp:0 < p):a.fmod p=a % p:=Int.fmod_eq_emod_of_nonneg a (Int.le_of_lt hp)
theorem em1(a b p:Int):(a % p * b) % p=(a * b) % p:=by rw[Int.mul_emod,Int.emod_emod_of_dvd a (Int.dvd_refl p),← Int.mul_emod]
theorem em2(a b p:Int):(a * (b % p)) % p=(a * b) % p:=by rw[Int.mul_comm,em1,Int.mul_comm]
theorem en1(a p:Int):(-(a % p)) % p=(-a) % p:=by
  have:=em2 (-1) a p
  rw[Int.neg_one_mul,Int.neg_one_mul]at this
  exact this
theorem r_in{a p:Int}(hp:0 < p):0≤a.fmod p∧a.fmod p < p:=⟨Int.fmod_nonneg_of_pos a hp,Int.fmod_lt_of_pos a hp⟩
theorem r_pa{x y z p:Int}(hp:0 < p):((x+y).fmod p+z).fmod p=(x+(y+z).fmod p).fmod p:=by
  simp only[fe hp,Int.emod_add_emod,Int.add_emod_emod,Int.add_assoc]
theorem r_ta{x y z p:Int}(hp:0 < p):((x * y).fmod p * z).fmod p=(x * (y * z).fmod p).fmod p:=by
  simp only[fe hp,em1,em2,Int.mul_assoc]
theorem r_d{x y z p:Int}(hp:0 < p):(x * (y+z).fmod p).fmod p=((x * y).fmod p+(x * z).fmod p).fmod p:=by
  simp only[fe hp,em2,Int.emod_add_emod,Int.add_emod_emod,Int.mul_add]
theorem r_self{x p:Int}(h0:0≤x)(h1:x < p):x.fmod p=x:=by
  rw[fe (by omega)];exact Int.emod_eq_of_lt h0 h1
def ri(p x:Int):Int:=(x ^ (p.toNat - 2)) % p
def PI(n:Int):Prop:=2≤n∧∀d:Int,2≤d→d * d≤n→¬n.fmod d=0
noncomputable def isP(n:Int):Bool:=@decide (PI n) (Classical.propDecidable _)
theorem isP_true{n:Int}(h:isP n=true):PI n:=@of_decide_eq_true _ (Classical.propDecidable _) h
theorem isP_of{n:Int}(h:PI n):isP n=true:=@decide_eq_true _ (Classical.propDecidable _) h
theorem sq_lt{d f n:Int}(hd:2≤d)(hf:2≤f)(h:d * d≤n)(g:¬f * f≤n):d < f:=by
  rcases Int.lt_or_le d f with e | e
  · exact e
  · have:f * f≤d * d:=Int.mul_le_mul e e (by omega) (by omega)
    omega
theorem sq_le{f n:Int}(hf:2≤f)(h:f * f≤n):f+1≤n:=by
  have:2 * f≤f * f:=Int.mul_le_mul_of_nonneg_right hf (by omega)
  omega
theorem p_check(n k:Nat)(h2:2≤n)(hk:n < k * k)(h:(List.range k).all (fun d=>d < 2 || n % d != 0)=true):isP (n:Int)=true:=by
  refine isP_of ⟨by omega,fun d hd hdd e=>?_⟩
  have hk2:¬(k:Int) * (k:Int)≤(n:Int):=by
    have:((n:Nat):Int) < ((k * k:Nat):Int):=by omega
    rw[Int.natCast_mul]at this;omega
  have kk:2≤(k:Int):=by
    rcases(by omega:k=0∨k=1∨2≤k)with c | c | c
    · subst c;omega
    · subst c;omega
    · omega
  have lt:=sq_lt hd kk hdd hk2
  have dn:(d.toNat:Int)=d:=Int.toNat_of_nonneg (by omega)
  have:=List.all_eq_true.mp h d.toNat (List.mem_range.mpr (by omega))
  rw[← dn,fe (by omega),← Int.natCast_emod]at e
  have e':n % d.toNat=0:=by omega
  simp[e']at this
  omega
theorem p999983:isP 999983=true:=p_check 999983 1000 (by decide) (by decide) (by decide +kernel)
theorem p65537:isP 65537=true:=p_check 65537 257 (by decide) (by decide) (by decide +kernel)
theorem p2:isP 2=true:=p_check 2 2 (by decide) (by decide) (by decide +kernel)
theorem p3:isP 3=true:=p_check 3 2 (by decide) (by decide) (by decide +kernel)
theorem p5:isP 5=true:=p_check 5 3 (by decide) (by decide) (by decide +kernel)
theorem p7:isP 7=true:=p_check 7 3 (by decide) (by decide) (by decide +kernel)
theorem p11:isP 11=true:=p_check 11 4 (by decide) (by decide) (by decide +kernel)
theorem p13:isP 13=true:=p_check 13 4 (by decide) (by decide) (by decide +kernel)
theorem p101:isP 101=true:=p_check 101 11 (by decide) (by decide) (by decide +kernel)
end Mine
namespace Mine
open PySem PySem.SeqAt
structure SR where
  W:Type
  add:W→W→W
  mul:W→W→W
  zero:W
  one:W
  add_comm:∀x y,add x y=add y x
  add_assoc:∀x y z,add (add x y) z=add x (add y z)
  mul_comm:∀x y,mul x y=mul y x
  mul_assoc:∀x y z,mul (mul x y) z=mul x (mul y z)
  distrib:∀x y z,mul x (add y z)=add (mul x y) (mul x z)
  add_zero:∀x,add x zero=x
  mul_one:∀x,mul x one=x
  mul_zero:∀x,mul x zero=zero
  zo:zero≠one
  sz:Nat→W→Prop
  sz_mono:∀m n x,m≤n→sz m x→sz n x
  sz_add:∀m n x y,sz m x→sz n y→sz (m+n+1) (add x y)
  sz_mul:∀m n x y,sz m x→sz n y→sz (m+n) (mul x y)
  sz_zero:sz 0 zero
  sz_one:sz 0 one
  lv:Nat→Nat→W→Prop
  lv_mono:∀k c c' x,c≤c'→lv k c x→lv k c' x
  lv_add:∀k c c' x y,lv k c x→lv k c' y→lv k (c+c') (add x y)
  lv_mul:∀j k x y,lv j 32 x→lv k 32 y→lv (j+k) 1 (mul x y)
  lv_zero:∀k,lv k 0 zero
  lv_one:lv 1 1 one
  lv_up:∀k c x,lv k c x→lv (k+1) c x
  lv_sz:∀k c x,c≤1024→lv k c x→sz (100 * k) x
  data:W→PyData
  sh:∀x,shaped (data x)=true
  nm:∀x y,noMix (data x) (data y)=true
  eq:∀x,PySem.Spec.same (data x) (data x)=true
  ne:∀x y,x≠y→PySem.Spec.same (data x) (data y)=false
structure Fr where
  t:Int
  b:Int
  p:0 < b
  l:dv t b=1
theorem Fr.eq_of{x y:Fr}(h1:x.t=y.t)(h2:x.b=y.b):x=y:=by
  cases x;cases y;cases h1;cases h2;rfl
theorem Fr.nb(x:Fr):x.b≠0:=by have:=x.p;omega
def Fr.of(a b:Int)(h:0 < b):Fr:=⟨tp a b,bt a b,bt_pos (by omega),low (by omega)⟩
theorem Fr.of_cross(a b:Int)(h:0 < b):(Fr.of a b h).t * b=a * (Fr.of a b h).b:=cross (by omega)
def Fr.add(x y:Fr):Fr:=Fr.of (x.t * y.b+y.t * x.b) (x.b * y.b) (Int.mul_pos x.p y.p)
def Fr.mul(x y:Fr):Fr:=Fr.of (x.t * y.t) (x.b * y.b) (Int.mul_pos x.p y.p)
def Fr.zero:Fr:=⟨0,1,by decide,dv01⟩
def Fr.one:Fr:=⟨1,1,by decide,dv11⟩
def Fr.sz(n:Nat)(x:Fr):Prop:=x.t.natAbs≤2 ^ n∧x.b.natAbs≤2 ^ n
theorem pw_add(m n:Nat):(2:Nat) ^ (m+n)=2 ^ m * 2 ^ n:=Nat.pow_add 2 m n
theorem mul_sz{a b:Int}{m n:Nat}(h1:a.natAbs≤2 ^ m)(h2:b.natAbs≤2 ^ n):(a * b).natAbs≤2 ^ (m+n):=by
  rw[Int.natAbs_mul,pw_add];exact Nat.mul_le_mul h1 h2
theorem sum_sz{a b c d:Int}{m n:Nat}(h1:a.natAbs≤2 ^ m)(h2:b.natAbs≤2 ^ n)(h3:c.natAbs≤2 ^ n)(h4:d.natAbs≤2 ^ m):(a * b+c * d).natAbs≤2 ^ (m+n+1):=by
  have k1:=mul_sz h1 h2
  have k2:=mul_sz h3 h4
  rw[Nat.add_comm n m]at k2
  have k3:(a * b+c * d).natAbs≤(a * b).natAbs+(c * d).natAbs:=Int.natAbs_add_le _ _
  have k4:(2:Nat) ^ (m+n+1)=2 ^ (m+n) * 2:=Nat.pow_succ ..
  omega
theorem of_sz{a b:Int}{h:0 < b}{m:Nat}(h1:a.natAbs≤2 ^ m)(h2:b.natAbs≤2 ^ m):(Fr.of a b h).sz m:=
  ⟨Nat.le_trans (tp_le (by omega)) h1,Nat.le_trans (bt_le (by omega)) h2⟩
theorem pw_le{m n:Nat}(h:m≤n):(2:Nat) ^ m≤2 ^ n:=Nat.pow_le_pow_right (by decide) h
def Fr.lv(k c:Nat)(x:Fr):Prop:=∃a:Int,x.t * 12 ^ k=a * x.b∧1024 * a.natAbs≤c * 2 ^ (100 * k)
theorem Fr.lv_add{k c c':Nat}{x y:Fr}(h:x.lv k c)(h':y.lv k c'):(Fr.add x y).lv k (c+c'):=by
  obtain⟨a,e,b⟩:=h
  obtain⟨a',e',b'⟩:=h'
  refine⟨a+a',?_,?_⟩
  · have hc:=Fr.of_cross (x.t * y.b+y.t * x.b) (x.b * y.b) (Int.mul_pos x.p y.p)
    have hn:x.b * y.b≠0:=Int.mul_ne_zero x.nb y.nb
    refine Int.eq_of_mul_eq_mul_right hn ?_
    show(Fr.add x y).t * 12 ^ k * (x.b * y.b)=(a+a') * (Fr.add x y).b * (x.b * y.b)
    have hc:(Fr.add x y).t * (x.b * y.b)=(x.t * y.b+y.t * x.b) * (Fr.add x y).b:=hc
    have e1:(Fr.add x y).t * 12 ^ k * (x.b * y.b)=((Fr.add x y).t * (x.b * y.b)) * 12 ^ k:=by rw[Int.mul_right_comm]
    rw[e1,hc]
    have e2:(x.t * y.b+y.t * x.b) * (Fr.add x y).b * 12 ^ k=((x.t * 12 ^ k) * y.b+(y.t * 12 ^ k) * x.b) * (Fr.add x y).b:=by
      rw[Int.mul_right_comm,Int.add_mul,Int.mul_right_comm x.t,Int.mul_right_comm y.t]
    rw[e2,e,e']
    have e3:a * x.b * y.b+a' * y.b * x.b=(a+a') * (x.b * y.b):=by
      rw[Int.add_mul,Int.mul_assoc,Int.mul_assoc a',Int.mul_comm y.b x.b]
    rw[e3,Int.mul_right_comm]
  · have:=Int.natAbs_add_le a a'
    rw[Nat.add_mul]
    omega
theorem Fr.lv_mul{j k:Nat}{x y:Fr}(h:x.lv j 32)(h':y.lv k 32):(Fr.mul x y).lv (j+k) 1:=by
  obtain⟨a,e,b⟩:=h
  obtain⟨a',e',b'⟩:=h'
  refine⟨a * a',?_,?_⟩
  · have hc:(Fr.mul x y).t * (x.b * y.b)=(x.t * y.t) * (Fr.mul x y).b:=Fr.of_cross (x.t * y.t) (x.b * y.b) (Int.mul_pos x.p y.p)
    have hn:x.b * y.b≠0:=Int.mul_ne_zero x.nb y.nb
    refine Int.eq_of_mul_eq_mul_right hn ?_
    rw[Int.mul_right_comm,hc,Int.pow_add]
    have e2:x.t * y.t * (Fr.mul x y).b * (12 ^ j * 12 ^ k)=(x.t * 12 ^ j) * (y.t * 12 ^ k) * (Fr.mul x y).b:=by
      rw[Int.mul_right_comm]
      congr 1
      rw[Int.mul_assoc,Int.mul_assoc,Int.mul_left_comm y.t]
    rw[e2,e,e']
    have e3:a * x.b * (a' * y.b)=a * a' * (x.b * y.b):=by
      rw[Int.mul_assoc,Int.mul_assoc,Int.mul_left_comm x.b]
    rw[e3,Int.mul_right_comm]
  · rw[Int.natAbs_mul,Nat.mul_add,Nat.pow_add]
    have h1:=Nat.mul_le_mul b b'
    have e1:1024 * a.natAbs * (1024 * a'.natAbs)=1024 * (1024 * (a.natAbs * a'.natAbs)):=by
      rw[Nat.mul_assoc,Nat.mul_left_comm a.natAbs]
    have e2:32 * 2 ^ (100 * j) * (32 * 2 ^ (100 * k))=1024 * (2 ^ (100 * j) * 2 ^ (100 * k)):=by
      rw[Nat.mul_assoc,Nat.mul_left_comm (2 ^ (100 * j)),← Nat.mul_assoc]
    rw[e1,e2]at h1
    have:=Nat.le_of_mul_le_mul_left h1 (by decide)
    omega
theorem Fr.lv_up{k c:Nat}{x:Fr}(h:x.lv k c):x.lv (k+1) c:=by
  obtain⟨a,e,b⟩:=h
  refine⟨a * 12,?_,?_⟩
  · rw[Int.pow_succ,← Int.mul_assoc,e,Int.mul_right_comm]
  · rw[Int.natAbs_mul,show 100 * (k+1)=100 * k+100 from by omega,Nat.pow_add]
    have h1:(1024 * a.natAbs) * 12≤(c * 2 ^ (100 * k)) * 2 ^ 100:=Nat.mul_le_mul b (by decide)
    have e1:1024 * (a.natAbs * (12:Int).natAbs)=(1024 * a.natAbs) * 12:=by rw[Nat.mul_assoc];rfl
    rw[e1,← Nat.mul_assoc]
    exact h1
theorem Fr.lv_sz{k c:Nat}{x:Fr}(hc:c≤1024)(h:x.lv k c):x.sz (100 * k):=by
  obtain⟨a,e,b⟩:=h
  have cop:Nat.Coprime x.t.natAbs x.b.natAbs:=by
    have l:=x.l
    unfold dv at l
    have:Int.gcd x.t x.b=1:=by omega
    exact this
  have e':x.t.natAbs * 12 ^ k=a.natAbs * x.b.natAbs:=by
    have:=congrArg Int.natAbs e
    rw[Int.natAbs_mul,Int.natAbs_mul,Int.natAbs_pow]at this
    exact this
  have hb:a.natAbs≤2 ^ (100 * k):=by
    have h1:1024 * a.natAbs≤1024 * 2 ^ (100 * k):=Nat.le_trans b (Nat.mul_le_mul_right _ hc)
    exact Nat.le_of_mul_le_mul_left h1 (by decide)
  have p12:(12:Nat) ^ k≤2 ^ (100 * k):=by
    rw[Nat.pow_mul]
    exact Nat.pow_le_pow_left (by decide) k
  constructor
  · have d:x.t.natAbs ∣ a.natAbs:=cop.dvd_of_dvd_mul_right ⟨12 ^ k,e'.symm⟩
    by_cases z:a.natAbs=0
    · have:x.t.natAbs * 12 ^ k=0:=by rw[e',z,Nat.zero_mul]
      have:x.t.natAbs=0:=by
        rcases Nat.mul_eq_zero.mp this with h | h
        · exact h
        · exact absurd h (Nat.ne_of_gt (Nat.pow_pos (by decide)))
      omega
    · exact Nat.le_trans (Nat.le_of_dvd (by omega) d) hb
  · have d:x.b.natAbs ∣ 12 ^ k:=cop.symm.dvd_of_dvd_mul_left ⟨a.natAbs,by rw[e',Nat.mul_comm]⟩
    exact Nat.le_trans (Nat.le_of_dvd (Nat.pow_pos (by decide)) d) p12
def frSR:SR where
  W:=Fr
  add:=Fr.add
  mul:=Fr.mul
  zero:=Fr.zero
  one:=Fr.one
  add_comm x y:=Fr.eq_of plus_comm.1 plus_comm.2
  add_assoc x y z:=
    have h:=plus_assoc (f:=z.b) (e:=z.t) x.nb y.nb z.nb (Fr.add x y).nb (Fr.add y z).nb (Fr.of_cross _ _ (Int.mul_pos x.p y.p)) (Fr.of_cross _ _ (Int.mul_pos y.p z.p))
    Fr.eq_of h.1 h.2
  mul_comm x y:=Fr.eq_of times_comm.1 times_comm.2
  mul_assoc x y z:=
    have h:=times_assoc (f:=z.b) (e:=z.t) x.nb y.nb z.nb (Fr.mul x y).nb (Fr.mul y z).nb (Fr.of_cross _ _ (Int.mul_pos x.p y.p)) (Fr.of_cross _ _ (Int.mul_pos y.p z.p))
    Fr.eq_of h.1 h.2
  distrib x y z:=
    have h:=distrib (a:=x.t) (f:=z.b) (e:=z.t) x.nb y.nb z.nb (Fr.add y z).nb (Fr.mul x y).nb (Fr.mul x z).nb (Fr.of_cross _ _ (Int.mul_pos y.p z.p)) (Fr.of_cross _ _ (Int.mul_pos x.p y.p)) (Fr.of_cross _ _ (Int.mul_pos x.p z.p))
    Fr.eq_of h.1 h.2
  add_zero x:=Fr.eq_of (plus_zero x.p x.l).1 (plus_zero x.p x.l).2
  mul_one x:=Fr.eq_of (times_one x.p x.l).1 (times_one x.p x.l).2
  mul_zero x:=Fr.eq_of (times_zero x.p).1 (times_zero x.p).2
  zo h:=by have:(0:Int)=1:=congrArg Fr.t h;omega
  sz:=Fr.sz
  sz_mono m n x h s:=⟨Nat.le_trans s.1 (pw_le h),Nat.le_trans s.2 (pw_le h)⟩
  sz_add m n x y h1 h2:=of_sz (sum_sz h1.1 h2.2 h2.1 h1.2) (Nat.le_trans (mul_sz h1.2 h2.2) (pw_le (Nat.le_succ _)))
  sz_mul m n x y h1 h2:=of_sz (mul_sz h1.1 h2.1) (mul_sz h1.2 h2.2)
  sz_zero:=⟨by decide,by decide⟩
  sz_one:=⟨by decide,by decide⟩
  lv:=Fr.lv
  lv_mono k c c' x h:=fun⟨a,e,b⟩=>⟨a,e,Nat.le_trans b (Nat.mul_le_mul_right _ h)⟩
  lv_add _ _ _ _ _ h h':=Fr.lv_add h h'
  lv_mul _ _ _ _ h h':=Fr.lv_mul h h'
  lv_zero k:=⟨0,by show(0:Int) * 12 ^ k=0 * 1;rw[Int.zero_mul,Int.zero_mul],by show 1024 * 0≤_;omega⟩
  lv_one:=⟨12,by decide,by decide⟩
  lv_up _ _ _ h:=Fr.lv_up h
  lv_sz _ _ _ hc h:=Fr.lv_sz hc h
  data x:=.tuple [.int x.t,.int x.b]
  sh x:=rfl
  nm x y:=by simp[noMix,noMixAll]
  eq x:=by simp[PySem.Spec.same,PySem.Spec.sameAll]
  ne x y h:=by
    simp[PySem.Spec.same,PySem.Spec.sameAll]
    intro h1 h2
    exact h (Fr.eq_of h1 h2)
structure Re(p:Int)where
  x:Int
  h0:0≤x
  h1:x < p
theorem Re.eq_of{p:Int}{a b:Re p}(h:a.x=b.x):a=b:=by cases a;cases b;cases h;rfl
def Re.of(p:Int)(hp:0 < p)(x:Int):Re p:=⟨x.fmod p,(r_in hp).1,(r_in hp).2⟩
def resSR(p:Int)(hp:2≤p):SR where
  W:=Re p
  add a b:=Re.of p (by omega) (a.x+b.x)
  mul a b:=Re.of p (by omega) (a.x * b.x)
  zero:=⟨0,by omega,by omega⟩
  one:=⟨1,by omega,by omega⟩
  add_comm a b:=Re.eq_of (by show(a.x+b.x).fmod p=(b.x+a.x).fmod p;rw[Int.add_comm])
  add_assoc a b c:=Re.eq_of (r_pa (by omega))
  mul_comm a b:=Re.eq_of (by show(a.x * b.x).fmod p=(b.x * a.x).fmod p;rw[Int.mul_comm])
  mul_assoc a b c:=Re.eq_of (r_ta (by omega))
  distrib a b c:=Re.eq_of (r_d (by omega))
  add_zero a:=Re.eq_of (by show(a.x+0).fmod p=a.x;rw[Int.add_zero];exact r_self a.h0 a.h1)
  mul_one a:=Re.eq_of (by show(a.x * 1).fmod p=a.x;rw[Int.mul_one];exact r_self a.h0 a.h1)
  mul_zero a:=Re.eq_of (by show(a.x * 0).fmod p=0;rw[Int.mul_zero];exact r_self (by omega) (by omega))
  zo h:=by have:(0:Int)=1:=congrArg Re.x h;omega
  sz _ _:=True
  sz_mono _ _ _ _ _:=trivial
  sz_add _ _ _ _ _ _:=trivial
  sz_mul _ _ _ _ _ _:=trivial
  sz_zero:=trivial
  sz_one:=trivial
  lv _ _ _:=True
  lv_mono _ _ _ _ _ _:=trivial
  lv_add _ _ _ _ _ _ _:=trivial
  lv_mul _ _ _ _ _ _:=trivial
  lv_zero _:=trivial
  lv_one:=trivial
  lv_up _ _ _ _:=trivial
  lv_sz _ _ _ _ _:=trivial
  data a:=.int a.x
  sh _:=rfl
  nm _ _:=by simp[noMix]
  eq _:=by simp[PySem.Spec.same]
  ne a b h:=by
    simp[PySem.Spec.same]
    intro e
    exact h (Re.eq_of e)
def cAdd:Option Int→Option Int→Option Int
  | none,y=>y
  | x,none=>x
  | some a,some b=>some (if b < a then b else a)
def cMul:Option Int→Option Int→Option Int
  | some a,some b=>some (a+b)
  | _,_=>none
def cData:Option Int→PyData
  | none=>.none
  | some i=>.int i
def costSR:SR where
  W:=Option Int
  add:=cAdd
  mul:=cMul
  zero:=none
  one:=some 0
  add_comm x y:=by
    cases x <;>cases y <;>simp only[cAdd]
    congr 1;split <;>split <;>omega
  add_assoc x y z:=by
    cases x <;>cases y <;>cases z <;>simp only[cAdd]
    congr 1;repeat (split <;>try omega)
  mul_comm x y:=by
    cases x <;>cases y <;>simp only[cMul]
    congr 1;omega
  mul_assoc x y z:=by
    cases x <;>cases y <;>cases z <;>simp only[cMul]
    congr 1;omega
  distrib x y z:=by
    cases x <;>cases y <;>cases z <;>simp only[cMul,cAdd]
    congr 1;repeat (split <;>try omega)
  add_zero x:=by cases x <;>rfl
  mul_one x:=by
    cases x with
    | none=>rfl
    | some a=>simp only[cMul];congr 1;omega
  mul_zero x:=by cases x <;>rfl
  zo h:=by cases h
  sz _ _:=True
  sz_mono _ _ _ _ _:=trivial
  sz_add _ _ _ _ _ _:=trivial
  sz_mul _ _ _ _ _ _:=trivial
  sz_zero:=trivial
  sz_one:=trivial
  lv _ _ _:=True
  lv_mono _ _ _ _ _ _:=trivial
  lv_add _ _ _ _ _ _ _:=trivial
  lv_mul _ _ _ _ _ _:=trivial
  lv_zero _:=trivial
  lv_one:=trivial
  lv_up _ _ _ _:=trivial
  lv_sz _ _ _ _ _:=trivial
  data:=cData
  sh x:=by cases x <;>rfl
  nm x y:=by cases x <;>cases y <;>simp[cData,noMix]
  eq x:=by cases x <;>simp[cData,PySem.Spec.same]
  ne x y h:=by cases x <;>cases y <;>simp_all [cData,PySem.Spec.same]
def truthSR:SR where
  W:=Bool
  add:=fun a b=>a || b
  mul:=fun a b=>a && b
  zero:=false
  one:=true
  add_comm x y:=by cases x <;>cases y <;>rfl
  add_assoc x y z:=by cases x <;>cases y <;>cases z <;>rfl
  mul_comm x y:=by cases x <;>cases y <;>rfl
  mul_assoc x y z:=by cases x <;>cases y <;>cases z <;>rfl
  distrib x y z:=by cases x <;>cases y <;>cases z <;>rfl
  add_zero x:=by cases x <;>rfl
  mul_one x:=by cases x <;>rfl
  mul_zero x:=by cases x <;>rfl
  zo h:=by cases h
  sz _ _:=True
  sz_mono _ _ _ _ _:=trivial
  sz_add _ _ _ _ _ _:=trivial
  sz_mul _ _ _ _ _ _:=trivial
  sz_zero:=trivial
  sz_one:=trivial
  lv _ _ _:=True
  lv_mono _ _ _ _ _ _:=trivial
  lv_add _ _ _ _ _ _ _:=trivial
  lv_mul _ _ _ _ _ _:=trivial
  lv_zero _:=trivial
  lv_one:=trivial
  lv_up _ _ _ _:=trivial
  lv_sz _ _ _ _ _:=trivial
  data:=.bool
  sh _:=rfl
  nm _ _:=by simp[noMix]
  eq _:=by simp[PySem.Spec.same]
  ne a b h:=by simp_all [PySem.Spec.same]
end Mine
namespace L2
open PySem PySem.Spec PyProof.Rows
class Plain (P:Program):Prop where
  tree:P.given.tree=none
section
variable{X:Cx}
theorem Inv.seer{pins:List (Addr × Obj)}{σ:St}{H:Hp}{s:Shared}(I:Inv X pins σ H s):s.heap.NoSeer:=I.ok.mod.seer.keeps I.bk
theorem op_fdivP{k:Nat}(hr:Room k X.A)(hk:34≤k)(hP:X.prog.given.tree=none)(hst:X.stack=X.env::X.outer:=by rfl)(hgen:X.env.scope.isGenerator=false:=by rfl)(hco:X.env.scope.isCoroutine=false:=by rfl) :
    OpR X (binaryOp .FloorDiv) (rI (fun _ j=>j≠0) fun i j=>.int (i.fdiv j)):=by
  intro pins s σ H x y v u Q I rx ry h
  obtain⟨i,j,rfl,rfl,hc,q⟩:=h
  obtain⟨t,rfl⟩:=rx
  obtain⟨t',rfl⟩:=ry
  refine floordiv_int hc ⟨.int _,H,I.tok _,⟨_,rfl⟩,q⟩ (Or.inr (PylongRoom.of I.nolimit ?_ (SeerAt.of I.seer hP (by rw[I.ok.frames,hst]) hgen hco I.ok.blt I.ok.glob)))
  have:=hr.dp
  show X.A.depth+100 < recursionLimit
  omega
def CMulG(i j:Int):Prop:=Builtin.Int.intBits i+Builtin.Int.intBits j≤2 ^ 27
theorem mulOkG{a b:Int}(hc:CMulG a b):IntMulOk a b:=by
  have hc:Builtin.Int.intBits a+Builtin.Int.intBits b≤2 ^ 27:=hc
  have e:Builtin.Int.intTooBig (Builtin.Int.intBits a+Builtin.Int.intBits b)=false:=by
    unfold Builtin.Int.intTooBig bitsLine
    exact decide_eq_false (by omega)
  unfold IntMulOk
  rw[e]
  simp
theorem op_mulG:OpR X (binaryOp .Mult) (rI CMulG fun i j=>.int (i * j)):=opI fun _ _ _ _ _ _ _ hc q=>mul_int q (mulOkG hc)
end
end L2
namespace L2
open PySem PySem.Spec PyProof.Rows
def cloOf(cells:List (Str × Addr)):List (Str × NameKind)→List (Str × Addr)→List (Str × Addr)
  | [],cs=>cs
  | (n,k)::r,cs=>cloOf cells r (if(k == .free)=true then(n,(cells.lookup n).getD 0)::cs else cs)
theorem clo_for{env:Env}:∀(names:List (Str × NameKind)) (cs:List (Str × Addr)),(∀n,(n,NameKind.free)∈names→∃c,env.cells.lookup n=some c)→
    (forIn names cs fun(x:Str × NameKind) (r:List (Str × Addr))=>(match x with | (name,kind)=>if(kind == NameKind.free)=true then(do let c ← cellOf env name;pure (ForInStep.yield ((name,c)::r)))else pure (ForInStep.yield r):Sem (ForInStep (List (Str × Addr)))))=pure (cloOf env.cells names cs)
  | [],cs,_=>rfl
  | (n,k)::r,cs,h=>by
    rw[List.forIn_cons]
    by_cases hk:k=.free
    · subst hk
      obtain⟨c,hc⟩:=h n List.mem_cons_self
      have ih:=clo_for (env:=env) r ((n,c)::cs) fun m hm=>h m (List.mem_cons_of_mem _ hm)
      have e1:cellOf env n=pure c:=by unfold cellOf;rw[hc]
      simp only[beq_self_eq_true,if_true,e1,pure_bind]
      rw[ih]
      conv=>rhs;unfold cloOf
      simp only[beq_self_eq_true,if_true,hc,Option.getD_some]
    · have hb:(k == NameKind.free)=false:=by simpa using hk
      have ih:=clo_for (env:=env) r cs fun m hm=>h m (List.mem_cons_of_mem _ hm)
      simp only[hb,Bool.false_eq_true,if_false,pure_bind]
      rw[ih]
      conv=>rhs;unfold cloOf
      simp only[hb,Bool.false_eq_true,if_false]
theorem clo_closure{env:Env}{scope:Scope}(h:∀n,(n,NameKind.free)∈scope.names→∃c,env.cells.lookup n=some c):closureFor scope env=pure (cloOf env.cells scope.names []):=by
  have e:=clo_for (env:=env) scope.names [] h
  unfold closureFor
  simp only[bind_pure]
  exact e
theorem clo_in{cells:List (Str × Addr)}:∀{names:List (Str × NameKind)} {cs:List (Str × Addr)},(∀n,(n,NameKind.free)∈names→∃c,cells.lookup n=some c)→∀{y c},(cloOf cells names cs).lookup y=some c→cs.lookup y=some c∨cells.lookup y=some c
  | [],cs,_,y,c,e=>.inl e
  | (n,k)::r,cs,h,y,c,e=>by
    unfold cloOf at e
    have h':∀m,(m,NameKind.free)∈r→∃c,cells.lookup m=some c:=fun m hm=>h m (List.mem_cons_of_mem _ hm)
    rcases clo_in h' e with z | z
    · by_cases hk:k=.free
      · subst hk
        obtain⟨d,hd⟩:=h n List.mem_cons_self
        simp only[beq_self_eq_true,if_true,hd,Option.getD_some]at z
        rw[List.lookup_cons]at z
        cases hy:(y == n)with
        | true=>
          rw[hy]at z
          have:y=n:=beq_iff_eq.mp hy
          subst this
          exact .inr (hd.trans z)
        | false=>rw[hy]at z;exact .inl z
      · have hb:(k == NameKind.free)=false:=by simpa using hk
        simp only[hb,Bool.false_eq_true,if_false]at z
        exact .inl z
    · exact .inr z
theorem clo_has{cells:List (Str × Addr)}:∀{names:List (Str × NameKind)} {cs:List (Str × Addr)} {y:Str},((∃c,cs.lookup y=some c)∨(y,NameKind.free)∈names)→∃c,(cloOf cells names cs).lookup y=some c
  | [],cs,y,h=>by
    rcases h with h | h
    · exact h
    · cases h
  | (n,k)::r,cs,y,h=>by
    unfold cloOf
    refine clo_has ?_
    rcases h with ⟨c,h⟩ | h
    · left
      split
      · rw[List.lookup_cons]
        cases hy:(y == n)with
        | true=>exact⟨_,rfl⟩
        | false=>exact⟨c,h⟩
      · exact⟨c,h⟩
    · rcases List.mem_cons.mp h with e | h
      · cases e
        left
        simp only[beq_self_eq_true,if_true]
        rw[List.lookup_cons,beq_self_eq_true]
        exact⟨_,rfl⟩
      · exact .inr h
theorem compLoop_any{prog:Program}{w:World}{A:Around}{R:Result→Shared→Prop}{s:Shared}{elt target iter:Expr}{scope:Scope}{pos:Pos}{it acc:Value}{env:Env}(I:Nat→Shared→Prop)
    (turn:∀n s,I n s→wpAny (model prog w) A (pyNext it) (fun r s₁=>match r with
      | none=>R (.ok .next) s₁
      | some v=>wpAny (model prog w) A (letOwnedTupleGo target it v) (fun _ s₁'=>wpAny (model prog w) A (assign target env v) (fun _ s₂=>wpAny (model prog w) A (eval elt env) (fun x s₃=>
          wpAny (model prog w) A (call (.builtin "list.append") [acc,x]) (fun _ s₄=>∃m,m < n∧I m s₄) (fun _ _=>False) s₃) (fun _ _=>False) s₂) (fun _ _=>False) s₁') (fun _ _=>False) s₁) (fun _ _=>False) s)
    (n:Nat) (h:I n s) :
    codeAny (model prog w) A (.compLoop (.ListComp elt [⟨target,iter,[],0⟩] scope pos) 0 it acc env) R s:=by
  refine codeAny_loop rfl I (fun n s hI=>?_) n h
  show wpAny _ _ ((compTurn (.ListComp elt [⟨target,iter,[],0⟩] scope pos) 0 it acc env).onRaise (fun x=>do noteFrame x env;theTreesLotGoes x)) _ _ s
  refine wpAny_noted ?_
  rw[compTurn_list1]
  refine wpAny_bind (wpAny_standAt (wpAny_bind (wpAny_mono (turn n s hI) (fun r s₁ h₁=>?_) fun _ _ h'=>h'.elim)))
  cases r with
  | none=>exact wpAny_pure h₁
  | some v=>
    exact wpAny_bind (wpAny_mono h₁ (fun _ s1' h1'=>wpAny_bind (wpAny_mono h1' (fun _ s₂ h₂=>wpAny_bind (wpAny_bind (wpAny_mono h₂ (fun x s₃ h₃=>wpAny_bind (wpAny_mono h₃
      (fun _ s₄ h₄=>wpAny_pure (wpAny_pure ⟨rfl,h₄⟩)) fun _ _ h'=>h'.elim)) fun _ _ h'=>h'.elim))) fun _ _ h'=>h'.elim)) fun _ _ h'=>h'.elim)
theorem HOk.track{P:Program}{w:World}{H:Hp}{h:Heap}{a:Addr}{o:HO}(x:HOk P w H h)(n:H a=none)(new:ObjOk P w (upd H a o) h a o):HOk P w (upd H a o) h:=fun b u e=>by
  by_cases hb:b=a
  · subst hb;rw[upd_same]at e;cases e;exact new
  · rw[upd_ne hb]at e
    exact(x b u e).stay (fun _ _ _ q=>q) (fun c q=>by rw[upd_ne (ne_of_none q n)];exact q) fun c xs q=>by rw[upd_ne (ne_of_none q n)];exact q
theorem Un.track{fs ex:List Addr}{H H':Hp}{h h':Heap}{a:Addr}{o:HO}(u:Un fs ex H H' h h')(hp:h.objs.size≤a)(n:H' a=none):Un fs ex H (upd H' a o) h h' where
  keep:=u.keep
  slot:=u.slot
  free:=fun b ob q m hx=>by rw[upd_ne (Nat.ne_of_lt (Nat.lt_of_lt_of_le (Heap.lt_size q) hp))];exact u.free b ob q m hx
  there:=u.there
  tups:=fun b xs q=>by have z:=u.tups b xs q;rw[upd_ne (ne_of_none z n)];exact z
  frzs:=fun b ob xs q=>by have z:=u.frzs b ob xs q;rw[upd_ne (ne_of_none z n)];exact z
  tbls:=fun b ps q=>by obtain⟨m,z⟩:=u.tbls b ps q;exact⟨m,by rw[upd_ne (ne_of_none z n)];exact z⟩
theorem cells_app:∀(names:List (Str × NameKind)) (n:Nat) (acc:List (Str × Addr)),cellsFrom n names acc=cellsFrom n names []++acc
  | [],_,_=>rfl
  | (x,k)::r,n,acc=>by
    unfold cellsFrom
    split
    · rw[cells_app r (n+1) ((x,n)::acc),cells_app r (n+1) [(x,n)],List.append_assoc];rfl
    · exact cells_app r n acc
theorem cells_in:∀(names:List (Str × NameKind)) (n:Nat) (y:Str) (c:Addr),(y,c)∈cellsFrom n names []→(y,NameKind.cell)∈names
  | [],_,_,_,h=>by cases h
  | (x,k)::r,n,y,c,h=>by
    unfold cellsFrom at h
    split at h
    · rename_i hk
      rw[cells_app]at h
      rcases List.mem_append.mp h with h | h
      · exact List.mem_cons_of_mem _ (cells_in r (n+1) y c h)
      · have e:=List.mem_singleton.mp h
        cases e
        rw[show k=NameKind.cell by simpa using hk]
        exact List.mem_cons_self
    · exact List.mem_cons_of_mem _ (cells_in r n y c h)
theorem cells_has:∀(names:List (Str × NameKind)) (n:Nat) (y:Str),(y,NameKind.cell)∈names→∃c,(y,c)∈cellsFrom n names []
  | [],_,_,h=>by cases h
  | (x,k)::r,n,y,h=>by
    unfold cellsFrom
    rcases List.mem_cons.mp h with e | h
    · cases e
      rw[if_pos (show(NameKind.cell == NameKind.cell)=true by decide),cells_app]
      exact⟨n,List.mem_append_right _ List.mem_cons_self⟩
    · split
      · rw[cells_app]
        obtain⟨c,hc⟩:=cells_has r (n+1) y h
        exact⟨c,List.mem_append_left _ hc⟩
      · exact cells_has r n y h
theorem lookup_app{α:Type}:∀(l r:List (Str × α)) (y:Str),(l++r).lookup y=match l.lookup y with | some c=>some c | none=>r.lookup y
  | [],_,_=>rfl
  | (x,c)::l,r,y=>by
    rw[List.cons_append,List.lookup_cons,List.lookup_cons]
    cases (y == x)with
    | true=>rfl
    | false=>exact lookup_app l r y
theorem lookup_mem{α:Type}:∀{l:List (Str × α)} {y:Str} {c:α},(y,c)∈l→∃c',l.lookup y=some c'
  | (x,d)::l,y,c,h=>by
    rw[List.lookup_cons]
    cases hb:(y == x)with
    | true=>exact⟨d,rfl⟩
    | false=>
      rcases List.mem_cons.mp h with e | h
      · cases e;rw[beq_self_eq_true]at hb;cases hb
      · exact lookup_mem h
abbrev cbOf(env:Env)(scope:Scope)(C:Addr):List (Str × Addr):=cellsFrom (C+1) scope.names (cloOf env.cells scope.names [])
theorem cb_lookup{env:Env}{scope:Scope}{C:Addr}{y:Str}{c:Addr}(h:(cbOf env scope C).lookup y=some c):(y,c)∈cellsFrom (C+1) scope.names []∨(cloOf env.cells scope.names []).lookup y=some c:=by
  rw[show cbOf env scope C=_ from cells_app _ _ _,lookup_app]at h
  split at h
  · rename_i e;cases h;exact .inl (PySem.mem_of_lookup e)
  · exact .inr h
theorem cb_own{env:Env}{scope:Scope}{C:Addr}{y:Str}{c:Addr}(k:scope.names.lookup y=some .cell)(h:(cbOf env scope C).lookup y=some c):(y,c)∈cellsFrom (C+1) scope.names []:=by
  rw[show cbOf env scope C=_ from cells_app _ _ _,lookup_app]at h
  obtain⟨d,hd⟩:=cells_has scope.names (C+1) y (PySem.mem_of_lookup k)
  obtain⟨d',hd'⟩:=lookup_mem hd
  rw[hd']at h
  cases h
  exact PySem.mem_of_lookup hd'
theorem cells_above:∀(names:List (Str × NameKind)) (n:Nat) (y:Str) (c:Addr),(y,c)∈cellsFrom n names []→n≤c
  | [],_,_,_,h=>by cases h
  | (x,k)::r,n,y,c,h=>by
    unfold cellsFrom at h
    split at h
    · rw[cells_app]at h
      rcases List.mem_append.mp h with h | h
      · have:=cells_above r (n+1) y c h;omega
      · cases List.mem_singleton.mp h;exact Nat.le_refl _
    · exact cells_above r n y c h
theorem cells_inj:∀(names:List (Str × NameKind)) (n:Nat) (x y:Str) (c:Addr),(x,c)∈cellsFrom n names []→(y,c)∈cellsFrom n names []→x=y
  | [],_,_,_,_,h,_=>by cases h
  | (z,k)::r,n,x,y,c,h,g=>by
    unfold cellsFrom at h g
    split at h
    · rename_i hk
      rw[if_pos hk]at g
      rw[cells_app]at h g
      rcases List.mem_append.mp h with h | h <;>rcases List.mem_append.mp g with g | g
      · exact cells_inj r (n+1) x y c h g
      · cases List.mem_singleton.mp g
        have:=cells_above r (n+1) x _ h;omega
      · cases List.mem_singleton.mp h
        have:=cells_above r (n+1) y _ g;omega
      · cases List.mem_singleton.mp h;cases List.mem_singleton.mp g;rfl
    · rename_i hk
      rw[if_neg hk]at g
      exact cells_inj r n x y c h g
theorem newEnv_comp{M:Model}{A:Around}{E:Value→Shared→Prop}{s:Shared}{scope:Scope}{globals:Addr}{closure:List (Str × Addr)}{qual:Str}{env:Env}{Q:Env→Shared→Prop}
    (hQ:∀h':Heap,h'.Ns s.heap.objs.size (fun _=>none)→(∀b o,s.heap.get? b=some o→h'.get? b=some o)→CellsOk h' (s.heap.objs.size+1) (cellsFrom (s.heap.objs.size+1) scope.names [])→
      Q (newEnv scope s.heap.objs.size globals (cellsFrom (s.heap.objs.size+1) scope.names closure) qual none .none (some env) builtinsNs) { s with heap:=h',toks:=s.toks+([]:List (Str × Value)).length }) :
    wpAny M A (newFunctionEnv scope globals closure [] qual none .none (some env)) Q E s:=by
  simp only[newFunctionEnv,Option.isSome_some,if_true]
  refine wpAny_bind (wpAny_alloc ?_)
  refine wpAny_bind (wpAny_layCells _ (fun name kind cells=>by cases hkc:kind == NameKind.cell <;>simp[hkc]) _ _ _ _ ?_)
  have ok:=cellsFrom_ok scope.names (s.heap.push { cls:=.type "dict",data:=.dict #[] }) (s.heap.objs.size+1) [] ⟨fun _ _ hm=>(nomatch hm),List.Pairwise.nil⟩ (by rw[Heap.size_push];exact Nat.le_refl _)
  rw[Heap.size_push]at ok
  rw[show({ s with heap:=s.heap.push { cls:=.type "dict",data:=.dict #[] } }:Shared).heap.objs.size=s.heap.objs.size+1 from Heap.size_push ..]
  rw[List.forIn_nil]
  refine wpAny_bind (wpAny_pure (wpAny_pure ?_))
  exact hQ _ ((Heap.Ns.new s.heap (.type "dict")).keeps (pushCells_keeps _ _)) (fun b o e=>pushCells_keeps _ _ b o (Heap.get?_push_of_some _ e)) ok
def compCx(X:Cx)(scope:Scope)(xs:List Str)(C:Addr)(s:Shared)(H:Hp)(fp:List Addr)(pn:List (Addr × Obj)):Cx:=
  { X with env:=compEnvC scope (cbOf X.env scope C) C X.env,N:=X.N++xs,s₀:=s,H₀:=H,outer:=X.stack,ex:=fp,fn:=fun y=>scope.names.lookup y == some .cell,pn:=pn,xe:=fun _ _=>False }
structure CompOk(N:List Str)(S T:Scope):Prop where
  kind:T.kind=.function
  cell:∀y∈N,T.names.lookup y≠some .cell
  names:∀y∈T.names,y.2=.local→T.names.lookup y.1=some .local
  uniq:∀y∈T.names,T.names.lookup y.1=some y.2
  free:∀y∈T.names,y.2=.free→S.names.lookup y.1=some .cell∨S.names.lookup y.1=some .free
  vis:∀y∈N,T.names.lookup y≠some .local
def rl(env:Env)(z:Str × NameKind):Str × NameKind:=match z with | (n,k)=>if(k == NameKind.free && env.scope.kind == .function && env.kindOf n == some .cell)then(n,NameKind.cell)else(n,k)
theorem rl_fst(env:Env)(n:Str)(k:NameKind):(rl env (n,k)).1=n:=by unfold rl;dsimp only;split <;>rfl
theorem rl_snd(env:Env)(n:Str)(k:NameKind):(rl env (n,k)).2=k∨(k=.free∧(rl env (n,k)).2=.cell):=by
  unfold rl
  dsimp only
  split
  · rename_i h
    simp only[Bool.and_eq_true]at h
    exact .inr ⟨by simpa using h.1.1,rfl⟩
  · exact .inl rfl
theorem rl_lookup{env:Env}:∀{names:List (Str × NameKind)} {y:Str} {k:NameKind},(names.map (rl env)).lookup y=some k→names.lookup y=some k∨(names.lookup y=some .free∧k=.cell)
  | [],_,_,h=>by cases h
  | (n,j)::r,y,k,h=>by
    have ih:=@rl_lookup env r y k
    rw[List.map_cons,show rl env (n,j)=((rl env (n,j)).1,(rl env (n,j)).2)from rfl,rl_fst,List.lookup_cons]at h
    rw[List.lookup_cons]
    cases hy:(y == n)with
    | true=>
      rw[hy]at h
      have h:(rl env (n,j)).2=k:=Option.some.inj h
      rcases rl_snd env n j with z | ⟨z1,z2⟩
      · exact .inl (by rw[← h,z])
      · exact .inr ⟨by rw[z1],by rw[← h,z2]⟩
    | false=>
      rw[hy]at h
      exact ih h
theorem relabel_free{env:Env}{scope:Scope}{y:Str}(h:(relabel scope env).names.lookup y=some .cell∨(relabel scope env).names.lookup y=some .free):scope.names.lookup y=some .free∨scope.names.lookup y=some .cell:=by
  have e:(relabel scope env).names=scope.names.map (rl env):=rfl
  rw[e]at h
  rcases h with h | h
  · rcases rl_lookup h with z | ⟨z,_⟩
    · exact .inr z
    · exact .inl z
  · rcases rl_lookup h with z | ⟨z,_⟩
    · exact .inl z
    · exact .inl z
theorem relabel_local{env:Env}{scope:Scope}{y:Str}(h:(relabel scope env).names.lookup y=some .local):scope.names.lookup y=some .local:=by
  have e:(relabel scope env).names=scope.names.map (rl env):=rfl
  rw[e]at h
  rcases rl_lookup h with z | ⟨_,z⟩
  · exact z
  · cases z
theorem Un.but{fs ex:List Addr}{H H':Hp}{h h1 h2:Heap}{C:Addr}(u:Un fs ex H H' h h1)(hb:∀b o,b≠C→h1.get? b=some o→h2.get? b=some o)(hC:h.objs.size≤C):Un fs ex H H' h h2:=by
  have ne:∀b o,h.get? b=some o→b≠C:=fun b o e=>Nat.ne_of_lt (Nat.lt_of_lt_of_le (Heap.lt_size e) hC)
  refine⟨fun b o e n hf hx=>hb b o (ne b o e) (u.keep b o e n hf hx),fun b o e n hf hx=>?_,u.free,fun b o e hx=>?_,u.tups,u.frzs,u.tbls⟩
  · obtain⟨sl,q⟩:=u.slot b o e n hf hx
    exact⟨sl,hb b _ (ne b o e) q⟩
  · obtain⟨o',q⟩:=u.there b o e hx
    exact⟨o',hb b _ (ne b o e) q⟩
theorem HOk.but{P:Program}{w:World}{H:Hp}{h1 h2:Heap}{C:Addr}(x:HOk P w H h1)(hb:∀b o,b≠C→h1.get? b=some o→h2.get? b=some o)(n:H C=none):HOk P w H h2:=fun b u e=>
  (x b u e).stay (fun c v hc q=>hb c v (by
    rcases hc with rfl | hc
    · exact ne_of_none e n
    · exact ne_of_none hc n) q) (fun _ q=>q) fun _ _ q=>q
section
variable{X:Cx}{pins:List (Addr × Obj)}{σ:St}{H:Hp}{s:Shared}{scope:Scope}{xs:List Str}{fp:List Addr}{C:Addr}
theorem comp_free(I:Inv X pins σ H s)(ok:CompOk X.N X.env.scope scope):∀n,(n,NameKind.free)∈scope.names→∃c,X.env.cells.lookup n=some c:=fun n hn=>I.ok.has n (ok.free _ hn rfl)
theorem comp_cell(I:Inv X pins σ H s)(ok:CompOk X.N X.env.scope scope){y:Str}{c:Addr}(e:(cbOf X.env scope C).lookup y=some c):(y,c)∈cellsFrom (C+1) scope.names []∨X.env.cells.lookup y=some c:=by
  rcases cb_lookup e with z | z
  · exact .inl z
  · rcases clo_in (comp_free I ok) z with z | z
    · cases z
    · exact .inr z
theorem comp_old(I:Inv X pins σ H s){y:Str}{c:Addr}(e:X.env.cells.lookup y=some c):c < s.heap.objs.size:=let⟨_,h⟩:=I.cell y c e;h.lt
theorem comp_ok(I:Inv X pins σ H s)(ok:CompOk X.N X.env.scope scope)(hf:∀b∈fp,FpOk X pins H b)(hx:∀b∈fp,b < s.heap.objs.size)(hC:s.heap.objs.size≤C) :
    (compCx X scope xs C s H fp (X.pn++pins)).Ok where
  mod:=I.mod
  kind:=ok.kind
  glob:=I.ok.glob
  blt:=I.ok.blt
  above:=hC
  inj:=fun x y c h1 h2=>by
    rcases comp_cell I ok h1 with z1 | z1 <;>rcases comp_cell I ok h2 with z2 | z2
    · exact cells_inj _ _ x y c z1 z2
    · exact absurd (Nat.lt_of_lt_of_le (comp_old I z2) (Nat.le_trans hC (Nat.le_of_lt (cells_above _ _ _ _ z1)))) (Nat.lt_irrefl _)
    · exact absurd (Nat.lt_of_lt_of_le (comp_old I z1) (Nat.le_trans hC (Nat.le_of_lt (cells_above _ _ _ _ z2)))) (Nat.lt_irrefl _)
    · exact I.ok.inj x y c z1 z2
  has:=fun y hy=>by
    show ∃c,(cbOf X.env scope C).lookup y=some c
    rw[show cbOf X.env scope C=_ from cells_app _ _ _,lookup_app]
    rcases relabel_free hy with z | z
    · obtain⟨c,hc⟩:=clo_has (cells:=X.env.cells) (cs:=[]) (.inr (PySem.mem_of_lookup z))
      split
      · rename_i c' _;exact⟨c',rfl⟩
      · exact⟨c,hc⟩
    · obtain⟨c,hc⟩:=cells_has scope.names (C+1) y (PySem.mem_of_lookup z)
      obtain⟨c',hc'⟩:=lookup_mem hc
      rw[hc']
      exact⟨c',rfl⟩
  cab:=fun x c h e=>Nat.le_trans hC (Nat.le_of_lt (cells_above _ _ _ _ (cb_own (by have h:(scope.names.lookup x == some NameKind.cell)=true:=h;simpa using h) e)))
  hd:=I.ok.hd
  frames:=I.ok.frames
  stk:=.inl rfl
  exf:=fun b hb=>⟨Nat.ne_of_lt (Nat.lt_of_lt_of_le (hx b hb) hC),fun x c e=>by
    rcases comp_cell I ok e with z | z
    · exact Nat.ne_of_gt (Nat.lt_of_lt_of_le (hx b hb) (Nat.le_trans hC (Nat.le_of_lt (cells_above _ _ _ _ z))))
    · exact(hf b hb).2.2.2.2.1 x c z⟩
  bs:=I.bs
  bsz:=Nat.le_trans I.ok.bsz I.sz
  noex:=fun b o e hb=>by
    rcases(hf b hb).2.2.2.1 with z | z
    · exact I.ok.noex b o e z
    · exact absurd (Nat.lt_of_lt_of_le (Heap.lt_size e) (Nat.le_trans I.ok.bsz z)) (Nat.lt_irrefl _)
  exfs:=fun b hb z=>by
    rcases List.mem_cons.mp (I.stkSub b z)with q | q
    · exact(hf b hb).2.1 q
    · exact(hf b hb).2.2.1 q
  funs:=I.stack
  frf:=I.stkFree
theorem comp_start(I:Inv X pins σ H s)(ok:CompOk X.N X.env.scope scope)(hf:∀b∈fp,FpOk X pins H b)(hx:∀b∈fp,b < s.heap.objs.size)(hC:s.heap.objs.size≤C){h':Heap}{t':Nat}{m:Str→Option Value}
    (hn:h'.Ns C m) (hk:∀b o,s.heap.get? b=some o→h'.get? b=some o) (hcs:CellsOk h' (C+1) (cellsFrom (C+1) scope.names [])) :
    Inv (compCx X scope xs C s H fp (X.pn++pins)) [] (σ++List.replicate xs.length none) H { s with heap:=h',toks:=t' }where
  ok:=comp_ok I ok hf hx hC
  os:=rfl
  bare:=I.bare
  base:=Un.kept hk
  loc:=by
    refine⟨m,hn,fun i x v e1 e2 e3=>?_⟩
    have e1:(X.N++xs)[i]? = some x:=e1
    have hi:i < σ.length:=by
      by_cases hi:i < σ.length
      · exact hi
      · rw[List.getElem?_append_right (by omega),List.getElem?_replicate]at e2
        split at e2 <;>cases e2
    rw[List.getElem?_append_left hi]at e2
    rw[List.getElem?_append_left (by rw[← I.len];exact hi)]at e1
    have hxN:x∈X.N:=List.mem_of_getElem? e1
    have e4:(relabel scope X.env).names.lookup x=some .cell∨(relabel scope X.env).names.lookup x=some .free:=by
      rcases e3 with z | z
      · exact absurd (relabel_local z) (ok.vis x hxN)
      · exact z
    have e5:scope.names.lookup x=some .free:=by
      rcases relabel_free e4 with z | z
      · exact z
      · exact absurd z (ok.cell x hxN)
    have e6:=ok.free _ (PySem.mem_of_lookup e5) rfl
    obtain⟨m0,_,hl⟩:=I.loc
    obtain⟨u,ru,lu⟩:=hl i x v e1 e2 (.inr e6)
    refine⟨u,ru,.inr ⟨e4,?_⟩⟩
    rcases lu with ⟨q,_⟩ | ⟨_,c,hc,o,ho,hd⟩
    · have q:X.env.scope.names.lookup x=some .local:=q
      rcases e6 with z | z <;>(rw[q]at z;cases z)
    · obtain⟨c',hc'⟩:=clo_has (cells:=X.env.cells) (cs:=[]) (.inr (PySem.mem_of_lookup e5))
      have no:(cellsFrom (C+1) scope.names []).lookup x=none:=by
        cases e:(cellsFrom (C+1) scope.names []).lookup x with
        | none=>rfl
        | some d=>
          have:=ok.uniq _ (cells_in _ _ _ _ (PySem.mem_of_lookup e))
          rw[e5]at this
          cases this
      have hb:(cbOf X.env scope C).lookup x=some c':=by
        rw[show cbOf X.env scope C=_ from cells_app _ _ _,lookup_app,no]
        exact hc'
      rcases clo_in (comp_free I ok) hc' with z | z
      · cases z
      · rw[hc]at z
        cases z
        exact⟨c,hb,o,hk _ _ ho,hd⟩
  cell:=fun x c e=>by
    rcases comp_cell I ok e with z | z
    · exact⟨none,(hcs.empty x c z).1⟩
    · obtain⟨v,o,ho,hd⟩:=I.cell x c z
      exact⟨v,o,hk _ _ ho,hd⟩
  free:=I.hok.fresh hC
  freeC:=fun x c e=>by
    rcases comp_cell I ok e with z | z
    · exact I.hok.fresh (by have:=cells_above _ _ _ _ z;omega)
    · exact I.freeC x c z
  pin:=fun p hp=>by
    rw[List.append_nil]at hp
    obtain⟨e,n,ne,nf,d⟩:=I.pin p hp
    refine⟨hk _ _ e,n,Nat.ne_of_lt (Nat.lt_of_lt_of_le (Heap.lt_size e) hC),fun z=>?_,d⟩
    rcases List.mem_cons.mp (I.stkSub p.1 z)with q | q
    · exact ne q
    · exact nf q
  hok:=I.hok.kept hk
  len:=by
    show(σ++List.replicate xs.length none).length=(X.N++xs).length
    rw[List.length_append,List.length_append,List.length_replicate,I.len]
end
abbrev CTail(J:It)(k:Nat)(g:TG)(te:TE)(σ:St)(Q:VK)(H1:Hp):Prop:=∃W:Nat→Nat→List V→Hp→Prop,(∃m,W 0 m [] H1)∧∀i m ys H,W i m ys H→
  (J.stop i H∧ys.length≤sizeLine∧∀p,H p=none→Q (.ref p) (upd H p (.lst ys)))∨
  (J.go i H∧ys.length < sizeLine∧∀x H',J.yld i H x H'→g x (σ++List.replicate k none) H' fun σ2 H2=>(∃zs,σ2=σ++zs∧zs.length=k)∧te σ2 H2 fun v H3=>∃m',m' < m∧W (i+1) m' (ys++[v]) H3)
def tComp(k:Nat)(wi:TI)(g:TG)(te:TE):TE:=fun σ H Q=>wi σ H fun J H1=>CTail J k g te σ Q H1
theorem pe_comp{X:Cx}{elt target iter:Expr}{scope:Scope}{pos:Pos}{wi:TI}{g:TG}{te:TE}{xs:List Str}(hc:X.calm=true)(ok:CompOk X.N X.env.scope scope)(hi:PI X target iter wi)
    (hg:∀C s H fp pn,PG (compCx X scope xs C s H fp pn) target g) (he:∀C s H fp pn,PE (compCx X scope xs C s H fp pn) elt te)
    (hs:∀x,foldedSetIterable iter X.env x=pure x:=by intro _;rfl):PE X (.ListComp elt [⟨target,iter,[],0⟩] scope pos) (tComp xs.length wi g te):=by
  intro pins s σ H Q I h
  rw[eval_ListComp]
  refine wpAny_comprehension_free (use:=none) rfl hs (clo_closure (comp_free I ok)) ok.kind ok.names (thn (hi pins s σ H _ I h) fun v s1 h1=>thn h1 fun itv s2 h2=>?_)
  obtain⟨it,fp,tn,J,H2,rfl,I2,T,st2,f2,W,⟨m0,w0⟩,turn⟩:=h2
  refine wpAny_newObj_type (newEnv_comp fun h₁ hns₁ hsb₁ hcl₁=>?_)
  dsimp only at hns₁ hsb₁ hcl₁ ⊢
  generalize hD:s2.heap.objs.size=D
  generalize hH3:s2.heap.push { cls:=.type "list",dict:=none,data:=.seq ([]:List Value).toArray }=h3 at hns₁ hsb₁ hcl₁ ⊢
  have k23:∀b o,s2.heap.get? b=some o→h3.get? b=some o:=fun b o e=>hH3▸Heap.get?_push_of_some _ e
  have hC:h3.objs.size=D+1:=by rw[← hH3,Heap.size_push,hD]
  have eD3:h3.get? D=some { cls:=.type "list",dict:=none,data:=.seq ([]:List Value).toArray }:=by
    rw[← hH3,← hD];exact Heap.get?_push_size _ rfl
  have I3:Inv X pins σ H2 { s2 with heap:=h3 }:=I2.kept (t':=s2.toks) k23
  have fD:FpOk X pins H2 D:=I2.fpOk (by omega) (I2.hok.fresh (by omega))
  have lt2:∀b∈fp,b < D:=fun b hb=>by
    obtain⟨o,e,_⟩:=T.obj 0 _ st2 b hb
    rw[← hD]
    exact Heap.lt_size e
  have f3:∀b∈D::fp,FpOk X pins H2 b:=fun b hb=>by
    rcases List.mem_cons.mp hb with rfl | hb
    · exact fD
    · exact f2 b hb
  have hx3:∀b∈D::fp,b < ({ s2 with heap:=h3 }:Shared).heap.objs.size:=fun b hb=>by
    show b < h3.objs.size
    rcases List.mem_cons.mp hb with rfl | hb
    · rw[hC];exact Nat.lt_succ_self _
    · rw[hC];exact Nat.lt_succ_of_lt (lt2 b hb)
  have k31:∀b o,h3.get? b=some o→h₁.get? b=some o:=hsb₁
  have okX:=comp_ok (C:=h3.objs.size) (xs:=xs) I3 ok f3 hx3 (Nat.le_refl _)
  have I4:=comp_start (C:=h3.objs.size) (xs:=xs) (t':=s2.toks+([]:List (Str × Value)).length) I3 ok f3 hx3 (Nat.le_refl _) hns₁ k31 hcl₁
  have mD:D∈D::fp:=List.mem_cons_self
  have neC:∀b∈D::fp,b≠h3.objs.size:=fun b hb=>(okX.exf b hb).1
  have stat:∀{H':Hp} {pl:List (Addr × Obj)},(∀b∈fp,H' b=none)→(∀p∈pl,p.1=D)→∀b∈fp,FpOk (compCx X scope xs h3.objs.size { s2 with heap:=h3 } H2 (D::fp) (X.pn++pins)) pl H' b:=fun hn hpl b hb=>by
    have hb':b∈D::fp:=List.mem_cons_of_mem _ hb
    refine⟨hn b hb,neC b hb',okX.exfs b hb',.inl hb',(okX.exf b hb').2,fun p hp=>?_⟩
    rcases List.mem_append.mp hp with hp | hp
    · exact(f2 b hb).2.2.2.2.2 p hp
    · rw[hpl p hp]
      exact Nat.ne_of_gt (lt2 b hb)
  have loop:codeAny (model X.prog X.w) X.A (.compLoop (.ListComp elt [⟨target,iter,[],0⟩] scope pos) 0 (.ref it) (.ref D) (compEnvC scope (cbOf X.env scope h3.objs.size) h3.objs.size X.env))
      (compPost (model X.prog X.w) X.A X.xe none (EP X pins σ Q) (.ref D) h3.objs.size) { s2 with heap:=h₁,toks:=s2.toks+([]:List (Str × Value)).length }:=by
    refine compLoop_any (fun n s'=>∃i ys its k H',Inv (compCx X scope xs h3.objs.size { s2 with heap:=h3 } H2 (D::fp) (X.pn++pins)) [] (σ++List.replicate xs.length none) H' s'∧
      s'.heap.get? D=some { cls:=.type "list",data:=.seq (its:List Value).toArray k }∧Vals ys its∧H' D=none∧tn i s'.heap∧(∀b∈fp,H' b=none)∧W i n ys H') ?_ m0
      ⟨0,[],[],_,H2,I4,k31 _ _ eD3,.nil,fD.1,T.keep _ _ _ st2 (fun b _ o e=>k31 b o (k23 b o e)),fun b hb=>(f2 b hb).1,w0⟩
    rintro n s' ⟨i,ys,its,k,H',I',eD,rv,nD,st,fr,w⟩
    have Ip:=I'.pins_of (pins':=[(D,{ cls:=.type "list",data:=.seq its.toArray k })]) fun p hp=>by
      rw[List.mem_singleton]at hp
      subst hp
      exact⟨eD,nD,neC D mD,okX.exfs D mD,fun v z=>by cases z⟩
    have one:∀p∈[(D,({ cls:=.type "list",data:=.seq its.toArray k }:Obj))],p.1=D:=fun p hp=>by rw[List.mem_singleton]at hp;rw[hp]
    rcases turn i n ys H' w with ⟨stop,hz,q⟩ | ⟨go,hz,step⟩
    · refine thn (T.done (compCx X scope xs h3.objs.size { s2 with heap:=h3 } H2 (D::fp) (X.pn++pins)) rfl rfl rfl hc i _ s' _ H' (fun _ _=>False) Ip (stat fr one) st stop) fun r s4 ⟨hr,J4⟩=>?_
      subst hr
      obtain⟨mm,hnm,_⟩:=J4.loc
      refine⟨mm,hnm,fun h' sb=>?_⟩
      obtain⟨eD4,nD4,_⟩:=J4.pin (D,{ cls:=.type "list",data:=.seq its.toArray k }) (List.mem_append_right _ List.mem_cons_self)
      have hb:∀b o,b≠h3.objs.size→s4.heap.get? b=some o→h'.get? b=some o:=fun b o hn e=>sb.extBut b o hn e
      have u0:Un (frs X.stack) (D::fp) H2 H' h3 s4.heap:=J4.base
      have u:Un (frs X.stack) (D::fp) H2 H' s2.heap h':=((Un.kept k23).trans u0).but hb (by omega)
      have os4:s4.os=s2.os:=J4.os
      refine⟨.ref D,upd H' D (.lst ys),I2.call' (s':={ s4 with heap:=h' }) (ch:=D::fp) os4 (u.track (by omega) nD4) ((J4.hok.but hb J4.free).track nD4 ⟨hz,its,k,rv,hb D _ (neC D mD) eD4⟩) J4.bare (fun b hb=>?_),rfl,q D nD4⟩
      have z:=f3 b hb
      exact⟨z.2.2.2.1,z.2.1,z.2.2.2.2.1,z.2.2.2.2.2⟩
    · refine thn (T.item (compCx X scope xs h3.objs.size { s2 with heap:=h3 } H2 (D::fp) (X.pn++pins)) rfl rfl rfl hc i _ s' _ H' (fun _ _=>False) Ip (stat fr one) st go) fun r s4 ⟨u,hr,h4⟩=>?_
      subst hr
      refine thn h4 fun _ s5 ⟨x,H5,I5,r5,y5,st5,fr5⟩=>?_
      have I5':=I5.pinned (stat fr5 one) (T.obj _ _ st5)
      refine thn (hg _ _ _ _ _ _ s5 _ H5 x u _ I5' r5 (step x H5 y5)) fun _ s6 ⟨σ6,H6,I6,⟨zs,hz6,hl6⟩,q6⟩=>?_
      refine thn (he _ _ _ _ _ _ s6 σ6 H6 _ I6 q6) fun xv s7 ⟨v,H7,I7,r7,m',hm',w7⟩=>?_
      obtain⟨eD7,nD7,_⟩:=I7.pin (D,{ cls:=.type "list",data:=.seq its.toArray k }) (List.mem_append_right _ (List.mem_append_left _ List.mem_cons_self))
      have len:=rv.length
      refine call_meets F.slot_list_append ⟨_,eD7,rfl⟩ F.entry_list_append (F.args_list_append_2 _ _) (PySem.list_append D its.toArray k xv (by rw[List.size_toArray];omega)) ⟨eD7,?_⟩
      have q:=PySem.IsL.update eD7 (fun a=>a.push xv)
      have other:∀b o,b≠D→s7.heap.get? b=some o→(s7.heap.update D (Obj.mapSeq fun a=>a.push xv)).get? b=some o:=fun b o hb e=>(Heap.get?_update_other s7.heap _ (Ne.symm hb)).trans e
      have pinF:∀b∈fp,∀o,s5.heap.get? b=some o→s7.heap.get? b=some o∧H7 b=none:=fun b hb o e=>
        ⟨(I7.pin (b,o) (List.mem_append_right _ (List.mem_append_right _ (mem_pinsAt hb e)))).1,(I7.pin (b,o) (List.mem_append_right _ (List.mem_append_right _ (mem_pinsAt hb e)))).2.1⟩
      have I7':=I7.pins_of (pins':=[]) fun p hp=>by cases hp
      have I8:=I7'.turned (t':=s7.toks) (it:=D) other nD7 (neC D mD) (.inl mD) (okX.exf D mD).2 (fun p hp=>by
        rw[List.append_nil]at hp
        exact fD.2.2.2.2.2 p hp)
      have I9:=I8.weak (σ':=σ++List.replicate xs.length none) (by rw[hz6,List.length_append,List.length_append,List.length_replicate,hl6]) (fun j v' e=>by
        have hj:j < σ.length:=by
          by_cases hj:j < σ.length
          · exact hj
          · rw[List.getElem?_append_right (by omega),List.getElem?_replicate]at e
            split at e <;>cases e
        rw[List.getElem?_append_left hj]at e
        rw[hz6,List.getElem?_append_left hj]
        exact e)
      have e9:its.toArray.push xv=(its++[xv]).toArray:=by simp
      rw[e9]at q
      refine⟨m',hm',i+1,ys++[v],its++[xv],_,H7,I9,q,rv.append (.cons r7 .nil),nD7,T.keep _ _ _ st5 (fun b hb o e=>other b o (Nat.ne_of_lt (lt2 b hb)) (pinF b hb o e).1),fun b hb=>?_,w7⟩
      obtain⟨o,e,_⟩:=T.obj _ _ st5 b hb
      exact(pinF b hb o e).2
  exact codeAny_compStart_list loop (T.self _ 0 _ _ _ (T.keep _ _ _ st2 fun b _ o e=>k31 b o (k23 b o e)) loop)
end L2
namespace L2
open PySem PySem.Spec PyProof.Rows
section
variable{X:Cx}{pins:List (Addr × Obj)}{σ:St}{H:Hp}{s:Shared}{i:Nat}{y:Str}
end
end L2
namespace L2
open PySem PySem.Spec PyProof.Rows
theorem compLoop_if{prog:Program}{w:World}{A:Around}{R:Result→Shared→Prop}{s:Shared}{elt target iter c:Expr}{scope:Scope}{pos:Pos}{it acc:Value}{env:Env}(I:Nat→Shared→Prop)
    (turn:∀n s,I n s→wpAny (model prog w) A (pyNext it) (fun r s₁=>match r with
      | none=>R (.ok .next) s₁
      | some v=>wpAny (model prog w) A (letOwnedTupleGo target it v) (fun _ s₁'=>wpAny (model prog w) A (assign target env v) (fun _ s₂=>wpAny (model prog w) A (isTrue c env (eval c env)) (fun ok s₂'=>
          if ok=true then wpAny (model prog w) A (eval elt env) (fun x s₃=>wpAny (model prog w) A (call (.builtin "list.append") [acc,x]) (fun _ s₄=>∃m,m < n∧I m s₄) (fun _ _=>False) s₃) (fun _ _=>False) s₂'
          else ∃m,m < n∧I m s₂') (fun _ _=>False) s₂) (fun _ _=>False) s₁') (fun _ _=>False) s₁) (fun _ _=>False) s)
    (n:Nat) (h:I n s) :
    codeAny (model prog w) A (.compLoop (.ListComp elt [⟨target,iter,[c],0⟩] scope pos) 0 it acc env) R s:=by
  refine codeAny_loop rfl I (fun n s hI=>?_) n h
  show wpAny _ _ ((compTurn (.ListComp elt [⟨target,iter,[c],0⟩] scope pos) 0 it acc env).onRaise (fun x=>do noteFrame x env;theTreesLotGoes x)) _ _ s
  refine wpAny_noted ?_;rw[compTurn_list]
  refine wpAny_bind (wpAny_standAt (wpAny_bind (wpAny_mono (turn n s hI) (fun r s₁ h₁=>?_) fun _ _ h'=>h'.elim)))
  cases r with
  | none=>exact wpAny_pure h₁
  | some v=>
    refine wpAny_bind (wpAny_mono h₁ (fun _ s1' h1'=>wpAny_bind (wpAny_mono h1' (fun _ s₂ h₂=>wpAny_bind (wpAny_tests_one (wpAny_mono h₂ (fun ok s₃ h₃=>?_) fun _ _ h'=>h'.elim))) fun _ _ h'=>h'.elim)) fun _ _ h'=>h'.elim)
    cases ok with
    | false=>exact wpAny_pure ⟨rfl,h₃⟩
    | true=>
      exact wpAny_bind (wpAny_bind (wpAny_mono h₃ (fun x s₄ h₄=>wpAny_bind (wpAny_mono h₄ (fun _ s₅ h₅=>wpAny_pure (wpAny_pure ⟨rfl,h₅⟩)) fun _ _ h'=>h'.elim)) fun _ _ h'=>h'.elim))
abbrev CTailI(J:It)(k:Nat)(g:TG)(tc:TT)(te:TE)(σ:St)(Q:VK)(H1:Hp):Prop:=∃W:Nat→Nat→List V→Hp→Prop,(∃m,W 0 m [] H1)∧∀i m ys H,W i m ys H→
  (J.stop i H∧ys.length≤sizeLine∧∀p,H p=none→Q (.ref p) (upd H p (.lst ys)))∨
  (J.go i H∧ys.length < sizeLine∧∀x H',J.yld i H x H'→g x (σ++List.replicate k none) H' fun σ2 H2=>(∃zs,σ2=σ++zs∧zs.length=k)∧tc σ2 H2 fun b H3=>if b=true then te σ2 H3 fun v H4=>∃m',m' < m∧W (i+1) m' (ys++[v]) H4 else ∃m',m' < m∧W (i+1) m' ys H3)
def tCompIf(k:Nat)(wi:TI)(g:TG)(tc:TT)(te:TE):TE:=fun σ H Q=>wi σ H fun J H1=>CTailI J k g tc te σ Q H1
theorem pe_compif{X:Cx}{elt target iter c:Expr}{scope:Scope}{pos:Pos}{wi:TI}{g:TG}{tc:TT}{te:TE}{xs:List Str}(hc:X.calm=true)(ok:CompOk X.N X.env.scope scope)(hi:PI X target iter wi)
    (hg:∀C s H fp pn,PG (compCx X scope xs C s H fp pn) target g) (ht:∀C s H fp pn,PT (compCx X scope xs C s H fp pn) c tc) (he:∀C s H fp pn,PE (compCx X scope xs C s H fp pn) elt te)
    (hs:∀x,foldedSetIterable iter X.env x=pure x:=by intro _;rfl):PE X (.ListComp elt [⟨target,iter,[c],0⟩] scope pos) (tCompIf xs.length wi g tc te):=by
  intro pins s σ H Q I h
  rw[eval_ListComp]
  refine wpAny_comprehension_free (use:=none) rfl hs (clo_closure (comp_free I ok)) ok.kind ok.names (thn (hi pins s σ H _ I h) fun v s1 h1=>thn h1 fun itv s2 h2=>?_)
  obtain⟨it,fp,tn,J,H2,rfl,I2,T,st2,f2,W,⟨m0,w0⟩,turn⟩:=h2
  refine wpAny_newObj_type (newEnv_comp fun h₁ hns₁ hsb₁ hcl₁=>?_)
  dsimp only at hns₁ hsb₁ hcl₁ ⊢
  generalize hD:s2.heap.objs.size=D
  generalize hH3:s2.heap.push { cls:=.type "list",dict:=none,data:=.seq ([]:List Value).toArray }=h3 at hns₁ hsb₁ hcl₁ ⊢
  have k23:∀b o,s2.heap.get? b=some o→h3.get? b=some o:=fun b o e=>hH3▸Heap.get?_push_of_some _ e
  have hC:h3.objs.size=D+1:=by rw[← hH3,Heap.size_push,hD]
  have eD3:h3.get? D=some { cls:=.type "list",dict:=none,data:=.seq ([]:List Value).toArray }:=by
    rw[← hH3,← hD];exact Heap.get?_push_size _ rfl
  have I3:Inv X pins σ H2 { s2 with heap:=h3 }:=I2.kept (t':=s2.toks) k23
  have fD:FpOk X pins H2 D:=I2.fpOk (by omega) (I2.hok.fresh (by omega))
  have lt2:∀b∈fp,b < D:=fun b hb=>by
    obtain⟨o,e,_⟩:=T.obj 0 _ st2 b hb
    rw[← hD]
    exact Heap.lt_size e
  have f3:∀b∈D::fp,FpOk X pins H2 b:=fun b hb=>by
    rcases List.mem_cons.mp hb with rfl | hb
    · exact fD
    · exact f2 b hb
  have hx3:∀b∈D::fp,b < ({ s2 with heap:=h3 }:Shared).heap.objs.size:=fun b hb=>by
    show b < h3.objs.size
    rcases List.mem_cons.mp hb with rfl | hb
    · rw[hC];exact Nat.lt_succ_self _
    · rw[hC];exact Nat.lt_succ_of_lt (lt2 b hb)
  have k31:∀b o,h3.get? b=some o→h₁.get? b=some o:=hsb₁
  have okX:=comp_ok (C:=h3.objs.size) (xs:=xs) I3 ok f3 hx3 (Nat.le_refl _)
  have I4:=comp_start (C:=h3.objs.size) (xs:=xs) (t':=s2.toks+([]:List (Str × Value)).length) I3 ok f3 hx3 (Nat.le_refl _) hns₁ k31 hcl₁
  have mD:D∈D::fp:=List.mem_cons_self
  have neC:∀b∈D::fp,b≠h3.objs.size:=fun b hb=>(okX.exf b hb).1
  have stat:∀{H':Hp} {pl:List (Addr × Obj)},(∀b∈fp,H' b=none)→(∀p∈pl,p.1=D)→∀b∈fp,FpOk (compCx X scope xs h3.objs.size { s2 with heap:=h3 } H2 (D::fp) (X.pn++pins)) pl H' b:=fun hn hpl b hb=>by
    have hb':b∈D::fp:=List.mem_cons_of_mem _ hb
    refine⟨hn b hb,neC b hb',okX.exfs b hb',.inl hb',(okX.exf b hb').2,fun p hp=>?_⟩
    rcases List.mem_append.mp hp with hp | hp
    · exact(f2 b hb).2.2.2.2.2 p hp
    · rw[hpl p hp]
      exact Nat.ne_of_gt (lt2 b hb)
  have loop:codeAny (model X.prog X.w) X.A (.compLoop (.ListComp elt [⟨target,iter,[c],0⟩] scope pos) 0 (.ref it) (.ref D) (compEnvC scope (cbOf X.env scope h3.objs.size) h3.objs.size X.env))
      (compPost (model X.prog X.w) X.A X.xe none (EP X pins σ Q) (.ref D) h3.objs.size) { s2 with heap:=h₁,toks:=s2.toks+([]:List (Str × Value)).length }:=by
    refine compLoop_if (fun n s'=>∃i ys its k H',Inv (compCx X scope xs h3.objs.size { s2 with heap:=h3 } H2 (D::fp) (X.pn++pins)) [] (σ++List.replicate xs.length none) H' s'∧
      s'.heap.get? D=some { cls:=.type "list",data:=.seq (its:List Value).toArray k }∧Vals ys its∧H' D=none∧tn i s'.heap∧(∀b∈fp,H' b=none)∧W i n ys H') ?_ m0
      ⟨0,[],[],_,H2,I4,k31 _ _ eD3,.nil,fD.1,T.keep _ _ _ st2 (fun b _ o e=>k31 b o (k23 b o e)),fun b hb=>(f2 b hb).1,w0⟩
    rintro n s' ⟨i,ys,its,k,H',I',eD,rv,nD,st,fr,w⟩
    have Ip:=I'.pins_of (pins':=[(D,{ cls:=.type "list",data:=.seq its.toArray k })]) fun p hp=>by
      rw[List.mem_singleton]at hp
      subst hp
      exact⟨eD,nD,neC D mD,okX.exfs D mD,fun v z=>by cases z⟩
    have one:∀p∈[(D,({ cls:=.type "list",data:=.seq its.toArray k }:Obj))],p.1=D:=fun p hp=>by rw[List.mem_singleton]at hp;rw[hp]
    rcases turn i n ys H' w with ⟨stop,hz,q⟩ | ⟨go,hz,step⟩
    · refine thn (T.done (compCx X scope xs h3.objs.size { s2 with heap:=h3 } H2 (D::fp) (X.pn++pins)) rfl rfl rfl hc i _ s' _ H' (fun _ _=>False) Ip (stat fr one) st stop) fun r s4 ⟨hr,J4⟩=>?_
      subst hr
      obtain⟨mm,hnm,_⟩:=J4.loc
      refine⟨mm,hnm,fun h' sb=>?_⟩
      obtain⟨eD4,nD4,_⟩:=J4.pin (D,{ cls:=.type "list",data:=.seq its.toArray k }) (List.mem_append_right _ List.mem_cons_self)
      have hb:∀b o,b≠h3.objs.size→s4.heap.get? b=some o→h'.get? b=some o:=fun b o hn e=>sb.extBut b o hn e
      have u0:Un (frs X.stack) (D::fp) H2 H' h3 s4.heap:=J4.base
      have u:Un (frs X.stack) (D::fp) H2 H' s2.heap h':=((Un.kept k23).trans u0).but hb (by omega)
      have os4:s4.os=s2.os:=J4.os
      refine⟨.ref D,upd H' D (.lst ys),I2.call' (s':={ s4 with heap:=h' }) (ch:=D::fp) os4 (u.track (by omega) nD4) ((J4.hok.but hb J4.free).track nD4 ⟨hz,its,k,rv,hb D _ (neC D mD) eD4⟩) J4.bare (fun b hb=>?_),rfl,q D nD4⟩
      have z:=f3 b hb
      exact⟨z.2.2.2.1,z.2.1,z.2.2.2.2.1,z.2.2.2.2.2⟩
    · refine thn (T.item (compCx X scope xs h3.objs.size { s2 with heap:=h3 } H2 (D::fp) (X.pn++pins)) rfl rfl rfl hc i _ s' _ H' (fun _ _=>False) Ip (stat fr one) st go) fun r s4 ⟨u,hr,h4⟩=>?_
      subst hr
      refine thn h4 fun _ s5 ⟨x,H5,I5,r5,y5,st5,fr5⟩=>?_
      have I5':=I5.pinned (stat fr5 one) (T.obj _ _ st5)
      refine thn (hg _ _ _ _ _ _ s5 _ H5 x u _ I5' r5 (step x H5 y5)) fun _ s6 ⟨σ6,H6,I6,⟨zs,hz6,hl6⟩,q6⟩=>?_
      have pinF:∀{s7:Shared} {σ7:St} {H7:Hp},Inv (compCx X scope xs h3.objs.size { s2 with heap:=h3 } H2 (D::fp) (X.pn++pins)) ([(D,{ cls:=.type "list",data:=.seq its.toArray k })]++pinsAt fp s5.heap) σ7 H7 s7→∀b∈fp,∀o,s5.heap.get? b=some o→s7.heap.get? b=some o∧H7 b=none:=fun I7 b hb o e=>
        ⟨(I7.pin (b,o) (List.mem_append_right _ (List.mem_append_right _ (mem_pinsAt hb e)))).1,(I7.pin (b,o) (List.mem_append_right _ (List.mem_append_right _ (mem_pinsAt hb e)))).2.1⟩
      have back:∀{H7:Hp} {s7:Shared},Inv (compCx X scope xs h3.objs.size { s2 with heap:=h3 } H2 (D::fp) (X.pn++pins)) [] σ6 H7 s7→Inv (compCx X scope xs h3.objs.size { s2 with heap:=h3 } H2 (D::fp) (X.pn++pins)) [] (σ++List.replicate xs.length none) H7 s7:=fun I8=>
        I8.weak (by rw[hz6,List.length_append,List.length_append,List.length_replicate,hl6]) (fun j v' e=>by
          have hj:j < σ.length:=by
            by_cases hj:j < σ.length
            · exact hj
            · rw[List.getElem?_append_right (by omega),List.getElem?_replicate]at e
              split at e <;>cases e
          rw[List.getElem?_append_left hj]at e
          rw[hz6,List.getElem?_append_left hj]
          exact e)
      refine thn (ht _ _ _ _ _ _ s6 σ6 H6 _ I6 q6) fun ok s6' ⟨H6',I6',q6'⟩=>?_
      cases ok with
      | false=>
        obtain⟨m',hm',w7⟩:=(show ∃m',m' < n∧W (i+1) m' ys H6' from q6')
        obtain⟨eD7,nD7,_⟩:=I6'.pin (D,{ cls:=.type "list",data:=.seq its.toArray k }) (List.mem_append_right _ (List.mem_append_left _ List.mem_cons_self))
        refine⟨m',hm',i+1,ys,its,_,H6',back (I6'.pins_of (pins':=[]) fun p hp=>by cases hp),eD7,rv,nD7,T.keep _ _ _ st5 (fun b hb o e=>(pinF I6' b hb o e).1),fun b hb=>?_,w7⟩
        obtain⟨o,e,_⟩:=T.obj _ _ st5 b hb
        exact(pinF I6' b hb o e).2
      | true=>
        refine thn (he _ _ _ _ _ _ s6' σ6 H6' _ I6' q6') fun xv s7 ⟨v,H7,I7,r7,m',hm',w7⟩=>?_
        obtain⟨eD7,nD7,_⟩:=I7.pin (D,{ cls:=.type "list",data:=.seq its.toArray k }) (List.mem_append_right _ (List.mem_append_left _ List.mem_cons_self))
        have len:=rv.length
        refine call_meets F.slot_list_append ⟨_,eD7,rfl⟩ F.entry_list_append (F.args_list_append_2 _ _) (PySem.list_append D its.toArray k xv (by rw[List.size_toArray];omega)) ⟨eD7,?_⟩
        have q:=PySem.IsL.update eD7 (fun a=>a.push xv)
        have other:∀b o,b≠D→s7.heap.get? b=some o→(s7.heap.update D (Obj.mapSeq fun a=>a.push xv)).get? b=some o:=fun b o hb e=>(Heap.get?_update_other s7.heap _ (Ne.symm hb)).trans e
        have I7':=I7.pins_of (pins':=[]) fun p hp=>by cases hp
        have I8:=I7'.turned (t':=s7.toks) (it:=D) other nD7 (neC D mD) (.inl mD) (okX.exf D mD).2 (fun p hp=>by
          rw[List.append_nil]at hp
          exact fD.2.2.2.2.2 p hp)
        have e9:its.toArray.push xv=(its++[xv]).toArray:=by simp
        rw[e9]at q
        refine⟨m',hm',i+1,ys++[v],its++[xv],_,H7,back I8,q,rv.append (.cons r7 .nil),nD7,T.keep _ _ _ st5 (fun b hb o e=>other b o (Nat.ne_of_lt (lt2 b hb)) (pinF I7 b hb o e).1),fun b hb=>?_,w7⟩
        obtain⟨o,e,_⟩:=T.obj _ _ st5 b hb
        exact(pinF I7 b hb o e).2
  exact codeAny_compStart_list loop (T.self _ 0 _ _ _ (T.keep _ _ _ st2 fun b _ o e=>k31 b o (k23 b o e)) loop)
end L2
namespace L2
open PySem PySem.Spec PyProof.Rows
theorem ps_setC{X:Cx}{i₀:Nat}{x₀:Str}{pos₀ pos₁:Pos}{elt target iter:Expr}{scope:Scope}{pos:Pos}{wi:TI}{g:TG}{te:TE}{xs:List Str}(hN:X.N.Nodup)(hi₀:X.N[i₀]? = some x₀)(hx₀:Loc X.env.scope x₀)(hc:X.calm=true)(ok:CompOk X.N X.env.scope scope)(hi:PI X target iter wi)
    (hg:∀C s H fp pn,PG (compCx X scope xs C s H fp pn) target g) (he:∀C s H fp pn,PE (compCx X scope xs C s H fp pn) elt te)
    (hs:∀x,foldedSetIterable iter X.env x=pure x:=by intro _;rfl) (hw:swapsWith (.ListComp elt [⟨target,iter,[],0⟩] scope pos) (some (.Name x₀ pos₀)) pos₁.line X.env=pure true:=by rfl)
    (hf₀:X.fn x₀=true∨X.env.scope.names.lookup x₀=some .local:=by first | exact .inl rfl | exact .inr rfl | assumption) :
    PS X (.Assign [.Name x₀ pos₀] (.ListComp elt [⟨target,iter,[],0⟩] scope pos) pos₁) (tAsg (tComp xs.length wi g te) (gName i₀)):=by
  intro pins s σ H D₀ I h
  rw[exec_Assign_Name_used _ _ _ _ hw]
  refine wpAny_bind (wpAny_standAt (wpAny_bind ?_))
  show wpAny _ _ (comprehension _ _ _ _ _ _ _ _ >>= _) _ _ _
  refine wpAny_bind (wpAny_comprehension_free (Q:=fun _ s'=>wpAny (model X.prog X.w) X.A (pure ()) (fun _ s''=>wpAny (model X.prog X.w) X.A (pure Flow.next) (SP X pins D₀) X.xe s'') X.xe s') (use:=some (assign (.Name x₀ pos₀) X.env)) rfl hs (clo_closure (comp_free I ok)) ok.kind ok.names (thn (hi pins s σ H _ I h) fun v s1 h1=>thn h1 fun itv s2 h2=>?_))
  obtain⟨it,fp,tn,J,H2,rfl,I2,T,st2,f2,W,⟨m0,w0⟩,turn⟩:=h2
  refine wpAny_newObj_type (newEnv_comp fun h₁ hns₁ hsb₁ hcl₁=>?_)
  dsimp only at hns₁ hsb₁ hcl₁ ⊢
  generalize hD:s2.heap.objs.size=D
  generalize hH3:s2.heap.push { cls:=.type "list",dict:=none,data:=.seq ([]:List Value).toArray }=h3 at hns₁ hsb₁ hcl₁ ⊢
  have k23:∀b o,s2.heap.get? b=some o→h3.get? b=some o:=fun b o e=>hH3▸Heap.get?_push_of_some _ e
  have hC:h3.objs.size=D+1:=by rw[← hH3,Heap.size_push,hD]
  have eD3:h3.get? D=some { cls:=.type "list",dict:=none,data:=.seq ([]:List Value).toArray }:=by
    rw[← hH3,← hD];exact Heap.get?_push_size _ rfl
  have I3:Inv X pins σ H2 { s2 with heap:=h3 }:=I2.kept (t':=s2.toks) k23
  have fD:FpOk X pins H2 D:=I2.fpOk (by omega) (I2.hok.fresh (by omega))
  have lt2:∀b∈fp,b < D:=fun b hb=>by
    obtain⟨o,e,_⟩:=T.obj 0 _ st2 b hb
    rw[← hD]
    exact Heap.lt_size e
  have f3:∀b∈D::fp,FpOk X pins H2 b:=fun b hb=>by
    rcases List.mem_cons.mp hb with rfl | hb
    · exact fD
    · exact f2 b hb
  have hx3:∀b∈D::fp,b < ({ s2 with heap:=h3 }:Shared).heap.objs.size:=fun b hb=>by
    show b < h3.objs.size
    rcases List.mem_cons.mp hb with rfl | hb
    · rw[hC];exact Nat.lt_succ_self _
    · rw[hC];exact Nat.lt_succ_of_lt (lt2 b hb)
  have k31:∀b o,h3.get? b=some o→h₁.get? b=some o:=hsb₁
  have okX:=comp_ok (C:=h3.objs.size) (xs:=xs) I3 ok f3 hx3 (Nat.le_refl _)
  have I4:=comp_start (C:=h3.objs.size) (xs:=xs) (t':=s2.toks+([]:List (Str × Value)).length) I3 ok f3 hx3 (Nat.le_refl _) hns₁ k31 hcl₁
  have mD:D∈D::fp:=List.mem_cons_self
  have neC:∀b∈D::fp,b≠h3.objs.size:=fun b hb=>(okX.exf b hb).1
  have stat:∀{H':Hp} {pl:List (Addr × Obj)},(∀b∈fp,H' b=none)→(∀p∈pl,p.1=D)→∀b∈fp,FpOk (compCx X scope xs h3.objs.size { s2 with heap:=h3 } H2 (D::fp) (X.pn++pins)) pl H' b:=fun hn hpl b hb=>by
    have hb':b∈D::fp:=List.mem_cons_of_mem _ hb
    refine⟨hn b hb,neC b hb',okX.exfs b hb',.inl hb',(okX.exf b hb').2,fun p hp=>?_⟩
    rcases List.mem_append.mp hp with hp | hp
    · exact(f2 b hb).2.2.2.2.2 p hp
    · rw[hpl p hp]
      exact Nat.ne_of_gt (lt2 b hb)
  have loop:codeAny (model X.prog X.w) X.A (.compLoop (.ListComp elt [⟨target,iter,[],0⟩] scope pos) 0 (.ref it) (.ref D) (compEnvC scope (cbOf X.env scope h3.objs.size) h3.objs.size X.env))
      (compPost (model X.prog X.w) X.A X.xe (some (assign (.Name x₀ pos₀) X.env)) (fun _ s'=>wpAny (model X.prog X.w) X.A (pure ()) (fun _ s''=>wpAny (model X.prog X.w) X.A (pure Flow.next) (SP X pins D₀) X.xe s'') X.xe s') (.ref D) h3.objs.size) { s2 with heap:=h₁,toks:=s2.toks+([]:List (Str × Value)).length }:=by
    refine compLoop_any (fun n s'=>∃i ys its k H',Inv (compCx X scope xs h3.objs.size { s2 with heap:=h3 } H2 (D::fp) (X.pn++pins)) [] (σ++List.replicate xs.length none) H' s'∧
      s'.heap.get? D=some { cls:=.type "list",data:=.seq (its:List Value).toArray k }∧Vals ys its∧H' D=none∧tn i s'.heap∧(∀b∈fp,H' b=none)∧W i n ys H') ?_ m0
      ⟨0,[],[],_,H2,I4,k31 _ _ eD3,.nil,fD.1,T.keep _ _ _ st2 (fun b _ o e=>k31 b o (k23 b o e)),fun b hb=>(f2 b hb).1,w0⟩
    rintro n s' ⟨i,ys,its,k,H',I',eD,rv,nD,st,fr,w⟩
    have Ip:=I'.pins_of (pins':=[(D,{ cls:=.type "list",data:=.seq its.toArray k })]) fun p hp=>by
      rw[List.mem_singleton]at hp
      subst hp
      exact⟨eD,nD,neC D mD,okX.exfs D mD,fun v z=>by cases z⟩
    have one:∀p∈[(D,({ cls:=.type "list",data:=.seq its.toArray k }:Obj))],p.1=D:=fun p hp=>by rw[List.mem_singleton]at hp;rw[hp]
    rcases turn i n ys H' w with ⟨stop,hz,q⟩ | ⟨go,hz,step⟩
    · refine thn (T.done (compCx X scope xs h3.objs.size { s2 with heap:=h3 } H2 (D::fp) (X.pn++pins)) rfl rfl rfl hc i _ s' _ H' (fun _ _=>False) Ip (stat fr one) st stop) fun r s4 ⟨hr,J4⟩=>?_
      subst hr
      obtain⟨mm,hnm,_⟩:=J4.loc
      obtain⟨eD4,nD4,_⟩:=J4.pin (D,{ cls:=.type "list",data:=.seq its.toArray k }) (List.mem_append_right _ List.mem_cons_self)
      have u0:Un (frs X.stack) (D::fp) H2 H' h3 s4.heap:=J4.base
      have u:Un (frs X.stack) (D::fp) H2 H' s2.heap s4.heap:=(Un.kept k23).trans u0
      have os4:s4.os=s2.os:=J4.os
      have nC4:H' h3.objs.size=none:=J4.free
      have IX:Inv X pins σ (upd H' D (.lst ys)) s4:=I2.call' (s':=s4) (ch:=D::fp) os4 (u.track (by omega) nD4) (J4.hok.track nD4 ⟨hz,its,k,rv,eD4⟩) J4.bare (fun b hb=>by
        have z:=f3 b hb
        exact⟨z.2.2.2.1,z.2.1,z.2.2.2.2.1,z.2.2.2.2.2⟩)
      have fC:FpOk X pins H2 h3.objs.size:=I2.fpOk (by omega) (I2.hok.fresh (by omega))
      have nCX:upd H' D (.lst ys) h3.objs.size=none:=by rw[upd_ne (Ne.symm (neC D mD))];exact nC4
      refine wpAny_assign_Name (store_ok2 IX hN hi₀ hx₀ (v:=.ref D) rfl (fun s5 I5 ⟨a5,sb5,ha5⟩=>⟨mm,?_,fun h' sb=>?_⟩) hf₀)
      · have:h3.objs.size≠a5:=by
          rcases ha5 with e | e
          · rw[e];exact fC.2.1
          · exact Ne.symm (fC.2.2.2.2.1 x₀ a5 e)
        obtain⟨o,es,ep,e,r⟩:=hnm
        exact⟨o,es,ep,sb5.extBut _ _ this e,r⟩
      · have I6:Inv X pins (σ.set i₀ (some (.ref D))) (upd H' D (.lst ys)) { s5 with heap:=h' }:=I5.turned (t':=s5.toks) (it:=h3.objs.size) (fun b o hb e=>sb.extBut b o hb e) nCX fC.2.1 fC.2.2.2.1 fC.2.2.2.2.1 fC.2.2.2.2.2
        exact wpAny_pure (wpAny_pure ⟨_,_,I6,q D nD4⟩)
    · refine thn (T.item (compCx X scope xs h3.objs.size { s2 with heap:=h3 } H2 (D::fp) (X.pn++pins)) rfl rfl rfl hc i _ s' _ H' (fun _ _=>False) Ip (stat fr one) st go) fun r s4 ⟨u,hr,h4⟩=>?_
      subst hr
      refine thn h4 fun _ s5 ⟨x,H5,I5,r5,y5,st5,fr5⟩=>?_
      have I5':=I5.pinned (stat fr5 one) (T.obj _ _ st5)
      refine thn (hg _ _ _ _ _ _ s5 _ H5 x u _ I5' r5 (step x H5 y5)) fun _ s6 ⟨σ6,H6,I6,⟨zs,hz6,hl6⟩,q6⟩=>?_
      refine thn (he _ _ _ _ _ _ s6 σ6 H6 _ I6 q6) fun xv s7 ⟨v,H7,I7,r7,m',hm',w7⟩=>?_
      obtain⟨eD7,nD7,_⟩:=I7.pin (D,{ cls:=.type "list",data:=.seq its.toArray k }) (List.mem_append_right _ (List.mem_append_left _ List.mem_cons_self))
      have len:=rv.length
      refine call_meets F.slot_list_append ⟨_,eD7,rfl⟩ F.entry_list_append (F.args_list_append_2 _ _) (PySem.list_append D its.toArray k xv (by rw[List.size_toArray];omega)) ⟨eD7,?_⟩
      have q:=PySem.IsL.update eD7 (fun a=>a.push xv)
      have other:∀b o,b≠D→s7.heap.get? b=some o→(s7.heap.update D (Obj.mapSeq fun a=>a.push xv)).get? b=some o:=fun b o hb e=>(Heap.get?_update_other s7.heap _ (Ne.symm hb)).trans e
      have pinF:∀b∈fp,∀o,s5.heap.get? b=some o→s7.heap.get? b=some o∧H7 b=none:=fun b hb o e=>
        ⟨(I7.pin (b,o) (List.mem_append_right _ (List.mem_append_right _ (mem_pinsAt hb e)))).1,(I7.pin (b,o) (List.mem_append_right _ (List.mem_append_right _ (mem_pinsAt hb e)))).2.1⟩
      have I7':=I7.pins_of (pins':=[]) fun p hp=>by cases hp
      have I8:=I7'.turned (t':=s7.toks) (it:=D) other nD7 (neC D mD) (.inl mD) (okX.exf D mD).2 (fun p hp=>by
        rw[List.append_nil]at hp
        exact fD.2.2.2.2.2 p hp)
      have I9:=I8.weak (σ':=σ++List.replicate xs.length none) (by rw[hz6,List.length_append,List.length_append,List.length_replicate,hl6]) (fun j v' e=>by
        have hj:j < σ.length:=by
          by_cases hj:j < σ.length
          · exact hj
          · rw[List.getElem?_append_right (by omega),List.getElem?_replicate]at e
            split at e <;>cases e
        rw[List.getElem?_append_left hj]at e
        rw[hz6,List.getElem?_append_left hj]
        exact e)
      have e9:its.toArray.push xv=(its++[xv]).toArray:=by simp
      rw[e9]at q
      refine⟨m',hm',i+1,ys++[v],its++[xv],_,H7,I9,q,rv.append (.cons r7 .nil),nD7,T.keep _ _ _ st5 (fun b hb o e=>other b o (Nat.ne_of_lt (lt2 b hb)) (pinF b hb o e).1),fun b hb=>?_,w7⟩
      obtain⟨o,e,_⟩:=T.obj _ _ st5 b hb
      exact(pinF b hb o e).2
  exact codeAny_compStart_list loop (T.self _ 0 _ _ _ (T.keep _ _ _ st2 fun b _ o e=>k31 b o (k23 b o e)) loop)
end L2
namespace L2
open PySem PySem.Spec PyProof.Rows
section
variable{prog:Program}{w:World}{A:Around}{E:Value→Shared→Prop}{s:Shared}
theorem nextT_item{I t:Addr}{i:Nat}{vs:Array Value}{x:Value}{Q:Value→Shared→Prop}(hI:s.heap.IsTupleIter I t i)(ht:s.heap.IsTuple t vs)(e:vs[i]? = some x)
    (q:∀h',h'.IsTupleIter I t (i+1)→Heap.SameBut I s.heap h'→Q x { s with heap:=h' }):wpAny (model prog w) A (Builtin.SmallTypes.nextOf (.ref I)) Q E s:=by
  obtain⟨o,eo,co,fo⟩:=id hI;obtain⟨u,eu,_,n,fu⟩:=ht;unfold Builtin.SmallTypes.nextOf
  refine wpAny_bind (wpAny_callSpecial?_slot (name:=Str.ofString "__next__") hI.typeIs F.slot_tuple_iterator_next (wpAny_call_entry F.slot_tuple_iterator_next hI.typeIs F.entry_tuple_iterator_next ?_ (F.args_tuple_iterator_next_1 _)))
  show wpAny _ _ (field (.ref I) 0 >>= _) _ _ s
  refine wpAny_bind (wpAny_field eo fo (x:=.ref t) rfl ?_);show wpAny _ _ (if(Value.ref t == Value.none)=true then _ else _) _ _ s
  rw[if_neg (show ¬((Value.ref t == Value.none)=true)from Bool.false_ne_true)];show wpAny _ _ (field (.ref I) 1 >>= _) _ _ s
  refine wpAny_bind (wpAny_field eo fo (x:=.int i 0) rfl ?_);show wpAny _ _ (seqItems? (.ref t) >>= _) _ _ s
  refine wpAny_bind (wpAny_seqItems eu fu ?_);simp only[Int.toNat_natCast,e]
  refine wpAny_bind (wpAny_setField eo fo (by simp) (wpAny_pure ⟨x,rfl,wpAny_pure (q _ ?_ (Heap.SameBut.update ..))⟩))
  exact⟨_,Heap.get?_update_self _ eo (Obj.isFreed_of_fields (Obj.data_mapFields fo _)),(Obj.cls_mapFields ..).trans co,by rw[Obj.data_mapFields fo];simp[rawInt]⟩
theorem nextT_end{I t:Addr}{i:Nat}{vs:Array Value}{Q:Value→Shared→Prop}(hh:A.handled=none)(hI:s.heap.IsTupleIter I t i)(ht:s.heap.IsTuple t vs)(e:vs[i]? = none)
    (q:∀h' x,Heap.ExtBut I s.heap h'→(∃o,h'.get? x=some o∧o.cls=.type "StopIteration")→E (.ref x) { s with heap:=h' }):wpAny (model prog w) A (Builtin.SmallTypes.nextOf (.ref I)) Q E s:=by
  obtain⟨o,eo,co,fo⟩:=id hI;obtain⟨u,eu,_,n,fu⟩:=ht;unfold Builtin.SmallTypes.nextOf
  refine wpAny_bind (wpAny_callSpecial?_slot (name:=Str.ofString "__next__") hI.typeIs F.slot_tuple_iterator_next (wpAny_call_entry F.slot_tuple_iterator_next hI.typeIs F.entry_tuple_iterator_next ?_ (F.args_tuple_iterator_next_1 _)))
  show wpAny _ _ (field (.ref I) 0 >>= _) _ _ s
  refine wpAny_bind (wpAny_field eo fo (x:=.ref t) rfl ?_);show wpAny _ _ (if(Value.ref t == Value.none)=true then _ else _) _ _ s
  rw[if_neg (show ¬((Value.ref t == Value.none)=true)from Bool.false_ne_true)];show wpAny _ _ (field (.ref I) 1 >>= _) _ _ s
  refine wpAny_bind (wpAny_field eo fo (x:=.int i 0) rfl ?_);show wpAny _ _ (seqItems? (.ref t) >>= _) _ _ s
  refine wpAny_bind (wpAny_seqItems eu fu ?_);simp only[Int.toNat_natCast,e]
  refine wpAny_bind (wpAny_rule (wpAny_bind (wpAny_setField eo fo (by simp) ?_)));show wpAny _ _ (newExc (.type "StopIteration") [] >>= _) _ _ _
  refine wpAny_bind ?_;simp only[newExc,newTuple]
  refine wpAny_bind (wpAny_newObj_type ?_ (by size_fits));refine wpAny_bind (m:=firstArgMember _ _) (wpAny_of_eq (a:=Value.none) (by first | rfl | (simp only[firstArgMember];rfl)) ?_)
  refine wpAny_newObj_type ?_ (by size_fits);simp only[raiseNew];refine wpAny_bind (wpAny_handled ?_)
  first | rw[show A.in1.handled=none from hh] | rw[hh]
  refine wpAny_bind (wpAny_pure (wpAny_throw ?_));exact q _ _ (((Heap.SameBut.update ..).extBut.push _).push _) ⟨_,Heap.get?_push_size _ rfl,rfl⟩
end
inductive Sr
  | lst (a:Addr)
  | tup (a:Addr)
  | str (x:Str)
def Sr.it:Sr→Heap→Addr→Nat→Prop
  | .lst a,h,I,i=>h.IsListIter I a i
  | .tup a,h,I,i=>h.IsTupleIter I a i
  | .str x,h,I,i=>∃t,h.IsStrIter I (strIterType x) x t i
def Sr.has:Sr→Heap→Array Value→Prop
  | .lst a,h,vs=>h.IsList a vs
  | .tup a,h,vs=>h.IsTuple a vs
  | .str x,_,vs=>vs.size=x.cps.size
def Sr.is:Sr→Array Value→Nat→Value→Prop
  | .lst _,vs,i,v=>vs[i]? = some v
  | .tup _,vs,i,v=>vs[i]? = some v
  | .str x,_,i,v=>∃c u,x.cps[i]? = some c∧v=.str ⟨#[c]⟩ u
def Sr.fp:Sr→Addr→List Addr
  | .lst a,I=>[I,a]
  | .tup a,I=>[I,a]
  | .str _,I=>[I]
def Sr.off:Sr→Addr→Prop
  | .lst a,I=>a≠I
  | .tup a,I=>a≠I
  | .str _,_=>True
theorem Sr.it.mv{S:Sr}{h h':Heap}{I:Addr}{i:Nat}(x:S.it h I i)(k:∀o,h.get? I=some o→h'.get? I=some o):S.it h' I i:=by
  cases S with
  | lst a=>obtain⟨o,e,r⟩:=x;exact⟨o,k o e,r⟩
  | tup a=>obtain⟨o,e,r⟩:=x;exact⟨o,k o e,r⟩
  | str z=>obtain⟨t,o,e,r⟩:=x;exact⟨t,o,k o e,r⟩
theorem Sr.it.obj{S:Sr}{h:Heap}{I:Addr}{i:Nat}(x:S.it h I i):∃o,h.get? I=some o∧∀v,o.data≠.cell v:=by
  cases S with
  | lst a=>obtain⟨o,e,_,d⟩:=x;exact⟨o,e,fun v z=>by rw[d]at z;cases z⟩
  | tup a=>obtain⟨o,e,_,d⟩:=x;exact⟨o,e,fun v z=>by rw[d]at z;cases z⟩
  | str z=>obtain⟨t,o,e,_,d⟩:=x;exact⟨o,e,fun v z=>by rw[d]at z;cases z⟩
theorem Sr.has.mv{S:Sr}{h h':Heap}{vs:Array Value}{I:Addr}(x:S.has h vs)(k:∀b o,b≠I→h.get? b=some o→h'.get? b=some o)(off:S.off I):S.has h' vs:=by
  cases S with
  | lst a=>obtain⟨o,e,r⟩:=x;exact⟨o,k a o off e,r⟩
  | tup a=>obtain⟨o,e,r⟩:=x;exact⟨o,k a o off e,r⟩
  | str z=>exact x
theorem Sr.draws{prog:Program}{w:World}{A:Around}(S:Sr)(hh:A.handled=none)(I:Addr)(off:S.off I)(vs:Array Value) :
    Draws prog w A I (S.fp I) vs.size (S.is vs) (fun i h=>S.it h I i∧S.has h vs):=by
  cases S with
  | lst a=>exact Draws.list hh I a off vs
  | tup a=>exact{
      live:=fun _ _ st=>let⟨o,e,_⟩:=st.1;⟨o,e⟩
      frame:=fun _ _ _ st k=>⟨let⟨o,e,r⟩:=st.1;⟨o,k I (by simp[Sr.fp]) o e,r⟩,let⟨o,e,r⟩:=st.2;⟨o,k a (by simp[Sr.fp]) o e,r⟩⟩
      item:=fun i s Q E hi st q=>nextT_item st.1 st.2 (x:=vs[i]) (by simp[hi]) fun h' a' b'=>q _ h' s.toks (show vs[i]? = some vs[i] by simp[hi]) ⟨a',Heap.IsTuple.extBut st.2 b'.extBut off⟩ b'
      done:=fun s Q E st q=>nextT_end hh st.1 st.2 (by simp) q }
  | str x=>
    cases ha:x.cps.all (· < 128)with
    | true=>
      have e:strIterType x="str_ascii_iterator":=by simp[strIterType,ha]
      exact{
        live:=fun _ _ st=>let⟨_,o,e,_⟩:=st.1;⟨o,e⟩
        frame:=fun _ _ _ st k=>⟨let⟨t,o,e,r⟩:=st.1;⟨t,o,k I (by simp[Sr.fp]) o e,r⟩,st.2⟩
        item:=fun i s Q E hi st q=>by
          obtain⟨⟨t,g⟩,z⟩:=st
          have hz:vs.size=x.cps.size:=z
          rw[e]at g
          exact(Draws.strAscii (prog:=prog) (w:=w) hh I x t).item i s Q E (by omega) g fun v h' tk p st' sb=>q v h' tk p ⟨⟨t,by rw[e];exact st'⟩,z⟩ sb
        done:=fun s Q E st q=>by
          obtain⟨⟨t,g⟩,z⟩:=st
          have hz:vs.size=x.cps.size:=z
          rw[e,hz]at g
          exact(Draws.strAscii (prog:=prog) (w:=w) hh I x t).done s Q E g q }
    | false=>
      have e:strIterType x="str_iterator":=by simp[strIterType,ha]
      exact{
        live:=fun _ _ st=>let⟨_,o,e,_⟩:=st.1;⟨o,e⟩
        frame:=fun _ _ _ st k=>⟨let⟨t,o,e,r⟩:=st.1;⟨t,o,k I (by simp[Sr.fp]) o e,r⟩,st.2⟩
        item:=fun i s Q E hi st q=>by
          obtain⟨⟨t,g⟩,z⟩:=st
          have hz:vs.size=x.cps.size:=z
          rw[e]at g
          exact(Draws.strWide (prog:=prog) (w:=w) hh I x t).item i s Q E (by omega) g fun v h' tk p st' sb=>q v h' tk p ⟨⟨t,by rw[e];exact st'⟩,z⟩ sb
        done:=fun s Q E st q=>by
          obtain⟨⟨t,g⟩,z⟩:=st
          have hz:vs.size=x.cps.size:=z
          rw[e,hz]at g
          exact(Draws.strWide (prog:=prog) (w:=w) hh I x t).done s Q E g q }
end L2
namespace L2
open PySem PySem.Spec PyProof.Rows
structure ZA(S1 S2:Sr)(z TI TO i1 i2:Addr):Prop where
  a:TI≠z
  b:TO≠z
  c:i1≠z
  d:i2≠z
  e:TI≠TO
  f:TI≠i1
  g:TI≠i2
  h:TO≠i1
  i:TO≠i2
  j:i1≠i2
  k:∀x∈[z,TO,i1,i2],S1.off x∧S2.off x
structure ZS(S1 S2:Sr)(v1 v2:Array Value)(z TI TO i1 i2:Addr)(n:Nat)(u:Value)(h:Heap):Prop where
  z:IsZip h z TI TO u
  ti:IsPair h TI (.ref i1) (.ref i2)
  to:∃x y,IsPair h TO x y
  s1:S1.it h i1 n
  s2:S2.it h i2 n
  h1:S1.has h v1
  h2:S2.has h v2
section
variable{prog:Program}{w:World}{A:Around}{E:Value→Shared→Prop}{s:Shared}{S1 S2:Sr}{v1 v2:Array Value}{z TI TO i1 i2:Addr}{n:Nat}
theorem zip_item(D:ZA S1 S2 z TI TO i1 i2)(hh:A.handled=none)(Z:ZS S1 S2 v1 v2 z TI TO i1 i2 n .none s.heap)(l1:n < v1.size)(l2:n < v2.size){Q:Value→Shared→Prop}
    (q:∀x y h' tk,S1.is v1 n x→S2.is v2 n y→ZS S1 S2 v1 v2 z TI TO i1 i2 (n+1) (rawInt s.heap.objs.size) h'→IsPair h' s.heap.objs.size x y→h'.objs.size=s.heap.objs.size+1→
      (∀c o,c≠z→c≠TO→c≠i1→c≠i2→s.heap.get? c=some o→h'.get? c=some o)→Q (.ref s.heap.objs.size) { s with heap:=h',toks:=tk }) :
    wpAny (model prog w) A (Builtin.«zip.__next__» ⟨[.ref z],[]⟩) (fun fin s'=>∃v,fin=.done (.ret v)∧Q v s') E s:=by
  obtain⟨hp,g0,d0,tk0,os0⟩:=s
  obtain⟨Zz,Zi,⟨x0,y0,Zo⟩,Z1,Z2,Y1,Y2⟩:=Z
  have oz:=D.k z (by simp);have oT:=D.k TO (by simp);have o1:=D.k i1 (by simp);have o2:=D.k i2 (by simp)
  show wpAny _ _ (field (.ref z) 2 >>= _) _ _ _
  refine wpAny_bind (wpAny_field Zz rfl (x:=.bool false) rfl ?_);show wpAny _ _ (field (.ref z) 3 >>= _) _ _ _
  refine wpAny_bind (wpAny_field Zz rfl (x:=.ref TI) rfl ?_);refine wpAny_bind (wpAny_seqItems Zi rfl ?_)
  show wpAny _ _ (Builtin.SmallTypes.ownedTupleIsFree (.ref z) >>= _) _ _ _
  refine wpAny_bind ?_;unfold Builtin.SmallTypes.ownedTupleIsFree
  refine wpAny_bind (wpAny_field Zz rfl (x:=.none) rfl (wpAny_pure ?_));simp only[if_true];refine wpAny_bind (wpAny_rule ?_)
  refine wpAny_bind (wpAny_field Zz rfl (x:=.ref TO) rfl ?_)
  refine wpAny_bind (wpAny_setField_rec Zz (by simp) fun g1 Za b1=>?_)
  replace Za:IsZip g1 z TI TO .ellipsis:=Za
  replace b1:Heap.SameBut z hp g1:=b1
  refine wpAny_bind ?_;simp only[List.zipIdx_cons,List.zipIdx_nil,List.forIn_cons,List.forIn_nil]
  refine wpAny_bind (wpAny_bind (wpAny_onRaise ?_));show wpAny _ _ (Builtin.SmallTypes.nextOf (.ref i1) >>= _) _ _ _
  refine wpAny_bind ((S1.draws hh i1 o1.1 v1).item n _ _ _ l1 ⟨Z1.mv fun o e=>b1.extBut _ _ D.c e,Y1.mv (fun b o hb e=>b1.extBut _ _ hb e) oz.1⟩ fun x g2 k2 px st2 b2=>wpAny_pure ?_)
  replace b2:Heap.SameBut i1 g1 g2:=b2
  have To2:IsPair g2 TO x0 y0:=b2.extBut _ _ D.h (b1.extBut _ _ D.b Zo)
  refine wpAny_bind (wpAny_seqItems To2 rfl ?_);refine wpAny_bind (wpAny_updateSeq_pair To2 fun g3 To3 b3=>?_)
  replace To3:IsPair g3 TO x y0:=To3
  replace b3:Heap.SameBut TO g2 g3:=b3
  refine wpAny_bind (wpAny_letGo (wpAny_pure ?_))
  refine wpAny_bind (wpAny_bind (wpAny_onRaise ?_));show wpAny _ _ (Builtin.SmallTypes.nextOf (.ref i2) >>= _) _ _ _
  refine wpAny_bind ((S2.draws hh i2 o2.2 v2).item n _ _ _ l2 ⟨Z2.mv fun o e=>b3.extBut _ _ D.i.symm (b2.extBut _ _ D.j.symm (b1.extBut _ _ D.d e)),
    ((Y2.mv (fun b o hb e=>b1.extBut _ _ hb e) oz.2).mv (fun b o hb e=>b2.extBut _ _ hb e) o1.2).mv (fun b o hb e=>b3.extBut _ _ hb e) oT.2⟩ fun y g4 k4 py st4 b4=>wpAny_pure ?_)
  replace b4:Heap.SameBut i2 g3 g4:=b4
  have To4:IsPair g4 TO x y0:=b4.extBut _ _ D.i To3
  refine wpAny_bind (wpAny_seqItems To4 rfl ?_);refine wpAny_bind (wpAny_updateSeq_pair To4 fun g5 To5 b5=>?_)
  replace To5:IsPair g5 TO x y:=To5
  replace b5:Heap.SameBut TO g4 g5:=b5
  refine wpAny_bind (wpAny_letGo (wpAny_pure (wpAny_pure ?_)))
  refine wpAny_bind (wpAny_seqItems To5 rfl ?_);refine wpAny_bind (wpAny_newTuple ?_)
  have sz:g5.objs.size=hp.objs.size:=by rw[b5.1,b4.1,b3.1,b2.1,b1.1]
  have Z5:IsZip g5 z TI TO .ellipsis:=b5.extBut _ _ D.b.symm (b4.extBut _ _ D.d.symm (b3.extBut _ _ D.b.symm (b2.extBut _ _ D.c.symm Za)))
  have up5:∀c o,c≠z→c≠TO→c≠i1→c≠i2→hp.get? c=some o→g5.get? c=some o:=fun c o n1 n2 n3 n4 e=>b5.extBut _ _ n2 (b4.extBut _ _ n4 (b3.extBut _ _ n2 (b2.extBut _ _ n3 (b1.extBut _ _ n1 e))))
  have I1:S1.it g5 i1 (n+1):=st2.1.mv fun o e=>b5.extBut _ _ D.h.symm (b4.extBut _ _ D.j (b3.extBut _ _ D.h.symm e))
  have I2:S2.it g5 i2 (n+1):=st4.1.mv fun o e=>b5.extBut _ _ D.i.symm e
  have H1:S1.has g5 v1:=((st2.2.mv (fun b o hb e=>b3.extBut _ _ hb e) oT.1).mv (fun b o hb e=>b4.extBut _ _ hb e) o2.1).mv (fun b o hb e=>b5.extBut _ _ hb e) oT.1
  have H2:S2.has g5 v2:=st4.2.mv (fun b o hb e=>b5.extBut _ _ hb e) oT.2
  have zlt:z < g5.objs.size:=Heap.lt_size Z5
  show wpAny _ _ (Builtin.SmallTypes.ownedTupleHandOut (.ref z) (.ref g5.objs.size) >>= _) _ _ _
  refine wpAny_bind ?_;unfold Builtin.SmallTypes.ownedTupleHandOut
  have Z6:IsZip (g5.push { cls:=.type "tuple",data:=.seq #[x,y] }) z TI TO .ellipsis:=Heap.get?_push_of_some _ Z5
  refine wpAny_bind (wpAny_setField_rec Z6 (by simp) fun g7 Z7 b7=>?_)
  replace Z7:IsZip g7 z TI TO (rawInt g5.objs.size):=Z7
  refine wpAny_setField_rec Z7 (by simp) fun g8 Z8 b8=>?_
  replace Z8:IsZip g8 z TI TO (rawInt g5.objs.size):=Z8
  have up:∀c o,c≠z→g5.get? c=some o→g8.get? c=some o:=fun c o n1 e=>b8.extBut _ _ n1 (b7.extBut _ _ n1 (Heap.get?_push_of_some _ e))
  have T8:IsPair g8 g5.objs.size x y:=b8.extBut _ _ (Nat.ne_of_gt zlt) (b7.extBut _ _ (Nat.ne_of_gt zlt) (Heap.get?_push_size _ rfl))
  have sz8:g8.objs.size=g5.objs.size+1:=by rw[b8.1,b7.1,Heap.size_push]
  rw[sz]at Z8 T8 sz8
  refine wpAny_pure ⟨_,rfl,?_⟩
  show Q (.ref g5.objs.size) _
  rw[sz]
  exact q x y g8 k4 px py ⟨Z8,up _ _ D.a (up5 _ _ D.a D.e D.f D.g Zi),⟨_,_,up _ _ D.b To5⟩,I1.mv fun o e=>up _ o D.c e,I2.mv fun o e=>up _ o D.d e,
    H1.mv (fun b o hb e=>up b o hb e) oz.1,H2.mv (fun b o hb e=>up b o hb e) oz.2⟩ T8 sz8 fun c o n1 n2 n3 n4 e=>up c o n1 (up5 c o n1 n2 n3 n4 e)
theorem zip_end(D:ZA S1 S2 z TI TO i1 i2)(hh:A.handled=none)(Z:ZS S1 S2 v1 v2 z TI TO i1 i2 n .none s.heap)(l:n=v1.size∨(n < v1.size∧n=v2.size)){Q:Fin→Shared→Prop}
    (q:∀h' x tk,(∀c o,c≠z→c≠TO→c≠i1→c≠i2→s.heap.get? c=some o→h'.get? c=some o)→(∃o,h'.get? x=some o∧o.cls=.type "StopIteration")→E (.ref x) { s with heap:=h',toks:=tk }) :
    wpAny (model prog w) A (Builtin.«zip.__next__» ⟨[.ref z],[]⟩) Q E s:=by
  obtain⟨hp,g0,d0,tk0,os0⟩:=s
  obtain⟨Zz,Zi,⟨x0,y0,Zo⟩,Z1,Z2,Y1,Y2⟩:=Z
  have oz:=D.k z (by simp);have oT:=D.k TO (by simp);have o1:=D.k i1 (by simp);have o2:=D.k i2 (by simp)
  show wpAny _ _ (field (.ref z) 2 >>= _) _ _ _
  refine wpAny_bind (wpAny_field Zz rfl (x:=.bool false) rfl ?_);show wpAny _ _ (field (.ref z) 3 >>= _) _ _ _
  refine wpAny_bind (wpAny_field Zz rfl (x:=.ref TI) rfl ?_);refine wpAny_bind (wpAny_seqItems Zi rfl ?_)
  show wpAny _ _ (Builtin.SmallTypes.ownedTupleIsFree (.ref z) >>= _) _ _ _
  refine wpAny_bind ?_;unfold Builtin.SmallTypes.ownedTupleIsFree
  refine wpAny_bind (wpAny_field Zz rfl (x:=.none) rfl (wpAny_pure ?_));simp only[if_true];refine wpAny_bind (wpAny_rule ?_)
  refine wpAny_bind (wpAny_field Zz rfl (x:=.ref TO) rfl ?_)
  refine wpAny_bind (wpAny_setField_rec Zz (by simp) fun g1 Za b1=>?_)
  replace Za:IsZip g1 z TI TO .ellipsis:=Za
  replace b1:Heap.SameBut z hp g1:=b1
  refine wpAny_bind ?_;simp only[List.zipIdx_cons,List.zipIdx_nil,List.forIn_cons,List.forIn_nil]
  have W1:S1.it g1 i1 n∧S1.has g1 v1:=⟨Z1.mv fun o e=>b1.extBut _ _ D.c e,Y1.mv (fun b o hb e=>b1.extBut _ _ hb e) oz.1⟩
  refine wpAny_bind (wpAny_bind (wpAny_onRaise ?_));show wpAny _ _ (Builtin.SmallTypes.nextOf (.ref i1) >>= _) _ _ _
  rcases l with l | ⟨l1,l2⟩
  · refine wpAny_bind ((S1.draws hh i1 o1.1 v1).done _ _ _ (l▸W1) fun g2 x b2 ⟨ox,ex,cx⟩=>?_)
    have Zb:IsZip g2 z TI TO .ellipsis:=b2 _ _ D.c.symm Za
    have xz:x≠z:=fun e=>by subst e;rw[Zb]at ex;cases ex;simp at cx
    refine wpAny_setField_rec Zb (by simp) fun g3 _ b3=>q g3 x tk0 (fun c o n1 _ n3 _ e=>b3.extBut _ _ n1 (b2 _ _ n3 (b1.extBut _ _ n1 e))) ⟨ox,b3.extBut _ _ xz ex,cx⟩
  · refine wpAny_bind ((S1.draws hh i1 o1.1 v1).item n _ _ _ l1 W1 fun x g2 k2 px st2 b2=>wpAny_pure ?_)
    replace b2:Heap.SameBut i1 g1 g2:=b2
    have To2:IsPair g2 TO x0 y0:=b2.extBut _ _ D.h (b1.extBut _ _ D.b Zo)
    refine wpAny_bind (wpAny_seqItems To2 rfl ?_);refine wpAny_bind (wpAny_updateSeq_pair To2 fun g3 To3 b3=>?_)
    replace b3:Heap.SameBut TO g2 g3:=b3
    refine wpAny_bind (wpAny_letGo (wpAny_pure ?_));refine wpAny_bind (wpAny_bind (wpAny_onRaise ?_));show wpAny _ _ (Builtin.SmallTypes.nextOf (.ref i2) >>= _) _ _ _
    refine wpAny_bind ((S2.draws hh i2 o2.2 v2).done _ _ _ (l2▸⟨Z2.mv fun o e=>b3.extBut _ _ D.i.symm (b2.extBut _ _ D.j.symm (b1.extBut _ _ D.d e)),
      ((Y2.mv (fun b o hb e=>b1.extBut _ _ hb e) oz.2).mv (fun b o hb e=>b2.extBut _ _ hb e) o1.2).mv (fun b o hb e=>b3.extBut _ _ hb e) oT.2⟩) fun g4 x' b4 ⟨ox,ex,cx⟩=>?_)
    have Zb:IsZip g4 z TI TO .ellipsis:=b4 _ _ D.d.symm (b3.extBut _ _ D.b.symm (b2.extBut _ _ D.c.symm Za))
    have xz:x'≠z:=fun e=>by subst e;rw[Zb]at ex;cases ex;simp at cx
    refine wpAny_setField_rec Zb (by simp) fun g5 _ b5=>q g5 x' k2 (fun c o n1 n2 n3 n4 e=>b5.extBut _ _ n1 (b4 _ _ n4 (b3.extBut _ _ n2 (b2.extBut _ _ n3 (b1.extBut _ _ n1 e))))) ⟨ox,b5.extBut _ _ xz ex,cx⟩
end
def Begins(h:Heap)(v:Value)(o:Obj):Prop:=∀(prog:Program) (w:World) (A:Around) (E:Value→Shared→Prop) (s:Shared) (Q:Value→Shared→Prop),(∀b u,h.get? b=some u→s.heap.get? b=some u)→
  Q (.ref s.heap.objs.size) { s with heap:=s.heap.push o }→wpAny (model prog w) A (pyIter v) Q E s
def Sr.val:Sr→Value→Prop
  | .lst a,v=>v=.ref a
  | .tup a,v=>v=.ref a
  | .str x,v=>∃t,v=.str x t
theorem Sr.begins{S:Sr}{h:Heap}{v:Value}{vs:Array Value}(e:S.val v)(x:S.has h vs):∃o:Obj,Begins h v o∧o.isFreed=false∧∀(h':Heap) (I:Addr),h'.get? I=some o→S.it h' I 0:=by
  cases S with
  | lst a=>
    cases (show v=.ref a from e)
    exact⟨_,fun _ _ _ _ s Q k q=>wpAny_pyIter_list (let⟨o,e,r⟩:=x;⟨o,k a o e,r⟩) q,rfl,fun h' I e=>⟨_,e,rfl,rfl⟩⟩
  | tup a=>
    cases (show v=.ref a from e)
    exact⟨_,fun _ _ _ _ s Q k q=>wpAny_pyIter_tuple (let⟨o,e,r⟩:=x;⟨o,k a o e,r⟩) q,rfl,fun h' I e=>⟨_,e,rfl,rfl⟩⟩
  | str z=>
    obtain⟨t,rfl⟩:=(show ∃t,v=.str z t from e)
    exact⟨_,fun _ _ _ _ s Q k q=>wpAny_pyIter_strU q,rfl,fun h' I e=>⟨t,_,e,rfl,rfl⟩⟩
abbrev zh2(h:Heap)(o1 o2:Obj):Heap:=(h.push o1).push o2
abbrev zh3(h:Heap)(o1 o2:Obj):Heap:=(zh2 h o1 o2).push { cls:=.type "tuple",data:=.seq #[.ref h.objs.size,.ref (h.push o1).objs.size] }
abbrev zh4(h:Heap)(o1 o2:Obj):Heap:=(zh3 h o1 o2).push { cls:=.type "tuple",data:=.seq #[.none,.none] }
abbrev zh5(h:Heap)(o1 o2:Obj):Heap:=(zh4 h o1 o2).push { cls:=.type "zip",data:=.fields #[.none,.bool false,.bool false,.ref (zh2 h o1 o2).objs.size,.ref (zh3 h o1 o2).objs.size] }
theorem zip_new(a b:Value)(o1 o2:Obj):Meets (Builtin.«zip.__new__» ⟨[.type "zip",a,b],[]⟩) (fun _ R s=>Begins s.heap a o1∧Begins s.heap b o2∧
      R (.ok (.ret (.ref (zh4 s.heap o1 o2).objs.size))) { s with heap:=zh5 s.heap o1 o2 }):=
  .of_wp fun prog w A R s h=>by
    obtain⟨hp,g,d,tk,os⟩:=s;obtain⟨h1,h2,h⟩:=h
    have hsub:=sub_zip
    have k1:∀{A':Around} {E':Value→Shared→Prop} {Q:Value→Shared→Prop},Q (.ref (Shared.heap ⟨hp,g,d,tk,os⟩).objs.size) ⟨hp.push o1,g,d,tk,os⟩→wpAny (model prog w) A' (pyIter a) Q E' ⟨hp,g,d,tk,os⟩:=fun q=>h1 _ _ _ _ _ _ (fun _ _ e=>e) q
    have k2:∀{A':Around} {E':Value→Shared→Prop} {Q:Value→Shared→Prop},Q (.ref (Shared.heap ⟨hp.push o1,g,d,tk,os⟩).objs.size) ⟨(hp.push o1).push o2,g,d,tk,os⟩→wpAny (model prog w) A' (pyIter b) Q E' ⟨hp.push o1,g,d,tk,os⟩:=fun q=>h2 _ _ _ _ _ _ (fun _ _ e=>Heap.get?_push_of_some _ e) q
    wp_walk using k1,k2
    exact⟨_,rfl,h⟩
theorem call_zip{prog:Program}{w:World}{A:Around}{E:Value→Shared→Prop}{s:Shared}{S1 S2:Sr}{v1 v2:Array Value}{a b:Value}{Q:Value→Shared→Prop}(e1:S1.val a)(e2:S2.val b)(x1:S1.has s.heap v1)(x2:S2.has s.heap v2)
    (q:∀h',ZS S1 S2 v1 v2 (s.heap.objs.size+4) (s.heap.objs.size+2) (s.heap.objs.size+3) s.heap.objs.size (s.heap.objs.size+1) 0 .none h'→ZA S1 S2 (s.heap.objs.size+4) (s.heap.objs.size+2) (s.heap.objs.size+3) s.heap.objs.size (s.heap.objs.size+1)→
      (∀c o,s.heap.get? c=some o→h'.get? c=some o)→Q (.ref (s.heap.objs.size+4)) { s with heap:=h' }):wpAny (model prog w) A (call (.type "zip") [a,b]) Q E s:=by
  obtain⟨o1,B1,f1,I1⟩:=Sr.begins e1 x1
  obtain⟨o2,B2,f2,I2⟩:=Sr.begins e2 x2
  refine callType_new F.called_zip (by decide) (F.typeCall_zip_2 _ _) (F.newCall_zip_2 _ _) (fun obj=>F.args_object_init_3 obj _ _) F.entry_zip_new (zip_new a b o1 o2) ⟨B1,B2,?_⟩
  have y1:(s.heap.push o1).objs.size=s.heap.objs.size+1:=Heap.size_push ..
  have y2:(zh2 s.heap o1 o2).objs.size=s.heap.objs.size+2:=by rw[Heap.size_push,y1]
  have y3:(zh3 s.heap o1 o2).objs.size=s.heap.objs.size+3:=by rw[Heap.size_push,y2]
  have y4:(zh4 s.heap o1 o2).objs.size=s.heap.objs.size+4:=by rw[Heap.size_push,y3]
  have g5:(zh5 s.heap o1 o2).get? (zh4 s.heap o1 o2).objs.size=some _:=Heap.get?_push_size _ rfl
  have g4:(zh5 s.heap o1 o2).get? (zh3 s.heap o1 o2).objs.size=some _:=Heap.get?_push_of_some _ (Heap.get?_push_size _ rfl)
  have g3:(zh5 s.heap o1 o2).get? (zh2 s.heap o1 o2).objs.size=some _:=Heap.get?_push_of_some _ (Heap.get?_push_of_some _ (Heap.get?_push_size _ rfl))
  have g2:(zh5 s.heap o1 o2).get? (s.heap.push o1).objs.size=some o2:=Heap.get?_push_of_some _ (Heap.get?_push_of_some _ (Heap.get?_push_of_some _ (Heap.get?_push_size _ f2)))
  have g1:(zh5 s.heap o1 o2).get? s.heap.objs.size=some o1:=Heap.get?_push_of_some _ (Heap.get?_push_of_some _ (Heap.get?_push_of_some _ (Heap.get?_push_of_some _ (Heap.get?_push_size _ f1))))
  have up:∀c o,s.heap.get? c=some o→(zh5 s.heap o1 o2).get? c=some o:=fun c o x=>Heap.get?_push_of_some _ (Heap.get?_push_of_some _ (Heap.get?_push_of_some _ (Heap.get?_push_of_some _ (Heap.get?_push_of_some _ x))))
  have off:∀{S:Sr} {vs:Array Value} (k:Nat),S.has s.heap vs→S.off (s.heap.objs.size+k):=fun{S vs} k x=>by
    cases S with
    | lst a=>obtain⟨o,e,_⟩:=x;exact Nat.ne_of_lt (Nat.lt_of_lt_of_le (Heap.lt_size e) (Nat.le_add_right _ k))
    | tup a=>obtain⟨o,e,_⟩:=x;exact Nat.ne_of_lt (Nat.lt_of_lt_of_le (Heap.lt_size e) (Nat.le_add_right _ k))
    | str z=>exact trivial
  have keep:∀{S:Sr} {vs:Array Value},S.has s.heap vs→S.has (zh5 s.heap o1 o2) vs:=fun{S vs} x=>by
    cases S with
    | lst a=>obtain⟨o,e,r⟩:=x;exact⟨o,up _ _ e,r⟩
    | tup a=>obtain⟨o,e,r⟩:=x;exact⟨o,up _ _ e,r⟩
    | str z=>exact x
  show _∧_
  rw[y2,y3,y4]at g5
  rw[y1,y2]at g3
  rw[y3]at g4
  rw[y1]at g2
  rw[y4]
  refine⟨⟨_,g5,rfl⟩,q _ ⟨g5,g3,⟨_,_,g4⟩,I1 _ _ g1,I2 _ _ g2,keep x1,keep x2⟩ ?_ up⟩
  have ne:∀i j:Nat,i≠j→s.heap.objs.size+i≠s.heap.objs.size+j:=fun i j hn h=>hn (Nat.add_left_cancel h)
  refine⟨ne 2 4 (by decide),ne 3 4 (by decide),ne 0 4 (by decide),ne 1 4 (by decide),ne 2 3 (by decide),ne 2 0 (by decide),ne 2 1 (by decide),ne 3 0 (by decide),ne 3 1 (by decide),ne 0 1 (by decide),fun x hx=>?_⟩
  simp only[List.mem_cons,List.not_mem_nil,or_false]at hx
  rcases hx with rfl | rfl | rfl | rfl
  · exact⟨off 4 x1,off 4 x2⟩
  · exact⟨off 3 x1,off 3 x2⟩
  · exact⟨off 0 x1,off 0 x2⟩
  · exact⟨off 1 x1,off 1 x2⟩
end L2
namespace L2
open PySem PySem.Spec PyProof.Rows
end L2
namespace L2
open PySem PySem.Spec PyProof.Rows
section
variable{X:Cx}{pins:List (Addr × Obj)}{σ:St}{H:Hp}{s:Shared}{h':Heap}
theorem Inv.turneds{t':Nat}{ch:List Addr}(I:Inv X pins σ H s)(k:∀b o,b ∉ ch→s.heap.get? b=some o→h'.get? b=some o)(hf:∀b∈ch,FpOk X pins H b):Inv X pins σ H { s with heap:=h',toks:=t' }:=by
  have nit:∀b u,H b=some u→b ∉ ch:=fun b u e z=>by rw[(hf b z).1]at e;cases e
  refine I.step (g':=s.gens) (d':=s.drawn) (ch:=ch) (fun b hb=>?_) (fun b o _ _ hc e _=>k b o hc e) (fun b o _ _ hc e _=>⟨o.slots,k b o hc e⟩) (fun _ _ _ _ n=>n) (fun b o hc e=>⟨o,k b o hc e⟩) (fun _ _ e=>e) (fun _ _ _ e=>e)
    (fun b ps e=>⟨#[],by rw[e];simp⟩) (fun m hm=>?_) (fun b u e=>?_) I.bare
  · obtain⟨f0,f1,f2,f3,f4,f5⟩:=hf b hb
    exact⟨f3,f1,f4,f5⟩
  · obtain⟨o,es,ep,ho,r⟩:=hm
    exact⟨o,es,ep,k _ o (fun z=>(hf _ z).2.1 rfl) ho,r⟩
  · refine(I.hok b u e).stay (fun c v hc q=>k c v ?_ q) (fun _ q=>q) fun _ _ q=>q
    rcases hc with z | z
    · rw[z];exact nit b u e
    · exact nit c _ z
theorem Inv.track{a:Addr}{o:HO}(I:Inv X pins σ H s)(hs:X.s₀.heap.objs.size≤a)(f:FpOk X pins H a)(new:ObjOk X.prog X.w (upd H a o) s.heap a o):Inv X pins σ (upd H a o) s:=
  ⟨I.ok,I.os,I.bare,I.base.track hs f.1,I.loc,I.cell,by rw[upd_ne (Ne.symm f.2.1)];exact I.free,fun x c e=>by rw[upd_ne (f.2.2.2.2.1 x c e)];exact I.freeC x c e,fun p hp=>by
    obtain⟨e,n,r⟩:=I.pin p hp
    exact⟨e,by rw[upd_ne (f.2.2.2.2.2 p hp)];exact n,r⟩,I.hok.track f.1 new,I.len⟩
end
def signs(x:Str):List V:=x.cps.toList.map fun c=>V.str ⟨#[c]⟩
def Sr.vals(K:PySem.W.Frag)(H:Hp):Sr→List V→Prop
  | .lst a,xs=>SqL K H a xs
  | .tup a,xs=>SqT K H a xs
  | .str x,xs=>xs=signs x
def Sr.ofV:Sr→V→Prop
  | .lst a,v=>v=.ref a
  | .tup a,v=>v=.ref a
  | .str x,v=>v=.str x
section
variable{X:Cx}{pins:List (Addr × Obj)}{σ:St}{H:Hp}{s:Shared}{S:Sr}{xs ys:List V}
theorem Sr.vals.get(I:Inv X pins σ H s)(h:S.vals X.K H xs):∃vs,S.has s.heap vs∧vs.size=xs.length∧∀i x v,xs[i]? = some x→S.is vs i v→RelV x v:=by
  cases S with
  | lst a=>
    obtain⟨its,rv,p,hz⟩:=I.list h
    refine⟨its.toArray,p.isList,by have:=rv.length;simp;omega,fun i x v e1 e2=>?_⟩
    obtain⟨u,hu,ru⟩:=rv.get e1
    have e2:its.toArray[i]? = some v:=e2
    rw[List.getElem?_toArray,hu]at e2
    cases e2
    exact ru
  | tup a=>
    obtain⟨its,rv,p,hz⟩:=I.tuple h
    refine⟨its.toArray,(show s.heap.IsTuple a its.toArray from p),by have:=rv.length;simp;omega,fun i x v e1 e2=>?_⟩
    obtain⟨u,hu,ru⟩:=rv.get e1
    have e2:its.toArray[i]? = some v:=e2
    rw[List.getElem?_toArray,hu]at e2
    cases e2
    exact ru
  | str z=>
    cases (show xs=signs z from h)
    refine⟨Array.replicate z.cps.size .none,by show(Array.replicate _ _).size=_;simp,by simp[signs],fun i x v e1 e2=>?_⟩
    obtain⟨c,u,ec,rfl⟩:=(show ∃c u,z.cps[i]? = some c∧v=.str ⟨#[c]⟩ u from e2)
    have:(signs z)[i]? = some (V.str ⟨#[c]⟩):=by simp[signs,ec]
    rw[this]at e1
    cases e1
    exact⟨u,rfl⟩
theorem Sr.vals.inj(I:Inv X pins σ H s)(h:S.vals X.K H xs)(h':S.vals X.K H ys):xs=ys:=by
  cases S with
  | lst a=>exact I.list_inj h h'
  | tup a=>exact I.tuple_inj h h'
  | str z=>exact(show xs=signs z from h).trans (show ys=signs z from h').symm
theorem Sr.ofV.val{x:V}{u:Value}(e:S.ofV x)(r:RelV x u):S.val u:=by
  cases S with
  | lst a=>cases (show x=.ref a from e);exact r
  | tup a=>cases (show x=.ref a from e);exact r
  | str z=>cases (show x=.str z from e);exact r
end
theorem Sr.vals.same{K:PySem.W.Frag}{H H':Hp}{S:Sr}{xs:List V}(h:S.vals K H xs)(hl:∀a,SqL K H a xs→SqL K H' a xs)(ht:∀a,SqT K H a xs→SqT K H' a xs):S.vals K H' xs:=by
  cases S with
  | lst a=>exact hl a h
  | tup a=>exact ht a h
  | str z=>exact h
def Itz(K:PySem.W.Frag)(S1 S2:Sr):It:=
  ⟨fun i H=>∃xs ys x y,S1.vals K H xs∧S2.vals K H ys∧xs[i]? = some x∧ys[i]? = some y,
   fun i H v H'=>∃p x y,v=.ref p∧H p=none∧H'=upd H p (.tup [x,y])∧(∀xs,S1.vals K H xs→xs[i]? = some x)∧∀ys,S2.vals K H ys→ys[i]? = some y,
   fun i H=>∃xs ys,S1.vals K H xs∧S2.vals K H ys∧(i=xs.length∨(i < xs.length∧i=ys.length))⟩
theorem turn_zip{P:Program}{w:World}{K:PySem.W.Frag}{es:List Expr}{kk:Nat}{tp:Pos}{S1 S2:Sr}{z TI TO i1 i2:Addr}(D:ZA S1 S2 z TI TO i1 i2) :
    Turn P w K (.Tuple es kk tp) (Itz K S1 S2) [z,TI,TO,i1,i2] z (fun i h=>IsZip h z TI TO .none∧IsPair h TI (.ref i1) (.ref i2)∧(∃a b,IsPair h TO a b)∧S1.it h i1 i∧S2.it h i2 i)where
  mem:=by simp
  obj:=fun i h st b hb=>by
    obtain⟨hz,hi,⟨a,a',ho⟩,h1,h2⟩:=st
    simp only[List.mem_cons,List.not_mem_nil,or_false]at hb
    rcases hb with rfl | rfl | rfl | rfl | rfl
    · exact⟨_,hz,fun v z=>by simp at z⟩
    · exact⟨_,hi,fun v z=>by simp at z⟩
    · exact⟨_,ho,fun v z=>by simp at z⟩
    · exact h1.obj
    · exact h2.obj
  keep:=fun i h h' st k=>by
    obtain⟨hz,hi,⟨a,a',ho⟩,h1,h2⟩:=st
    exact⟨k z (by simp) _ hz,k TI (by simp) _ hi,⟨a,a',k TO (by simp) _ ho⟩,h1.mv fun o e=>k i1 (by simp) o e,h2.mv fun o e=>k i2 (by simp) o e⟩
  item:=by
    intro X hP hw hK hc i pins s σ H E I hf st hg
    subst hP hw hK
    obtain⟨xs,ys,x,y,hx,hy,ex,ey⟩:=hg
    obtain⟨v1,a1,z1,r1⟩:=Sr.vals.get I hx
    obtain⟨v2,a2,z2,r2⟩:=Sr.vals.get I hy
    obtain⟨hz,hi,ho,h1,h2⟩:=st
    have l1:=(List.getElem?_eq_some_iff.mp ex).1
    have l2:=(List.getElem?_eq_some_iff.mp ey).1
    have hT:s.TypeIs (.ref z) "zip":=⟨_,hz,rfl⟩
    have lt:∀b∈[z,TI,TO,i1,i2],b≠s.heap.objs.size:=fun b hb=>by
      obtain⟨a,a',ho⟩:=ho
      simp only[List.mem_cons,List.not_mem_nil,or_false]at hb
      rcases hb with rfl | rfl | rfl | rfl | rfl
      · exact Nat.ne_of_lt (Heap.lt_size hz)
      · exact Nat.ne_of_lt (Heap.lt_size hi)
      · exact Nat.ne_of_lt (Heap.lt_size ho)
      · obtain⟨_,e,_⟩:=h1.obj;exact Nat.ne_of_lt (Heap.lt_size e)
      · obtain⟨_,e,_⟩:=h2.obj;exact Nat.ne_of_lt (Heap.lt_size e)
    unfold pyNext
    refine wpAny_bind (wpAny_attempt (wpAny_callSpecial?_slot (name:=Str.ofString "__next__") hT F.slot_zip_next (wpAny_call_entry F.slot_zip_next hT F.entry_zip_next
      (zip_item (A:=X.A.in1) D (show X.A.in1.handled=none from I.ok.hd hc) ⟨hz,hi,ho,h1,h2,a1,a2⟩ (by omega) (by omega) fun xv yv h' tk px py Z hp hs up=>wpAny_pure ?_) (F.args_zip_next_1 _))))
    refine⟨_,rfl,wpAny_letOwnedTupleGo_zip Z.z fun h'' hz'' sb=>?_⟩
    have sb:Heap.SameBut z h' h'':=sb
    have kk:∀b o,b ∉ [z,TI,TO,i1,i2]→s.heap.get? b=some o→h''.get? b=some o:=fun b o hb e=>by
      simp only[List.mem_cons,List.not_mem_nil,or_false,not_or]at hb
      exact sb.extBut _ _ hb.1 (up b o hb.1 hb.2.2.1 hb.2.2.2.1 hb.2.2.2.2 e)
    have I1:Inv X pins σ H { s with heap:=h'',toks:=tk }:=I.turneds (t':=tk) kk hf
    have fT:FpOk X pins H s.heap.objs.size:=I.fpOk (Nat.le_refl _) (I.hok.fresh (Nat.le_refl _))
    have zT:s.heap.objs.size≠z:=Ne.symm (lt z (by simp))
    have oT:IsPair h'' s.heap.objs.size xv yv:=sb.extBut _ _ zT hp
    have I2:Inv X pins σ (upd H s.heap.objs.size (.tup [x,y])) { s with heap:=h'',toks:=tk }:=I1.track (Nat.le_trans I.sz (Nat.le_refl _)) fT
      ⟨by show 2≤sizeLine;decide,[xv,yv],.cons (r1 i x xv ex px) (.cons (r2 i y yv ey py) .nil),⟨_,oT,rfl,_,rfl⟩,fun _=>⟨_,oT,rfl⟩⟩
    refine⟨.ref s.heap.objs.size,_,I2,rfl,⟨_,x,y,rfl,fT.1,rfl,fun xs' h=>by rw[Sr.vals.inj I h hx];exact ex,fun ys' h=>by rw[Sr.vals.inj I h hy];exact ey⟩,⟨hz'',sb.extBut _ _ D.a Z.ti,?_,Z.s1.mv fun o e=>sb.extBut _ _ D.c e,Z.s2.mv fun o e=>sb.extBut _ _ D.d e⟩,fun b hb=>?_⟩
    · obtain⟨a,a',ho⟩:=Z.to
      exact⟨a,a',sb.extBut _ _ D.b ho⟩
    · rw[upd_ne (lt b hb)]
      exact(hf b hb).1
  done:=by
    intro X hP hw hK hc i pins s σ H E I hf st hg
    subst hP hw hK
    obtain⟨xs,ys,hx,hy,l⟩:=hg
    obtain⟨v1,a1,z1,r1⟩:=Sr.vals.get I hx
    obtain⟨v2,a2,z2,r2⟩:=Sr.vals.get I hy
    obtain⟨hz,hi,ho,h1,h2⟩:=st
    have hT:s.TypeIs (.ref z) "zip":=⟨_,hz,rfl⟩
    unfold pyNext
    refine wpAny_bind (wpAny_attempt (wpAny_callSpecial?_slot (name:=Str.ofString "__next__") hT F.slot_zip_next (wpAny_call_entry F.slot_zip_next hT F.entry_zip_next
      (zip_end (A:=X.A.in1) D (show X.A.in1.handled=none from I.ok.hd hc) ⟨hz,hi,ho,h1,h2,a1,a2⟩ (by omega) fun h' e tk up ⟨o,eo,co⟩=>?_) (F.args_zip_next_1 _))))
    refine wpAny_bind (wpAny_isInstance (T:="StopIteration") (b:=true) ⟨o,eo,co⟩ isSubtype_stop ?_)
    refine wpAny_pure ⟨rfl,I.turneds (ch:=[z,TI,TO,i1,i2]) (t':=tk) (fun b o hb e=>?_) hf⟩
    simp only[List.mem_cons,List.not_mem_nil,or_false,not_or]at hb
    exact up b o hb.1 hb.2.2.1 hb.2.2.2.1 hb.2.2.2.2 e
  self:=fun _ _ _ _ _ st h=>wpAny_pyIter_zip st.1 h
def iZip(K:PySem.W.Frag)(ta:TA):TI:=fun σ H R=>ta σ H fun vs H1=>∃S1 S2 x y xs ys,vs=[x,y]∧Sr.ofV S1 x∧Sr.ofV S2 y∧S1.vals K H1 xs∧S2.vals K H1 ys∧R (Itz K S1 S2) H1
theorem pi_zip{X:Cx}{a b:Expr}{ta:TA}{p pos tp:Pos}{es:List Expr}{kk:Nat}(hg:Gl X "zip")(hm:X.mg "zip"=none)(ha:PA X [a,b] ta)(hs:starEach [a,b] X.env=[(false,eval a X.env),(false,eval b X.env)]:=by rfl)
    (hs2:starEach [b] X.env=[(false,eval b X.env)]:=by rfl):PI X (.Tuple es kk tp) (.Call (.Name "zip" p) [a,b] [] pos) (iZip X.K ta):=by
  intro pins s σ H R I h
  refine Call_ (ld_blt I hg hm boot_zip (PyProof.Rows.callWith_type1 (thn (ha pos pins s σ H _ I h) fun us s1 ⟨vs,H1,I1,r1,q1⟩=>?_) (by rw[hs,hs2]) (by rw[hs2];rfl)))
  obtain⟨S1,S2,x,y,xs,ys,e,e1,e2,hx,hy,q⟩:=q1
  subst e
  cases r1 with
  | cons r rr=>
    cases rr with
    | cons r' rr=>
      cases rr
      obtain⟨v1,a1,z1,_⟩:=Sr.vals.get I1 hx
      obtain⟨v2,a2,z2,_⟩:=Sr.vals.get I1 hy
      refine call_zip (e1.val r) (e2.val r') a1 a2 fun h' Z D up=>wpAny_pyIter_zip Z.z ⟨_,_,_,_,H1,rfl,I1.kept (t':=s1.toks) up,turn_zip D,⟨Z.z,Z.ti,Z.to,Z.s1,Z.s2⟩,fun b hb=>?_,q⟩
      simp only[List.mem_cons,List.not_mem_nil,or_false]at hb
      have le:s1.heap.objs.size≤b:=by rcases hb with rfl | rfl | rfl | rfl | rfl <;>omega
      exact I1.fpOk le (I1.hok.fresh le)
theorem for_zip{K:PySem.W.Frag}{S1 S2:Sr}{xs ys:List V}{g:TG}{tb:TS}{D:Ends}{σ:St}{H:Hp}(Pv:Nat→St→Hp→Prop)(hll:xs.length=ys.length)(h0:Pv 0 σ H)(hl:∀i σ H,i≤xs.length→Pv i σ H→S1.vals K H xs∧S2.vals K H ys)
    (hs:∀i x y p σ H,xs[i]? = some x→ys[i]? = some y→H p=none→Pv i σ H→g (.ref p) σ (upd H p (.tup [x,y])) fun σ2 H2=>tb { D with nx:=Pv (i+1),ct:=Pv (i+1),bk:=D.nx } σ2 H2) (hd:∀σ H,Pv xs.length σ H→D.nx σ H) :
    ∃W:Nat→Nat→St→Hp→Prop,(∃m,W 0 m σ H)∧∀i m σ H,W i m σ H→
      ((Itz K S1 S2).stop i H∧D.nx σ H)∨((Itz K S1 S2).go i H∧∃N:St→Hp→Prop,(∀σ' H',N σ' H'→∃m',m' < m∧W (i+1) m' σ' H')∧∀x H',(Itz K S1 S2).yld i H x H'→g x σ H' fun σ2 H2=>tb { D with nx:=N,ct:=N,bk:=D.nx } σ2 H2):=by
  refine⟨fun i m σ H=>m=xs.length - i∧i≤xs.length∧Pv i σ H,⟨xs.length,by simp,Nat.zero_le _,h0⟩,?_⟩
  rintro i m σ H ⟨rfl,hi,p⟩
  obtain⟨q1,q2⟩:=hl i σ H hi p
  by_cases hlt:i < xs.length
  · have hly:i < ys.length:=by omega
    refine .inr ⟨⟨xs,ys,xs[i],ys[i],q1,q2,by simp[hlt],by simp[hly]⟩,Pv (i+1),fun σ' H' p'=>⟨xs.length - (i+1),by omega,rfl,hlt,p'⟩,fun x H' y=>?_⟩
    obtain⟨pp,x',y',rfl,hn,rfl,y1,y2⟩:=y
    exact hs i x' y' pp σ H (y1 xs q1) (y2 ys q2) hn p
  · have e:i=xs.length:=by omega
    subst e
    exact .inl ⟨⟨xs,ys,q1,q2,.inl rfl⟩,hd σ H p⟩
end L2
namespace L2
open PySem PySem.Spec PyProof.Rows
section
variable{X:Cx}
def rSlS:V→Option Int→Option Int→Hp→VK→Prop:=fun x lo hi H Q=>∃z,x=.str z∧z.length≤sizeLine∧Q (.str (Txt.slice z lo hi)) H
theorem sl_str:SlR X rSlS:=by
  intro pins s σ H x v vl vu lo hi sl Q I rx hs pl pu h
  obtain⟨z,rfl,hz,q⟩:=h
  obtain⟨t,rfl⟩:=rx
  have fin:∀t' k,EP X pins σ Q (.str (Txt.slice z lo hi) t') { s with toks:=k }:=fun t' k=>⟨.str _,H,I.tok _,⟨_,rfl⟩,q⟩
  refine⟨"str",_,F.slot_str_getitem.lookup,typeIs_str _ _ _,?_⟩
  cases pl with
  | none=>
    cases pu with
    | none=>exact wpAny_getItem_str_slice (l:=none) (u:=none) (st:=none) hs rfl (post_val_or_str ⟨Nat.le_trans (Txt.slice_le z _ _) hz,fin⟩)
    | int j uj=>exact wpAny_getItem_str_slice (l:=none) (u:=some (j,uj)) (st:=none) hs rfl (post_val_or_str ⟨Nat.le_trans (Txt.slice_le z _ _) hz,fin⟩)
  | int i ui=>
    cases pu with
    | none=>exact wpAny_getItem_str_slice (l:=some (i,ui)) (u:=none) (st:=none) hs rfl (post_val_or_str ⟨Nat.le_trans (Txt.slice_le z _ _) hz,fin⟩)
    | int j uj=>exact wpAny_getItem_str_slice (l:=some (i,ui)) (u:=some (j,uj)) (st:=none) hs rfl (post_val_or_str ⟨Nat.le_trans (Txt.slice_le z _ _) hz,fin⟩)
def rIndexS:V→List V→Hp→VK→Prop:=fun x xs H Q=>∃z y i rest,x=.str z∧xs=[.str y]∧Builtin.Str.occurrences z y 0 z.length 1=i::rest∧Q (.int (i:Nat)) H
theorem mt_indexS:MtR X "str.index" rIndexS:=by
  intro pins s σ H x xs v us Q I rx rs h
  obtain⟨z,y,i,rest,rfl,rfl,e,q⟩:=h
  obtain⟨t,rfl⟩:=rx
  obtain⟨u,rfl,ru⟩:=rs.one
  obtain⟨t',rfl⟩:=ru
  exact call_gives F.slot_str_index (typeIs_str s z t) F.entry_str_index (F.args_str_index_2 _ _) (PySem.gives_str_index z y t t' i rest e) ⟨.int _,H,I.tok _,⟨_,rfl⟩,q⟩
def Its(z:Str):It:=⟨fun i _=>i < z.cps.size,fun i H x H'=>H'=H∧∃c,z.cps[i]? = some c∧x=.str ⟨#[c]⟩,fun i _=>z.cps.size≤i⟩
theorem turn_str{P:Program}{w:World}{K:PySem.W.Frag}{tg:Expr}(z:Str)(t:Tok)(it:Addr):Turn P w K tg (Its z) [it] it (fun i h=>h.IsStrIter it "str_ascii_iterator" z t i)where
  mem:=by simp
  obj:=fun i h st b hb=>by
    have e:b=it:=by simpa using hb
    subst e
    obtain⟨o,e,c,d⟩:=st
    exact⟨o,e,fun v q=>by rw[d]at q;cases q⟩
  keep:=fun i h h' st k=>by
    obtain⟨o,e,r⟩:=st
    exact⟨o,k it (by simp) o e,r⟩
  item:=by
    intro X hP hw hK hc i pins s σ H E I hf st hg
    subst hP hw hK
    have hg:i < z.cps.size:=hg
    obtain⟨f0,f1,f2,f3,f4,f5⟩:=hf it (by simp)
    refine wpAny_pyNext_ascii_item st (c:=z.cps[i]) (by simp[hg]) fun h' st' sb=>?_
    have I1:Inv X pins σ H { s with heap:=h',toks:=s.toks+1 }:=I.turned (t':=s.toks+1) (fun b o hb e=>(sb.2 b hb).trans e) f0 f1 f3 f4 f5
    obtain⟨o,e,c,d⟩:=id st'
    exact⟨_,rfl,go_of (s:={ s with heap:=h',toks:=s.toks+1 }) e c d (by decide) ⟨.str ⟨#[z.cps[i]]⟩,H,I1,⟨_,rfl⟩,⟨rfl,_,by simp[hg],rfl⟩,st',fun b hb=>(hf b hb).1⟩⟩
  done:=by
    intro X hP hw hK hc i pins s σ H E I hf st hg
    subst hP hw hK
    have hg:z.cps.size≤i:=hg
    obtain⟨f0,f1,f2,f3,f4,f5⟩:=hf it (by simp)
    exact wpAny_pyNext_ascii_end (I.ok.hd hc) st (by simp;omega) fun h' eb=>⟨rfl,I.turned (t':=s.toks) (fun b o hb e=>eb b o hb e) f0 f1 f3 f4 f5⟩
  self:=fun _ _ _ _ _ st h=>wpAny_pyIter_striter_ascii st h
def iStr(tl:TE):TI:=fun σ H R=>tl σ H fun x H1=>∃z,x=.str z∧z.cps.all (· < 128)=true∧R (Its z) H1
theorem pi_str{tg l:Expr}{tl:TE}(hl:PE X l tl):PI X tg l (iStr tl):=by
  intro pins s σ H R I h
  refine thn (hl pins s σ H _ I h) fun v s1 ⟨x,H1,I1,r1,z,e,ha,q⟩=>?_
  subst e
  obtain⟨t,rfl⟩:=r1
  refine wpAny_pyIter_ascii ha ?_
  have hf:H1 s1.heap.objs.size=none:=I1.hok.fresh (Nat.le_refl _)
  refine⟨s1.heap.objs.size,[s1.heap.objs.size],_,Its z,H1,rfl,I1.kept (t':=s1.toks) (fun b ob q=>Heap.get?_push_of_some _ q),turn_str z t _,⟨_,Heap.get?_push_size _ rfl,rfl,rfl⟩,fun b hb=>?_,q⟩
  have e:b=s1.heap.objs.size:=by simpa using hb
  subst e
  exact I1.fpOk (Nat.le_refl _) hf
end
end L2
namespace L2
open PySem PySem.Spec PyProof.Rows
section
variable{X:Cx}
theorem vals_bl{bs:List Bool}{its:List Value}(r:Vals (bs.map V.bl) its){i:Nat}{v:Value}(h:its[i]? = some v):∃b,bs[i]? = some b∧v=.bool b:=by
  have len:=r.length
  rw[List.length_map]at len
  have hi:i < its.length:=(List.getElem?_eq_some_iff.mp h).1
  have hb:bs[i]? = some (bs[i]'(by omega)):=List.getElem?_eq_getElem (by omega)
  obtain⟨u,hu,ru⟩:=r.get (i:=i) (x:=V.bl (bs[i]'(by omega))) (by rw[List.getElem?_map,hb];rfl)
  rw[h]at hu
  cases hu
  exact⟨_,hb,ru⟩
theorem all_range(bs:List Bool):(List.range bs.length).all (fun i=>bs[i]?.getD false)=bs.all id:=by
  rw[Bool.eq_iff_iff,List.all_eq_true,List.all_eq_true]
  constructor
  · intro h b hb
    obtain⟨i,hi,e⟩:=List.getElem_of_mem hb
    have:=h i (List.mem_range.mpr hi)
    rw[List.getElem?_eq_getElem hi,Option.getD_some,e]at this
    exact this
  · intro h i hi
    have hi:=List.mem_range.mp hi
    rw[List.getElem?_eq_getElem hi,Option.getD_some]
    exact h _ (List.getElem_mem hi)
def rAll(K:PySem.W.Frag)(f:List Bool→Bool):List V→Hp→VK→Prop:=fun xs H Q=>∃a bs,xs=[.ref a]∧SqL K H a (bs.map V.bl)∧Q (.bl (f bs)) H
theorem call_all(hc:X.calm=true):CallR X (.builtin "all") (rAll X.K fun bs=>bs.all id):=by
  intro pins s σ H xs us Q I r h
  obtain⟨a,bs,rfl,hq,q⟩:=h
  obtain⟨u,rfl,ru⟩:=r.one
  cases (show u=Value.ref a from ru)
  obtain⟨its,rv,p,hz⟩:=I.list hq
  have lt:a≠s.heap.objs.size:=by obtain⟨o,n,e,_⟩:=p;exact Nat.ne_of_lt (Heap.lt_size e)
  have hh:X.A.in1.handled=none:=I.ok.hd hc
  have hl:=p.isList
  have len:=rv.length
  rw[List.length_map]at len
  refine call_all_walk (wpAny_pyIter_list hl ⟨_,_,_,_,_,_,fun i=>bs[i]?.getD false,rfl,Walks.list hh s.heap.objs.size a lt its.toArray,⟨⟨_,Heap.get?_push_size _ rfl,rfl,rfl⟩,Heap.IsList.push hl _⟩,fun i v s' Q' E' hv q'=>?_,fun h' tk k=>?_⟩)
  · have hv:its.toArray[i]? = some v:=hv
    rw[List.getElem?_toArray]at hv
    obtain⟨b,eb,rfl⟩:=vals_bl rv hv
    have q':Q' (bs[i]?.getD false) s':=q'
    rw[eb]at q'
    exact wpAny_truthy_bool q'
  · rw[List.size_toArray,← len,all_range]
    refine⟨.bl _,H,I.kept (t':=tk) fun b o e=>k b o (fun z=>?_) (Heap.get?_push_of_some _ e),rfl,q⟩
    rw[List.mem_singleton]at z
    exact absurd (Heap.lt_size e) (by rw[z];exact Nat.lt_irrefl _)
end
end L2
namespace L2
open PySem PySem.Spec PyProof.Rows
section
variable{prog:Program}{w:World}{A:Around}{E:Value→Shared→Prop}{s:Shared}
end
section
variable{prog:Program}{w:World}{A:Around}{E:Value→Shared→Prop}{s:Shared}
end
end L2
namespace L2
open PySem PySem.Spec PyProof.Rows
section
variable{prog:Program}{w:World}{A:Around}{E:Value→Shared→Prop}{s:Shared}
end
theorem for_it{J:It}{n:Nat}{g:TG}{tb:TS}{D:Ends}{σ:St}{H:Hp}(Pv:Nat→St→Hp→Prop)(h0:Pv 0 σ H)
    (hs:∀i σ H,i < n→Pv i σ H→J.go i H∧∀x H',J.yld i H x H'→g x σ H' fun σ2 H2=>tb { D with nx:=Pv (i+1),ct:=Pv (i+1),bk:=D.nx } σ2 H2) (hd:∀σ H,Pv n σ H→J.stop n H∧D.nx σ H) :
    ∃W:Nat→Nat→St→Hp→Prop,(∃m,W 0 m σ H)∧∀i m σ H,W i m σ H→
      (J.stop i H∧D.nx σ H)∨(J.go i H∧∃N:St→Hp→Prop,(∀σ' H',N σ' H'→∃m',m' < m∧W (i+1) m' σ' H')∧∀x H',J.yld i H x H'→g x σ H' fun σ2 H2=>tb { D with nx:=N,ct:=N,bk:=D.nx } σ2 H2):=by
  refine⟨fun i m σ H=>m=n - i∧i≤n∧Pv i σ H,⟨n,by simp,Nat.zero_le _,h0⟩,?_⟩
  rintro i m σ H ⟨rfl,hi,p⟩
  by_cases hlt:i < n
  · obtain⟨a,b⟩:=hs i σ H hlt p
    exact .inr ⟨a,Pv (i+1),fun σ' H' p'=>⟨n - (i+1),by omega,rfl,hlt,p'⟩,b⟩
  · have e:i=n:=by omega
    subst e
    exact .inl (hd σ H p)
theorem tuple_addW0(l b:Addr)(items items2:Array Value)(n n2:Nat)(dd dd2:Option Addr)(sl sl2:Array (Option Value))(hc0:items.isEmpty=true) :
    Meets (Builtin.«tuple.__add__» ⟨[.ref l,.ref b],[]⟩) (fun _ R s=>s.heap.get? l=some { cls:=.type "tuple",dict:=dd,data:=.seq items n,slots:=sl }∧s.heap.get? b=some { cls:=.type "tuple",dict:=dd2,data:=.seq items2 n2,slots:=sl2 }∧R (.ok (.ret (Value.ref b))) { s with heap:=s.heap,toks:=s.toks }):=
  .of_wp fun prog w A R s h=>by obtain⟨hp,g,d,tk,os⟩:=s;obtain⟨hl,hb,h⟩:=h;have f1:=AutoSeq1.idx_int;have f2:=AutoSeq1.sub_tuple_tuple;wp_walk using AutoSeq1.wpAny_loadPart' hl,AutoSeq1.wpAny_loadPart' hb;exact⟨_,rfl,h⟩
def rCatA:R2:=fun x y H Q=>∃a b xs ys,x=.ref a∧y=.ref b∧H a=some (.tup xs)∧H b=some (.tup ys)∧xs.length+ys.length≤sizeLine∧
  ∀p H',Same H H'→H' p=some (.tup (xs++ys))→Q (.ref p) H'
theorem op_catA{X:Cx}:OpR X (binaryOp .Add) rCatA:=by
  intro pins s σ H x y v u Q I rx ry h
  obtain⟨a,b,xs,ys,rfl,rfl,ha,hb,hz,q⟩:=h
  cases rx
  cases ry
  by_cases hx:xs=[]
  · obtain⟨its,r1,p1,_⟩:=I.tuple (SqT.of ha)
    obtain⟨its2,r2,p2,_⟩:=I.tuple (SqT.of hb)
    have e0:its=[]:=r1.nil_iff.mpr hx
    obtain⟨⟨cls,dd,data,sl⟩,ho,hc,n,hd⟩:=id p1
    obtain⟨⟨cls2,dd2,data2,sl2⟩,ho2,hc2,n2,hd2⟩:=id p2
    simp only at hc hd hc2 hd2
    subst hc hd hc2 hd2
    exact concat_meets ⟨_,ho,rfl⟩ ⟨_,ho2,rfl⟩ noFill_tuple_add seq_tuple_add PySem.F.slot_tuple_add PySem.F.entry_tuple_add (PySem.F.args_tuple_add_2 _ _)
      (tuple_addW0 a b its.toArray its2.toArray n n2 dd dd2 sl sl2 (by rw[e0];rfl)) ⟨ho,ho2,⟨.ref b,H,I,rfl,q b H (Same.refl _) (by rw[hx];exact hb)⟩⟩
  · exact op_catT pins s σ H (.ref a) (.ref b) (.ref a) (.ref b) Q I rfl rfl ⟨a,b,xs,ys,rfl,rfl,SqT.of ha,SqT.of hb,hx,hz,fun z=>q a H (Same.refl _) (by rw[z,List.append_nil];exact ha),fun _ p np=>q p _ (same_upd np) upd_same⟩
end L2
namespace L2
open PySem PySem.Spec PyProof.Rows
def SameT(H H':Hp):Prop:=∀p vs,H p=some (.tup vs)→H' p=some (.tup vs)
theorem SameT.refl(H:Hp):SameT H H:=fun _ _ h=>h
theorem SameT.trans{H H1 H2:Hp}(x:SameT H H1)(y:SameT H1 H2):SameT H H2:=fun p vs h=>y p vs (x p vs h)
theorem Same.t{H H':Hp}(x:Same H H'):SameT H H':=fun p vs h=>x p _ h
def Ents(Pd:Nat→V→Hp→Prop)(ys:List V)(n:Nat)(H:Hp):Prop:=ys.length=n∧∀j,j < n→∃u,ys[j]? = some u∧Pd j u H
section
variable{Pd Pe:Nat→V→Hp→Prop}{ys:List V}{n:Nat}{H H':Hp}{v:V}
theorem Ents.nil:Ents Pd [] 0 H:=⟨rfl,fun j h=>absurd h (Nat.not_lt_zero j)⟩
theorem Ents.mono(h:Ents Pd ys n H)(s:∀j u,j < n→Pd j u H→Pe j u H'):Ents Pe ys n H':=⟨h.1,fun j hj=>by
  obtain⟨u,e,p⟩:=h.2 j hj
  exact⟨u,e,s j u hj p⟩⟩
theorem Ents.snoc(h:Ents Pd ys n H)(p:Pd n v H):Ents Pd (ys++[v]) (n+1) H:=⟨by rw[List.length_append,h.1];rfl,fun j hj=>by
  by_cases hn:j < n
  · obtain⟨u,e,q⟩:=h.2 j hn
    exact⟨u,by rw[List.getElem?_append_left (by rw[h.1];exact hn)];exact e,q⟩
  · have e:j=n:=by omega
    subst e
    exact⟨v,by rw[List.getElem?_append_right (by rw[h.1];exact Nat.le_refl _),h.1,Nat.sub_self];rfl,p⟩⟩
theorem Ents.at(h:Ents Pd ys n H){j:Nat}{u:V}(e:ys[j]? = some u):j < n∧Pd j u H:=by
  have hj:j < n:=by rw[← h.1];exact(List.getElem?_eq_some_iff.mp e).1
  obtain⟨u',e',p⟩:=h.2 j hj
  rw[e]at e'
  cases e'
  exact⟨hj,p⟩
end
def TupOf(Pd:Nat→V→Hp→Prop)(n:Nat)(v:V)(H:Hp):Prop:=∃p vs,v=.ref p∧H p=some (.tup vs)∧Ents Pd vs n H
def SeqOf(K:PySem.W.Frag)(Pd:Nat→V→Hp→Prop)(n:Nat)(v:V)(H:Hp):Prop:=∃S vs,Sr.ofV S v∧S.vals K H vs∧(∀H',Same H H'→S.vals K H' vs∧LenV K v H' vs.length)∧Ents Pd vs n H
theorem TupOf.seq{K:PySem.W.Frag}{Pd:Nat→V→Hp→Prop}{n:Nat}{v:V}{H:Hp}(h:TupOf Pd n v H):SeqOf K Pd n v H:=by
  obtain⟨p,vs,rfl,hp,e⟩:=h
  exact⟨.tup p,vs,rfl,SqT.of hp,fun H' q=>⟨SqT.of (q _ _ hp),.inr ⟨_,SqT.of (q _ _ hp),rfl⟩⟩,e⟩
theorem TupOf.mono{Pd Pe:Nat→V→Hp→Prop}{n:Nat}{v:V}{H H':Hp}(h:TupOf Pd n v H)(s:SameT H H')(m:∀j u,j < n→Pd j u H→Pe j u H'):TupOf Pe n v H':=by
  obtain⟨p,vs,rfl,hp,e⟩:=h
  exact⟨p,vs,rfl,s _ _ hp,e.mono m⟩
theorem SeqOf.mono{K:PySem.W.Frag}{Pd Pe:Nat→V→Hp→Prop}{n:Nat}{v:V}{H H':Hp}(h:SeqOf K Pd n v H)(s:Same H H')(m:∀j u,j < n→Pd j u H→Pe j u H'):SeqOf K Pe n v H':=by
  obtain⟨S,vs,e,hv,hs,he⟩:=h
  exact⟨S,vs,e,(hs _ s).1,fun H2 q=>hs _ (s.trans q),he.mono m⟩
theorem SeqOf.list{K:PySem.W.Frag}{Pd:Nat→V→Hp→Prop}{n:Nat}{p:Addr}{vs:List V}{H:Hp}(hp:H p=some (.lst vs))(e:Ents Pd vs n H):SeqOf K Pd n (.ref p) H:=
  ⟨.lst p,vs,rfl,SqL.of hp,fun H' q=>⟨SqL.of (q _ _ hp),.inl ⟨_,SqL.of (q _ _ hp),rfl⟩⟩,e⟩
theorem TupOf.len{K:PySem.W.Frag}{Pd:Nat→V→Hp→Prop}{n:Nat}{v:V}{H:Hp}(h:TupOf Pd n v H):LenV K v H n:=by
  obtain⟨p,vs,rfl,hp,e⟩:=h
  have e1:=e.1
  subst e1
  exact .inr ⟨_,SqT.of hp,rfl⟩
theorem SeqOf.len{K:PySem.W.Frag}{Pd:Nat→V→Hp→Prop}{n:Nat}{v:V}{H:Hp}(h:SeqOf K Pd n v H):LenV K v H n:=by
  obtain⟨S,vs,_,_,hs,e⟩:=h
  have q:=(hs _ (Same.refl _)).2
  rw[e.1]at q
  exact q
theorem comp_go{J:It}{n k:Nat}{g:TG}{te:TE}{σ:St}{Q:VK}{H1:Hp}(Pv:Nat→List V→Hp→Prop)(hn:n≤1000)(h0:Pv 0 [] H1)(hl:∀i ys H,Pv i ys H→ys.length=i)
    (hgo:∀i ys H,i < n→Pv i ys H→J.go i H∧∀x H',J.yld i H x H'→g x (σ++List.replicate k none) H' fun σ2 H2=>(∃zs,σ2=σ++zs∧zs.length=k)∧te σ2 H2 fun v H3=>Pv (i+1) (ys++[v]) H3)
    (hstop:∀ys H,Pv n ys H→J.stop n H) (hend:∀ys H p,Pv n ys H→H p=none→Q (.ref p) (upd H p (.lst ys))) :
    CTail J k g te σ Q H1:=by
  have z:1000 < sizeLine:=by decide
  refine⟨fun i m ys H=>m=n - i∧i≤n∧Pv i ys H,⟨n,rfl,Nat.zero_le _,h0⟩,?_⟩
  rintro i m ys H ⟨rfl,hi,p⟩
  have yl:=hl i ys H p
  by_cases hlt:i < n
  · obtain⟨a,b⟩:=hgo i ys H hlt p
    refine .inr ⟨a,by omega,fun x H' y=>?_⟩
    have c:=b x H' y
    have e:(fun σ2 H2=>(∃zs,σ2=σ++zs∧zs.length=k)∧te σ2 H2 fun v H3=>∃m',m' < n - i∧m'=n - (i+1)∧i+1≤n∧Pv (i+1) (ys++[v]) H3)=fun σ2 H2=>(∃zs,σ2=σ++zs∧zs.length=k)∧te σ2 H2 fun v H3=>Pv (i+1) (ys++[v]) H3:=by
      funext σ2 H2
      congr 2
      funext v H3
      exact propext ⟨fun⟨_,_,_,_,q⟩=>q,fun q=>⟨_,by omega,rfl,hlt,q⟩⟩
    rw[e]
    exact c
  · have e:i=n:=by omega
    subst e
    exact .inl ⟨hstop ys H p,by omega,fun q nq=>hend ys H q p nq⟩
end L2
namespace L2
open PySem Mine
def KAt(C:Addr)(fs:List (Str × V))(H:Hp)(k:V):Prop:=∃p dx,k=.ref p∧H p=some (.ins C dx fs)
theorem KAt.same{C:Addr}{fs:List (Str × V)}{H H':Hp}{k:V}(e:Same H H')(h:KAt C fs H k):KAt C fs H' k:=by
  obtain⟨p,dx,rfl,h⟩:=h
  exact⟨p,dx,rfl,e _ _ h⟩
def spBin(C:Addr)(fs:List (Str × V))(S:SR)(is:Hp→V→S.W→Prop)(f:S.W→S.W→S.W):Sp:=fun vs H Q _=>∃k x y a b m n,vs=[k,x,y]∧
  (KAt C fs H k∧is H x a∧is H y b∧S.sz m a∧S.sz n b∧m+n≤60000000)∧∀v H',Same H H'→is H' v (f a b)→Q v H'
def spNul(C:Addr)(fs:List (Str × V))(S:SR)(is:Hp→V→S.W→Prop)(z:S.W):Sp:=fun vs H Q _=>∃k,vs=[k]∧KAt C fs H k∧∀v H',Same H H'→is H' v z→Q v H'
structure KindR(P:Program)(w:World)(K:PySem.W.Frag)(mg:Str→Option Value)(base:Heap)where
  S:SR
  C:Addr
  fs:List (Str × V)
  cl:Cls K C
  is:Hp→V→S.W→Prop
  same:∀{H H':Hp} {v:V} {x:S.W},SameT H H'→is H v x→is H' v x
  isd:∀{H:Hp} {v:V} {x:S.W},is H v x→Is K H v (S.data x)
  f_plus:Addr
  d_plus:FuncData
  t_plus:Meth K C "plus" f_plus
  b_plus:Binds K d_plus ["self","x","y"] []
  l_plus:fs.lookup ("plus":Str)=none
  G_plus:FnOk P w K mg base CX0 40 f_plus d_plus ["self","x","y"] (spBin C fs S is S.add)
  f_times:Addr
  d_times:FuncData
  t_times:Meth K C "times" f_times
  b_times:Binds K d_times ["self","x","y"] []
  l_times:fs.lookup ("times":Str)=none
  G_times:FnOk P w K mg base CX0 40 f_times d_times ["self","x","y"] (spBin C fs S is S.mul)
  f_nought:Addr
  d_nought:FuncData
  t_nought:Meth K C "nought" f_nought
  b_nought:Binds K d_nought ["self"] []
  l_nought:fs.lookup ("nought":Str)=none
  G_nought:FnOk P w K mg base CX0 40 f_nought d_nought ["self"] (spNul C fs S is S.zero)
  f_one:Addr
  d_one:FuncData
  t_one:Meth K C "one" f_one
  b_one:Binds K d_one ["self"] []
  l_one:fs.lookup ("one":Str)=none
  G_one:FnOk P w K mg base CX0 40 f_one d_one ["self"] (spNul C fs S is S.one)
section
variable{P:Program}{w:World}{K:PySem.W.Frag}{mg:Str→Option Value}{base:Heap}
theorem KindR.neD(R:KindR P w K mg base){H:Hp}{x y:V}{a b:R.S.W}{Q:VK}(hx:R.is H x a)(hy:R.is H y b)(e:a=b)(q:Q (.bl false) H):rNeD K x y H Q:=
  ⟨_,_,R.isd hx,R.isd hy,R.S.sh _,R.S.sh _,R.S.nm _ _,by subst e;rw[R.S.eq];exact q⟩
theorem KindR.neT(R:KindR P w K mg base){H:Hp}{x y:V}{a b:R.S.W}{Q:VK}(hx:R.is H x a)(hy:R.is H y b)(e:a≠b)(q:Q (.bl true) H):rNeD K x y H Q:=
  ⟨_,_,R.isd hx,R.isd hy,R.S.sh _,R.S.sh _,R.S.nm _ _,by rw[R.S.ne _ _ e];exact q⟩
end
def IsF(H:Hp)(v:V)(a b:Int):Prop:=∃p,v=.ref p∧H p=some (.tup [.int a,.int b])
theorem IsF.same{H H':Hp}{v:V}{a b:Int}(e:SameT H H')(h:IsF H v a b):IsF H' v a b:=by
  obtain⟨p,rfl,h⟩:=h
  exact⟨p,rfl,e _ _ h⟩
theorem IsF.is{K:PySem.W.Frag}{H:Hp}{v:V}{a b:Int}(h:IsF H v a b):Is K H v (.tuple [.int a,.int b]):=by
  obtain⟨p,rfl,h⟩:=h
  exact .tup (SqT.of h) (.cons (.int _) (.cons (.int _) .nil))
theorem IsF.new{H:Hp}{p:Addr}{a b:Int}:IsF (upd H p (.tup [.int a,.int b])) (.ref p) a b:=⟨p,rfl,upd_same⟩
def isFr(H:Hp)(v:V)(x:Fr):Prop:=IsF H v x.t x.b
def isRe(p:Int)(_:Hp)(v:V)(x:Re p):Prop:=v=.int x.x
def cV:Option Int→V
  | none=>.non
  | some i=>.int i
def isCo(_:Hp)(v:V)(x:Option Int):Prop:=v=cV x
def isTr(_:Hp)(v:V)(x:Bool):Prop:=v=.bl x
def pfs(p:Int):List (Str × V):=putF "prime" (.int p) []
theorem pfs_prime(p:Int):(pfs p).lookup ("prime":Str)=some (.int p):=by
  unfold pfs
  rw[lookup_putF,if_pos rfl]
theorem pfs_no(p:Int){m:Str}(h:¬m="prime"):(pfs p).lookup m=none:=by
  unfold pfs
  rw[lookup_putF,if_neg h];rfl
theorem same_made{H:Hp}{C x dx:Addr}{fs:List (Str × V)}(n:H x=none)(m:H dx=none):Same H (upd (upd H dx (.own x)) x (.ins C dx fs)):=fun b o e=>by
  rw[upd_ne (ne_of_none e n),upd_ne (ne_of_none e m)];exact e
theorem cut_take(xs:List V)(k:Nat):cutV xs none (some (k:Int))=xs.take k:=by
  unfold cutV
  rw[HT.sIx_none,HT.sIx_nat,List.drop_zero,Nat.sub_zero]
  by_cases h:k≤xs.length
  · rw[Nat.min_eq_left h]
  · rw[Nat.min_eq_right (by omega),List.take_length,List.take_of_length_le (by omega)]
theorem sz_bitsG{x:Int}{n:Nat}(h:x.natAbs≤2 ^ n):Builtin.Int.intBits x≤n+1:=intBits_le_iff.mpr (Nat.lt_of_le_of_lt h (Nat.pow_lt_pow_right (by decide) (Nat.lt_succ_self _)))
theorem mulG{x y:Int}{m n:Nat}(h1:x.natAbs≤2 ^ m)(h2:y.natAbs≤2 ^ n)(h:m+n≤60000000):CMulG x y:=by
  have a:=sz_bitsG h1
  have b:=sz_bitsG h2
  show _≤2 ^ 27
  have e:(2:Nat) ^ 27=134217728:=by decide
  omega
def KindR.Wt{P:Program}{w:World}{K:PySem.W.Frag}{mg:Str→Option Value}{base:Heap}(R:KindR P w K mg base)(x:Nat→R.S.W)(m:Nat):Nat→V→Hp→Prop:=fun j u H=>R.is H u (x j)∧R.S.lv m 32 (x j)
abbrev KindR.Row{P:Program}{w:World}{K:PySem.W.Frag}{mg:Str→Option Value}{base:Heap}(R:KindR P w K mg base)(n:Nat)(x:Nat→R.S.W)(m:Nat):V→Hp→Prop:=TupOf (R.Wt x m) n
abbrev KindR.Seq{P:Program}{w:World}{K:PySem.W.Frag}{mg:Str→Option Value}{base:Heap}(R:KindR P w K mg base)(n:Nat)(x:Nat→R.S.W)(m:Nat):V→Hp→Prop:=SeqOf K (R.Wt x m) n
abbrev KindR.Tab{P:Program}{w:World}{K:PySem.W.Frag}{mg:Str→Option Value}{base:Heap}(R:KindR P w K mg base)(h n:Nat)(x:Nat→Nat→R.S.W)(m:Nat):V→Hp→Prop:=TupOf (fun j u H=>R.Row n (x j) m u H) h
section
variable{P:Program}{w:World}{K:PySem.W.Frag}{mg:Str→Option Value}{base:Heap}{R:KindR P w K mg base}{h n m:Nat}{x:Nat→R.S.W}{y:Nat→Nat→R.S.W}{v:V}{H H':Hp}
theorem KindR.Wt.same(s:SameT H H'){j:Nat}(e:R.Wt x m j v H):R.Wt x m j v H':=⟨R.same s e.1,e.2⟩
theorem KindR.Row.same(s:SameT H H')(e:R.Row n x m v H):R.Row n x m v H':=e.mono s fun _ _ _ q=>KindR.Wt.same s q
theorem KindR.Seq.same(s:Same H H')(e:R.Seq n x m v H):R.Seq n x m v H':=e.mono s fun _ _ _ q=>KindR.Wt.same s.t q
theorem KindR.Tab.same(s:SameT H H')(e:R.Tab h n y m v H):R.Tab h n y m v H':=e.mono s fun _ _ _ q=>KindR.Row.same s q
end
end L2
namespace Mine
def sm(S:SR)(f:Nat→S.W):Nat→S.W
  | 0=>S.zero
  | n+1=>S.add (sm S f n) (f n)
section
variable{S:SR}
theorem sm_congr{f g:Nat→S.W}:∀{n:Nat},(∀i,i < n→f i=g i)→sm S f n=sm S g n
  | 0,_=>rfl
  | n+1,h=>by
    show S.add _ _=S.add _ _
    rw[sm_congr fun i hi=>h i (Nat.lt_succ_of_lt hi),h n (Nat.lt_succ_self n)]
theorem sm_zero:∀n:Nat,sm S (fun _=>S.zero) n=S.zero
  | 0=>rfl
  | n+1=>by show S.add _ _=_;rw[sm_zero n,S.add_zero]
end
end Mine
namespace Mine
section
variable{S:SR}{α β:Type}
theorem zero_add(x:S.W):S.add S.zero x=x:=by rw[S.add_comm,S.add_zero]
theorem zero_mul(x:S.W):S.mul S.zero x=S.zero:=by rw[S.mul_comm,S.mul_zero]
end
def hd(w:List Nat):Nat:=w.headD 0
def la(w:List Nat):Nat:=w.getLastD 0
section
variable(S:SR)(n:Nat)(st:Nat→S.W)(tb:Nat→Nat→Nat→S.W)(wd:Nat→Nat)
def ahd:Nat→Nat→S.W
  | 0=>st
  | k+1=>fun j=>sm S (fun i=>S.mul (ahd k i) (tb (wd k) i j)) n
variable{S n st tb wd}
end
end Mine
namespace L2
open PySem PySem.Spec PyProof.Rows
def sg1(z:Str)(i:Nat):Str:=⟨#[(z.cps[i]?).getD 0]⟩
def met(z:Str)(i:Nat)(k:Str):Bool:=(List.range i).any fun j=>k == sg1 z j
section
variable{prog:Program}{w:World}{A:Around}{R:Result→Shared→Prop}{I:Addr}{fp wr:List Addr}{G:Array GenState→Array GenState→Prop}{St:Nat→Shared→Prop}
end
section
variable{prog:Program}{w:World}{A:Around}{E:Value→Shared→Prop}{s:Shared}
set_option maxRecDepth 100000 in
end
end L2
namespace L2
open PySem PySem.Spec PyProof.Rows
end L2
namespace L2
open PySem PySem.Spec PyProof.Rows
def revS(z:Str):Str:=⟨z.cps.toList.reverse.toArray⟩
theorem sliceBy_rev(z:Str)(uk:Tok):Txt.sliceBy z none none (-1,uk)=revS z:=by
  unfold Txt.sliceBy
  rw[if_neg (by simp)]
  show(⟨((Builtin.Str.strSliceIndices none none (-1) z.length).filterMap (z.cps[·]?)).toArray⟩:Str)=_
  have e:Builtin.Str.strSliceIndices none none (-1) z.length=(List.range z.cps.size).reverse:=by
    show sliceRange ((z.length:Int) - 1) (-1) (-1)=_
    rw[PySem.W.krv_sliceRange,PySem.W.krv_range];rfl
  rw[e,List.filterMap_reverse,PySem.W.krv_all];rfl
theorem pe_rvs{X:Cx}{e st:Expr}{te ts:TE}{p2 pos:Pos}(he:PE X e te)(hst:PE X st ts):PE X (.Subscript e (.Slice none none (some st) p2) pos) (fun σ H Q=>te σ H fun x H1=>ts σ H1 fun y H2=>∃z,x=.str z∧y=.int (-1)∧z.length≤sizeLine∧Q (.str (revS z)) H2):=by
  intro pins s σ H Q I h
  refine Subscript_ (thn (he pins s σ H _ I h) fun v s1 ⟨x,H1,I1,r1,q1⟩=>?_)
  refine wpAny_Slice ?_
  rw[evalPart_none]
  refine wpAny_pure ?_
  refine wpAny_pure ?_
  show wpAny _ _ (eval st X.env) _ _ _
  refine thn (hst pins s1 σ H1 _ I1 q1) fun vk s2 ⟨y,H2,I2,r2,z,ex,ey,hz,q⟩=>?_
  subst ex ey
  obtain⟨t,rfl⟩:=r1
  obtain⟨uk,rfl⟩:=r2
  have I4:Inv X pins σ H2 { s2 with heap:=s2.heap.push { cls:=.type "slice",data:=.fields #[.none,.none,.int (-1) uk] } }:=I2.kept (t':=s2.toks) fun b ob q=>Heap.get?_push_of_some _ q
  refine tail_any (T:="str") (ops:=[.ref s2.heap.objs.size,.str z t]) (typeIs_str _ _ _) F.slot_str_getitem.lookup (wpAny_getItem_str_slice (l:=none) (u:=none) (st:=some (-1,uk)) ⟨_,Heap.get?_push_size _ rfl,rfl,rfl⟩ rfl
    (post_val_or_str ⟨Nat.le_trans (Txt.sliceBy_le z none none (-1,uk) (show(-1:Int)≠0 by decide)) hz,fun t' c=>?_⟩)) (by with_unfolding_all rfl)
  have e:=sliceBy_rev z uk
  unfold Txt.sliceBy at e
  rw[e]
  exact⟨.str (revS z),H2,I4.tok _,⟨_,rfl⟩,q⟩
end L2
set_option maxHeartbeats 0
lay_quick PySem.Challenge.pw_weighwalk_k27_building_refused
namespace H27
open PySem PySem.W
noncomputable section
abbrev q0:=SL.s658472552662922059x5
abbrev q1:=SL.s14018661285674007319x4
abbrev q2:=SL.s7097527257260152453x26
abbrev q3:=SL.s6070975301684473832x10
abbrev q4:=SL.s11030030927630378310x26
abbrev q5:=SL.s10062305145149207511x16
abbrev q6:=SL.s17162191345867700912x4
abbrev q7:=SL.s5946037652744460706x9
abbrev q8:=SL.s4278001404047624695x13
abbrev q9:=SL.s2742458400755230247x6
abbrev q10:=SL.s4209523147560561109x18
abbrev q11:=SL.s14755015743595814543x17
abbrev q12:=SL.s4290257624100764138x5
abbrev q13:=SL.s4860613602091757760x24
abbrev q14:=SL.s11443829558043349243x14
def i(n:Int):Value:=.int n 0
def r(n:Addr):Value:=.ref n
def tu(a:Array Value)(n:Nat):Obj:=⟨.type SL.s2766695959194262286x5,none,.seq a n,#[]⟩
def co(a:Array Value):Obj:=⟨.type SL.s5856160107412720595x4,none,.fields a,#[]⟩
def fo(n q:Str)(s:Stmt)(m c:Value):Obj:=⟨.type SL.s7174869446012820540x8,none,.func ⟨n,q,L2.defArgs s,.stmts (L2.defBody s),L2.defScope s,3,[],.none,.none,.none,m,none,c,.none,0⟩,#[]⟩
def f0(n q:Str)(s:Stmt):Obj:=⟨.none,none,.func ⟨n,q,L2.defArgs s,.stmts (L2.defBody s),L2.defScope s,0,[],.none,.none,.none,.none,none,.none,.none,0⟩,#[]⟩
abbrev nd:=@BT.node
abbrev nl:=BT.nil
abbrev lf(x:Obj):BT:=.node x .nil .nil
abbrev kh:=@PySem.PyData.keyHash
def topT(i:Nat):Stmt:=Fast.tw2090489148824371714.main.body.getD i (.Pass ⟨0,0,0,0⟩)
def s0:Str:=⟨⟨[60,109,111,100,117,108,101,62]⟩⟩
def s1:Str:=⟨⟨[47,99,108,97,105,109,47,99,117,116,46,112,121]⟩⟩
def s2:Str:=⟨⟨[95,95,109,97,105,110,95,95]⟩⟩
def s3:Str:=⟨⟨[95,95,110,97,109,101,95,95]⟩⟩
def s4:Str:=⟨⟨[119,101,105,103,104,119,97,108,107,46,107,105,110,100,115]⟩⟩
def s5:Str:=⟨⟨[95,95,100,111,99,95,95]⟩⟩
def s6:Str:=⟨⟨[95,95,112,97,99,107,97,103,101,95,95]⟩⟩
def s7:Str:=⟨⟨[95,95,108,111,97,100,101,114,95,95]⟩⟩
def s8:Str:=⟨⟨[95,95,115,112,101,99,95,95]⟩⟩
def s9:Str:=⟨⟨[95,95,97,110,110,111,116,97,116,105,111,110,115,95,95]⟩⟩
def s10:Str:=⟨⟨[95,95,98,117,105,108,116,105,110,115,95,95]⟩⟩
def s11:Str:=⟨⟨[95,95,102,105,108,101,95,95]⟩⟩
def s12:Str:=⟨⟨[95,95,99,97,99,104,101,100,95,95]⟩⟩
def s13:Str:=⟨⟨[95,119,97,108,108]⟩⟩
def s14:Str:=⟨⟨[87,101,105,103,104,69,114,114,111,114]⟩⟩
def s15:Str:=⟨⟨[78,111,75,105,110,100]⟩⟩
def s16:Str:=⟨⟨[78,111,87,101,105,103,104,116]⟩⟩
def s17:Str:=⟨⟨[78,111,87,111,114,100]⟩⟩
def s18:Str:=⟨⟨[85,110,108,105,107,101]⟩⟩
def s19:Str:=⟨⟨[78,111,67,108,111,115,117,114,101]⟩⟩
def s20:Str:=⟨⟨[84,111,111,71,114,101,97,116]⟩⟩
def s21:Str:=⟨⟨[78,111,84,101,120,116]⟩⟩
def s22:Str:=⟨⟨[110,111,117,103,104,116,115]⟩⟩
def s23:Str:=⟨⟨[117,110,105,116]⟩⟩
def s24:Str:=⟨⟨[116,105,109,101,115,95,114,111,119]⟩⟩
def s25:Str:=⟨⟨[99,111,108,117,109,110,95,97,116]⟩⟩
def s26:Str:=⟨⟨[99,111,108,117,109,110,115,95,111,102]⟩⟩
def s27:Str:=⟨⟨[100,111,116]⟩⟩
def s28:Str:=⟨⟨[114,111,119,95,98,121]⟩⟩
def s29:Str:=⟨⟨[98,121,95,99,111,108,117,109,110]⟩⟩
def s30:Str:=⟨⟨[77,79,83,84,95,82,79,79,77,83]⟩⟩
def s31:Str:=⟨⟨[105,115,95,119,111,114,100]⟩⟩
def s32:Str:=⟨⟨[110,101,101,100,95,119,111,114,100]⟩⟩
def s33:Str:=⟨⟨[114,111,111,109,115]⟩⟩
def s34:Str:=⟨⟨[116,97,98,108,101,95,111,102]⟩⟩
def s35:Str:=⟨⟨[97,104,101,97,100]⟩⟩
def s36:Str:=⟨⟨[119,101,105,103,104,116]⟩⟩
def s37:Str:=⟨⟨[110,101,101,100,95,115,97,109,101,95,108,101,116,116,101,114,115]⟩⟩
def s38:Str:=⟨⟨[110,101,101,100,95,102,101,119,95,114,111,111,109,115]⟩⟩
def s39:Str:=⟨⟨[98,101,115,105,100,101]⟩⟩
def s40:Str:=⟨⟨[112,117,116,95,98,101,115,105,100,101]⟩⟩
def s41:Str:=⟨⟨[97,100,100,101,100]⟩⟩
def s42:Str:=⟨⟨[111,117,116,101,114]⟩⟩
def s43:Str:=⟨⟨[106,111,105,110,101,100]⟩⟩
def s44:Str:=⟨⟨[99,114,111,115,115,95,114,111,119]⟩⟩
def s45:Str:=⟨⟨[99,114,111,115,115,95,116,97,98,108,101]⟩⟩
def s46:Str:=⟨⟨[99,114,111,115,115,101,100]⟩⟩
def s47:Str:=⟨⟨[99,108,111,115,101,100,95,116,97,98,108,101]⟩⟩
def s48:Str:=⟨⟨[110,101,101,100,95,99,108,111,115,97,98,108,101]⟩⟩
def s49:Str:=⟨⟨[99,108,111,115,101,100]⟩⟩
def s50:Str:=⟨⟨[115,105,110,103,108,101,95,114,111,119]⟩⟩
def s51:Str:=⟨⟨[115,105,110,103,108,101]⟩⟩
def s52:Str:=⟨⟨[105,115,95,119,104,111,108,101]⟩⟩
def s53:Str:=⟨⟨[100,105,118,105,115,111,114]⟩⟩
def s54:Str:=⟨⟨[102,114,97,99,116,105,111,110]⟩⟩
def s55:Str:=⟨⟨[105,115,95,112,114,105,109,101]⟩⟩
def s56:Str:=⟨⟨[70,73,71,85,82,69,83]⟩⟩
def s57:Str:=⟨⟨[48,49,50,51,52,53,54,55,56,57]⟩⟩
def s58:Str:=⟨⟨[77,79,83,84,95,70,73,71,85,82,69,83]⟩⟩
def s59:Str:=⟨⟨[71,82,69,65,84,69,83,84,95,80,82,73,77,69]⟩⟩
def s60:Str:=⟨⟨[105,115,95,119,114,105,116,116,101,110]⟩⟩
def s61:Str:=⟨⟨[114,101,97,100,95,119,104,111,108,101]⟩⟩
def s62:Str:=⟨⟨[110,101,101,100,95,116,101,120,116]⟩⟩
def s63:Str:=⟨⟨[107]⟩⟩
def s64:Str:=⟨⟨[95,95,109,111,100,117,108,101,95,95]⟩⟩
def s65:Str:=⟨⟨[119,101,105,103,104,119,97,108,107,46,101,114,114,111,114,115]⟩⟩
def s66:Str:=⟨⟨[95,95,113,117,97,108,110,97,109,101,95,95]⟩⟩
def s67:Str:=⟨⟨[95,95,102,105,114,115,116,108,105,110,101,110,111,95,95]⟩⟩
def s68:Str:=⟨⟨[95,95,115,116,97,116,105,99,95,97,116,116,114,105,98,117,116,101,115,95,95]⟩⟩
def s69:Str:=⟨⟨[95,95,119,101,97,107,114,101,102,95,95]⟩⟩
def s70:Str:=⟨⟨[119,101,105,103,104,119,97,108,107,46,116,97,98,108,101,115]⟩⟩
def s71:Str:=⟨⟨[107,105,110,100]⟩⟩
def s72:Str:=⟨⟨[114,111,119]⟩⟩
def s73:Str:=⟨⟨[99,111,108,117,109,110]⟩⟩
def s74:Str:=⟨⟨[116,111,116,97,108]⟩⟩
def s75:Str:=⟨⟨[120]⟩⟩
def s76:Str:=⟨⟨[121]⟩⟩
def s77:Str:=⟨⟨[119,101,105,103,104,119,97,108,107,46,109,97,99,104,105,110,101,115]⟩⟩
def s78:Str:=⟨⟨[108,101,116,116,101,114,115]⟩⟩
def s79:Str:=⟨⟨[116,104,105,110,103]⟩⟩
def s80:Str:=⟨⟨[109,97,99,104,105,110,101]⟩⟩
def s81:Str:=⟨⟨[108,101,116,116,101,114]⟩⟩
def s82:Str:=⟨⟨[119,111,114,100]⟩⟩
def s83:Str:=⟨⟨[111,110,101]⟩⟩
def s84:Str:=⟨⟨[111,116,104,101,114]⟩⟩
def s85:Str:=⟨⟨[119,101,105,103,104,119,97,108,107,46,98,117,105,108,100,105,110,103]⟩⟩
def s86:Str:=⟨⟨[99,111,117,110,116]⟩⟩
def s87:Str:=⟨⟨[115,116,97,114,116]⟩⟩
def s88:Str:=⟨⟨[116,97,98,108,101,115]⟩⟩
def s89:Str:=⟨⟨[102,105,114,115,116]⟩⟩
def s90:Str:=⟨⟨[115,101,99,111,110,100]⟩⟩
def s91:Str:=⟨⟨[115,116,101,112]⟩⟩
def s92:Str:=⟨⟨[116,111,108,100]⟩⟩
def s93:Str:=⟨⟨[101,109,112,116,121,95,119,101,105,103,104,116]⟩⟩
def s94:Str:=⟨⟨[112,108,97,99,101]⟩⟩
def s95:Str:=⟨⟨[119,101,105,103,104,119,97,108,107,46,114,97,116,105,111,115]⟩⟩
def s96:Str:=⟨⟨[103,114,101,97,116,101,115,116]⟩⟩
def s97:Str:=⟨⟨[114,101,115,116]⟩⟩
def s98:Str:=⟨⟨[108,101,102,116]⟩⟩
def s99:Str:=⟨⟨[116,111,112]⟩⟩
def s100:Str:=⟨⟨[98,111,116,116,111,109]⟩⟩
def s101:Str:=⟨⟨[115,104,97,114,101,100]⟩⟩
def s102:Str:=⟨⟨[110,117,109,98,101,114]⟩⟩
def s103:Str:=⟨⟨[102,97,99,116,111,114]⟩⟩
def s104:Str:=⟨⟨[116,101,120,116]⟩⟩
def s105:Str:=⟨⟨[108,97,119,95,119,101,105,103,104,119,97,108,107,95,107,50,55,95,98,117,105,108,100,105,110,103,95,114,101,102,117,115,101,100]⟩⟩
def s106:Str:=⟨⟨[75,105,110,100]⟩⟩
def s107:Str:=⟨⟨[70,105,101,108,100]⟩⟩
def s108:Str:=⟨⟨[80,105,99,107,105,110,103]⟩⟩
def s109:Str:=⟨⟨[70,114,97,99,116,105,111,110,115]⟩⟩
def s110:Str:=⟨⟨[82,101,115,105,100,117,101,115]⟩⟩
def s111:Str:=⟨⟨[67,111,115,116,115]⟩⟩
def s112:Str:=⟨⟨[84,114,117,116,104,115]⟩⟩
def s113:Str:=⟨⟨[95,108,97,119,95,110,101,120,116]⟩⟩
def s114:Str:=⟨⟨[95,108,97,119,95,115,116,97,116,101]⟩⟩
def s115:Str:=⟨⟨[95,108,97,119,95,110,111,117,103,104,116]⟩⟩
def s116:Str:=⟨⟨[95,95,100,105,99,116,95,95]⟩⟩
def s117:Str:=⟨⟨[105,115,95,102,105,101,108,100]⟩⟩
def s118:Str:=⟨⟨[112,105,99,107,115]⟩⟩
def s119:Str:=⟨⟨[115,101,108,102]⟩⟩
def s120:Str:=⟨⟨[70,105,101,108,100,46,105,115,95,102,105,101,108,100]⟩⟩
def s121:Str:=⟨⟨[70,105,101,108,100,46,112,105,99,107,115]⟩⟩
def s122:Str:=⟨⟨[109,105,110,117,115]⟩⟩
def s123:Str:=⟨⟨[105,110,118,101,114,115,101]⟩⟩
def s124:Str:=⟨⟨[80,105,99,107,105,110,103,46,105,115,95,102,105,101,108,100]⟩⟩
def s125:Str:=⟨⟨[80,105,99,107,105,110,103,46,112,105,99,107,115]⟩⟩
def s126:Str:=⟨⟨[80,105,99,107,105,110,103,46,109,105,110,117,115]⟩⟩
def s127:Str:=⟨⟨[80,105,99,107,105,110,103,46,105,110,118,101,114,115,101]⟩⟩
def s128:Str:=⟨⟨[110,111,117,103,104,116]⟩⟩
def s129:Str:=⟨⟨[112,108,117,115]⟩⟩
def s130:Str:=⟨⟨[116,105,109,101,115]⟩⟩
def s131:Str:=⟨⟨[105,115,95,119,101,105,103,104,116]⟩⟩
def s132:Str:=⟨⟨[115,104,111,119,110]⟩⟩
def s133:Str:=⟨⟨[114,101,97,100]⟩⟩
def s134:Str:=⟨⟨[70,114,97,99,116,105,111,110,115,46,116,111,108,100]⟩⟩
def s135:Str:=⟨⟨[70,114,97,99,116,105,111,110,115,46,110,111,117,103,104,116]⟩⟩
def s136:Str:=⟨⟨[70,114,97,99,116,105,111,110,115,46,111,110,101]⟩⟩
def s137:Str:=⟨⟨[70,114,97,99,116,105,111,110,115,46,112,108,117,115]⟩⟩
def s138:Str:=⟨⟨[70,114,97,99,116,105,111,110,115,46,116,105,109,101,115]⟩⟩
def s139:Str:=⟨⟨[70,114,97,99,116,105,111,110,115,46,109,105,110,117,115]⟩⟩
def s140:Str:=⟨⟨[70,114,97,99,116,105,111,110,115,46,105,110,118,101,114,115,101]⟩⟩
def s141:Str:=⟨⟨[70,114,97,99,116,105,111,110,115,46,105,115,95,119,101,105,103,104,116]⟩⟩
def s142:Str:=⟨⟨[70,114,97,99,116,105,111,110,115,46,115,104,111,119,110]⟩⟩
def s143:Str:=⟨⟨[112,105,101,99,101,115]⟩⟩
def s144:Str:=⟨⟨[70,114,97,99,116,105,111,110,115,46,114,101,97,100]⟩⟩
def s145:Str:=⟨⟨[95,95,105,110,105,116,95,95]⟩⟩
def s146:Str:=⟨⟨[112,114,105,109,101]⟩⟩
def s147:Str:=⟨⟨[82,101,115,105,100,117,101,115,46,95,95,105,110,105,116,95,95]⟩⟩
def s148:Str:=⟨⟨[82,101,115,105,100,117,101,115,46,116,111,108,100]⟩⟩
def s149:Str:=⟨⟨[82,101,115,105,100,117,101,115,46,110,111,117,103,104,116]⟩⟩
def s150:Str:=⟨⟨[82,101,115,105,100,117,101,115,46,111,110,101]⟩⟩
def s151:Str:=⟨⟨[82,101,115,105,100,117,101,115,46,112,108,117,115]⟩⟩
def s152:Str:=⟨⟨[82,101,115,105,100,117,101,115,46,116,105,109,101,115]⟩⟩
def s153:Str:=⟨⟨[82,101,115,105,100,117,101,115,46,109,105,110,117,115]⟩⟩
def s154:Str:=⟨⟨[82,101,115,105,100,117,101,115,46,105,110,118,101,114,115,101]⟩⟩
def s155:Str:=⟨⟨[82,101,115,105,100,117,101,115,46,105,115,95,119,101,105,103,104,116]⟩⟩
def s156:Str:=⟨⟨[82,101,115,105,100,117,101,115,46,115,104,111,119,110]⟩⟩
def s157:Str:=⟨⟨[82,101,115,105,100,117,101,115,46,114,101,97,100]⟩⟩
def s158:Str:=⟨⟨[67,111,115,116,115,46,116,111,108,100]⟩⟩
def s159:Str:=⟨⟨[67,111,115,116,115,46,110,111,117,103,104,116]⟩⟩
def s160:Str:=⟨⟨[67,111,115,116,115,46,111,110,101]⟩⟩
def s161:Str:=⟨⟨[67,111,115,116,115,46,112,108,117,115]⟩⟩
def s162:Str:=⟨⟨[67,111,115,116,115,46,116,105,109,101,115]⟩⟩
def s163:Str:=⟨⟨[67,111,115,116,115,46,105,115,95,119,101,105,103,104,116]⟩⟩
def s164:Str:=⟨⟨[67,111,115,116,115,46,115,104,111,119,110]⟩⟩
def s165:Str:=⟨⟨[67,111,115,116,115,46,114,101,97,100]⟩⟩
def s166:Str:=⟨⟨[84,114,117,116,104,115,46,116,111,108,100]⟩⟩
def s167:Str:=⟨⟨[84,114,117,116,104,115,46,110,111,117,103,104,116]⟩⟩
def s168:Str:=⟨⟨[84,114,117,116,104,115,46,111,110,101]⟩⟩
def s169:Str:=⟨⟨[84,114,117,116,104,115,46,112,108,117,115]⟩⟩
def s170:Str:=⟨⟨[84,114,117,116,104,115,46,116,105,109,101,115]⟩⟩
def s171:Str:=⟨⟨[84,114,117,116,104,115,46,105,115,95,119,101,105,103,104,116]⟩⟩
def s172:Str:=⟨⟨[84,114,117,116,104,115,46,115,104,111,119,110]⟩⟩
def s173:Str:=⟨⟨[84,114,117,116,104,115,46,114,101,97,100]⟩⟩
def s174:Str:=⟨⟨[95,108,97,119,95,115,116,97,116,101,95,104,101,114,101]⟩⟩
def s175:Str:=⟨⟨[95,108,97,119,95,109,97,110,121]⟩⟩
def s176:Str:=⟨⟨[95,108,97,119,95,102,111,117,110,100]⟩⟩
def s177:Str:=⟨⟨[95,108,97,119,95,115,99,114,105,112,116]⟩⟩
def s178:Str:=⟨⟨[95,108,97,119,95,115,101,101,100]⟩⟩
def s179:Str:=⟨⟨[95,108,97,119,95,99,101,108,108]⟩⟩
def s180:Str:=⟨⟨[95,108,97,119,95,115,111,114,116,95,104,101,114,101]⟩⟩
def s181:Str:=⟨⟨[95,108,97,119,95,111,110,101]⟩⟩
def s182:Str:=⟨⟨[95,108,97,119,95,115,111,114,116]⟩⟩
def s183:Str:=⟨⟨[95,108,97,119,95,107,105,110,100]⟩⟩
def s184:Str:=⟨⟨[95,108,97,119,95,108,101,116,116,101,114,115]⟩⟩
def s185:Str:=⟨⟨[95,108,97,119,95,109,97,99,104,105,110,101]⟩⟩
def s186:Str:=⟨⟨[95,108,97,119,95,111,116,104,101,114]⟩⟩
def s187:Str:=⟨⟨[95,108,97,119,95,109,97,100,101]⟩⟩
def s188:Str:=⟨⟨[95,108,97,119,95,114,101,102,117,115,101,100]⟩⟩
def s189:Str:=⟨⟨[95,108,97,119,95,116,119,111]⟩⟩
def s190:Str:=⟨⟨[95,108,97,119,95,111,110,101,95,109,111,114,101]⟩⟩
def s191:Str:=⟨⟨[95,108,97,119,95,119,111,114,100,115,95,109,97,100,101]⟩⟩
def s192:Str:=⟨⟨[108,97,119]⟩⟩
def s193:Str:=⟨⟨[95,108,97,119,95,119,97,121]⟩⟩
def s194:Str:=⟨⟨[95,108,97,119,95,112,114,105,109,101]⟩⟩
def s195:Str:=⟨⟨[95,108,97,119,95,112,111,111,108]⟩⟩
def s196:Str:=⟨⟨[95,108,97,119,95,108,101,116,116,101,114,115,95,104,101,114,101]⟩⟩
def s197:Str:=⟨⟨[95,108,97,119,95,107]⟩⟩
def s198:Str:=⟨⟨[95,108,97,119,95,97,116]⟩⟩
def s199:Str:=⟨⟨[95,108,97,119,95,107,105,110,100,95,104,101,114,101]⟩⟩
def s200:Str:=⟨⟨[95,108,97,119,95,111,110,101,95,104,101,114,101]⟩⟩
def s201:Str:=⟨⟨[95,108,97,119,95,111,116,104,101,114,95,104,101,114,101]⟩⟩
def s202:Str:=⟨⟨[95,108,97,119,95,99,97,117,103,104,116]⟩⟩
def s203:Str:=⟨⟨[101]⟩⟩
def s204:Str:=⟨⟨[95,108,97,119,95,115,105,122,101,115]⟩⟩
def s205:Str:=⟨⟨[95,108,97,119,95,98,101,121,111,110,100]⟩⟩
def s206:Str:=⟨⟨[95,108,97,119,95,103,114,101,97,116]⟩⟩
def s207:Str:=⟨⟨[95,108,97,119,95,117,110,108,105,107,101]⟩⟩
def s208:Str:=⟨⟨[95,108,97,119,95,109,97,99,104,105,110,101,95,104,101,114,101]⟩⟩
def s209:Str:=⟨⟨[95,108,97,119,95,108,105,110,101]⟩⟩
def s210:Str:=⟨⟨[95,108,97,119,95,104,101,97,118,121]⟩⟩
def o11a:Obj:=tu #[] 0
def o12a:Obj:=⟨.none,none,.fields #[],#[]⟩
def o13a:Obj:=co #[.str s0 182,.str s0 183,.str s1 184,i 1,i 0,i 0,i 0,i 0,r 11,.bool false,i 181,r 12,.none,.none,.none,.none,i 185,i 1,.str s1 186]
def o14a:Obj:=⟨.type q0,none,.plain,#[some (r 13),some (r 3),some (r 3),none,some (.str s2 164),none,some (r 0)]⟩
def o3_0(P:Params):Obj:=⟨.type q1,none,.dict #[⟨kh P s3,.str s3 165,.str s4 589⟩,⟨kh P s5,.str s5 166,.none⟩,⟨kh P s6,.str s6 167,.none⟩,⟨kh P s7,.str s7 168,.builtin q2⟩,⟨kh P s8,.str s8 169,.none⟩,⟨kh P s9,.str s9 170,r 6⟩,⟨kh P s10,.str s10 171,r 4⟩,⟨kh P s11,.str s11 173,.str s1 172⟩,⟨kh P s12,.str s12 174,.none⟩,⟨kh P s13,.str s13 193,r 21⟩,⟨kh P s14,.str s14 213,r 31⟩,⟨kh P s15,.str s15 229,r 44⟩,⟨kh P s16,.str s16 245,r 56⟩,⟨kh P s17,.str s17 261,r 68⟩,⟨kh P s18,.str s18 277,r 80⟩,⟨kh P s19,.str s19 293,r 92⟩,⟨kh P s20,.str s20 309,r 104⟩,⟨kh P s21,.str s21 325,r 116⟩,⟨kh P s22,.str s22 333,r 123⟩,⟨kh P s23,.str s23 339,r 128⟩,⟨kh P s24,.str s24 345,r 133⟩,⟨kh P s25,.str s25 351,r 138⟩,⟨kh P s26,.str s26 357,r 143⟩,⟨kh P s27,.str s27 369,r 150⟩,⟨kh P s28,.str s28 375,r 155⟩,⟨kh P s29,.str s29 381,r 160⟩,⟨kh P s30,.str s30 385,.int 20 384⟩,⟨kh P s31,.str s31 391,r 165⟩,⟨kh P s32,.str s32 399,r 172⟩,⟨kh P s33,.str s33 406,r 179⟩,⟨kh P s34,.str s34 414,r 186⟩,⟨kh P s35,.str s35 425,r 193⟩,⟨kh P s36,.str s36 434,r 200⟩,⟨kh P s37,.str s37 444,r 207⟩,⟨kh P s38,.str s38 451,r 214⟩,⟨kh P s39,.str s39 457,r 219⟩,⟨kh P s40,.str s40 463,r 224⟩,⟨kh P s41,.str s41 472,r 231⟩,⟨kh P s42,.str s42 478,r 236⟩,⟨kh P s43,.str s43 492,r 243⟩,⟨kh P s44,.str s44 503,r 250⟩,⟨kh P s45,.str s45 509,r 255⟩,⟨kh P s46,.str s46 515,r 260⟩,⟨kh P s47,.str s47 521,r 265⟩,⟨kh P s48,.str s48 529,r 272⟩,⟨kh P s49,.str s49 535,r 277⟩,⟨kh P s50,.str s50 545,r 284⟩,⟨kh P s51,.str s51 551,r 289⟩,⟨kh P s52,.str s52 560,r 296⟩,⟨kh P s53,.str s53 571,r 303⟩,⟨kh P s54,.str s54 580,r 310⟩,⟨kh P s55,.str s55 588,r 317⟩,⟨kh P s56,.str s56 592,.str s57 591⟩,⟨kh P s58,.str s58 594,.int 30 593⟩,⟨kh P s59,.str s59 596,.int 1000000 595⟩,⟨kh P s60,.str s60 602,r 322⟩,⟨kh P s61,.str s61 609,r 329⟩,⟨kh P s62,.str s62 616,r 336⟩] 58,#[]⟩
def o12_0:Obj:=⟨.none,none,.fields #[i 1,i 0,r 20,i 5,i 0,r 27,i 7,i 0,r 40,i 9,i 0,r 52,i 11,i 0,r 64,i 13,i 0,r 76,i 15,i 0,r 88,i 17,i 0,r 100,i 19,i 0,r 112,i 22,i 0,r 122,i 24,i 0,r 127,i 26,i 0,r 132,i 28,i 0,r 137,i 30,i 0,r 142,i 34,i 0,r 149,i 39,i 0,r 154,i 41,i 0,r 159,i 45,i 0,r 164,i 47,i 0,r 171,i 50,i 0,r 178,i 52,i 0,r 185,i 54,i 0,r 192,i 60,i 0,r 199,i 63,i 0,r 206,i 66,i 0,r 213,i 69,i 0,r 218,i 73,i 0,r 223,i 77,i 0,r 230,i 81,i 0,r 235,i 83,i 0,r 242,i 92,i 0,r 249,i 97,i 0,r 254,i 102,i 0,r 259,i 108,i 0,r 264,i 113,i 0,r 271,i 116,i 0,r 276,i 123,i 0,r 283,i 127,i 0,r 288,i 137,i 0,r 295,i 139,i 0,r 302,i 147,i 0,r 309,i 156,i 0,r 316,i 169,i 0,r 321,i 178,i 0,r 328,i 182,i 0,r 335],#[]⟩
def o15:Obj:=tu #[] 0
def o16:Obj:=⟨.none,none,.fields #[],#[]⟩
def o17:Obj:=tu #[.str s63 190] 0
def o18:Obj:=tu #[] 0
def o19:Obj:=f0 s13 s13 (topT 0)
def o20:Obj:=co #[.str s13 187,.str s13 188,.str s1 189,i 1,i 1,i 0,i 0,i 3,r 15,.bool true,i 181,r 16,.none,r 17,r 18,r 19,i 191,i 1,.str s1 192]
def o21:Obj:=fo s13 s13 (topT 0) (.str s2 164) (r 20)
def o22:Obj:=tu #[.type q3] 0
def o23:Obj:=⟨.type q4,none,.fields #[.builtin q5,.type q6],#[]⟩
def o24(P:Params):Obj:=⟨.type q1,none,.dict #[⟨kh P s64,.str s64 203,.str s65 194⟩,⟨kh P s66,.str s66 205,.str s14 204⟩,⟨kh P s67,.str s67 207,.int 5 206⟩,⟨kh P s68,.str s68 208,r 29⟩] 4,#[]⟩
def o25:Obj:=tu #[] 0
def o26:Obj:=⟨.none,none,.fields #[],#[]⟩
def o27:Obj:=co #[.str s14 198,.str s14 199,.str s1 200,i 5,i 0,i 0,i 0,i 0,r 25,.bool false,i 181,r 26,.none,.none,.none,.none,i 201,i 5,.str s1 202]
def o28:Obj:=⟨.type q0,none,.plain,#[some (r 27),some (r 3),some (r 24),none,some (.str s65 194),none,some (r 0)]⟩
def o29:Obj:=tu #[] 0
def o30(P:Params):Obj:=⟨.type q1,none,.dict #[⟨kh P s64,.str s64 203,.str s65 194⟩,⟨kh P s67,.str s67 207,.int 5 206⟩,⟨kh P s68,.str s68 208,r 29⟩,⟨kh P s69,.str s69 210,r 32⟩,⟨kh P s5,.str s5 211,.none⟩] 3,#[]⟩
def o31:Obj:=⟨.type q6,none,.cls ⟨s14,[.type q3],[r 31,.type q3,.type q7,.type q8,.type q9],30,s14,true,[],[r 44,r 56,r 68,r 80,r 92,r 104,r 116],false,none,false⟩,#[some (r 22),none,some (.str s14 196),some (.str s14 204),some (.builtin q10),some (.bool true)]⟩
def o32:Obj:=⟨.type q11,none,.fields #[.str s69 209,r 31,.builtin SL.s10220274742760427390x26,.none],#[]⟩
def o33:Obj:=⟨.type q12,none,.fields #[r 31,r 31,r 31],#[]⟩
def o34:Obj:=⟨.type q4,none,.fields #[.builtin q13,r 31],#[]⟩
def o35:Obj:=tu #[r 31] 0
def o36:Obj:=⟨.type q4,none,.fields #[.builtin q5,.type q6],#[]⟩
def o37(P:Params):Obj:=⟨.type q1,none,.dict #[⟨kh P s64,.str s64 221,.str s65 194⟩,⟨kh P s66,.str s66 223,.str s15 222⟩,⟨kh P s67,.str s67 225,.int 7 224⟩,⟨kh P s68,.str s68 226,r 42⟩] 4,#[]⟩
def o38:Obj:=tu #[] 0
def o39:Obj:=⟨.none,none,.fields #[],#[]⟩
def o40:Obj:=co #[.str s15 216,.str s15 217,.str s1 218,i 7,i 0,i 0,i 0,i 0,r 38,.bool false,i 181,r 39,.none,.none,.none,.none,i 219,i 7,.str s1 220]
def o41:Obj:=⟨.type q0,none,.plain,#[some (r 40),some (r 3),some (r 37),none,some (.str s65 194),none,some (r 0)]⟩
def o42:Obj:=tu #[] 0
def o43(P:Params):Obj:=⟨.type q1,none,.dict #[⟨kh P s64,.str s64 221,.str s65 194⟩,⟨kh P s67,.str s67 225,.int 7 224⟩,⟨kh P s68,.str s68 226,r 42⟩,⟨kh P s5,.str s5 227,.none⟩] 2,#[]⟩
def o44:Obj:=⟨.type q6,none,.cls ⟨s15,[r 31],[r 44,r 31,.type q3,.type q7,.type q8,.type q9],43,s15,true,[],[],false,none,false⟩,#[some (r 35),none,some (.str s15 214),some (.str s15 222),some (.builtin q10),some (.bool true)]⟩
def o45:Obj:=⟨.type q12,none,.fields #[r 44,r 44,r 44],#[]⟩
def o46:Obj:=⟨.type q4,none,.fields #[.builtin q13,r 44],#[]⟩
def o47:Obj:=tu #[r 31] 0
def o48:Obj:=⟨.type q4,none,.fields #[.builtin q5,.type q6],#[]⟩
def o49(P:Params):Obj:=⟨.type q1,none,.dict #[⟨kh P s64,.str s64 237,.str s65 194⟩,⟨kh P s66,.str s66 239,.str s16 238⟩,⟨kh P s67,.str s67 241,.int 9 240⟩,⟨kh P s68,.str s68 242,r 54⟩] 4,#[]⟩
def o50:Obj:=tu #[] 0
def o51:Obj:=⟨.none,none,.fields #[],#[]⟩
def o52:Obj:=co #[.str s16 232,.str s16 233,.str s1 234,i 9,i 0,i 0,i 0,i 0,r 50,.bool false,i 181,r 51,.none,.none,.none,.none,i 235,i 9,.str s1 236]
def o53:Obj:=⟨.type q0,none,.plain,#[some (r 52),some (r 3),some (r 49),none,some (.str s65 194),none,some (r 0)]⟩
def o54:Obj:=tu #[] 0
def o55(P:Params):Obj:=⟨.type q1,none,.dict #[⟨kh P s64,.str s64 237,.str s65 194⟩,⟨kh P s67,.str s67 241,.int 9 240⟩,⟨kh P s68,.str s68 242,r 54⟩,⟨kh P s5,.str s5 243,.none⟩] 2,#[]⟩
def o56:Obj:=⟨.type q6,none,.cls ⟨s16,[r 31],[r 56,r 31,.type q3,.type q7,.type q8,.type q9],55,s16,true,[],[],false,none,false⟩,#[some (r 47),none,some (.str s16 230),some (.str s16 238),some (.builtin q10),some (.bool true)]⟩
def o57:Obj:=⟨.type q12,none,.fields #[r 56,r 56,r 56],#[]⟩
def o58:Obj:=⟨.type q4,none,.fields #[.builtin q13,r 56],#[]⟩
def o59:Obj:=tu #[r 31] 0
def o60:Obj:=⟨.type q4,none,.fields #[.builtin q5,.type q6],#[]⟩
def o61(P:Params):Obj:=⟨.type q1,none,.dict #[⟨kh P s64,.str s64 253,.str s65 194⟩,⟨kh P s66,.str s66 255,.str s17 254⟩,⟨kh P s67,.str s67 257,.int 11 256⟩,⟨kh P s68,.str s68 258,r 66⟩] 4,#[]⟩
def o62:Obj:=tu #[] 0
def o63:Obj:=⟨.none,none,.fields #[],#[]⟩
def o64:Obj:=co #[.str s17 248,.str s17 249,.str s1 250,i 11,i 0,i 0,i 0,i 0,r 62,.bool false,i 181,r 63,.none,.none,.none,.none,i 251,i 11,.str s1 252]
def o65:Obj:=⟨.type q0,none,.plain,#[some (r 64),some (r 3),some (r 61),none,some (.str s65 194),none,some (r 0)]⟩
def o66:Obj:=tu #[] 0
def o67(P:Params):Obj:=⟨.type q1,none,.dict #[⟨kh P s64,.str s64 253,.str s65 194⟩,⟨kh P s67,.str s67 257,.int 11 256⟩,⟨kh P s68,.str s68 258,r 66⟩,⟨kh P s5,.str s5 259,.none⟩] 2,#[]⟩
def o68:Obj:=⟨.type q6,none,.cls ⟨s17,[r 31],[r 68,r 31,.type q3,.type q7,.type q8,.type q9],67,s17,true,[],[],false,none,false⟩,#[some (r 59),none,some (.str s17 246),some (.str s17 254),some (.builtin q10),some (.bool true)]⟩
def o69:Obj:=⟨.type q12,none,.fields #[r 68,r 68,r 68],#[]⟩
def o70:Obj:=⟨.type q4,none,.fields #[.builtin q13,r 68],#[]⟩
def o71:Obj:=tu #[r 31] 0
def o72:Obj:=⟨.type q4,none,.fields #[.builtin q5,.type q6],#[]⟩
def o73(P:Params):Obj:=⟨.type q1,none,.dict #[⟨kh P s64,.str s64 269,.str s65 194⟩,⟨kh P s66,.str s66 271,.str s18 270⟩,⟨kh P s67,.str s67 273,.int 13 272⟩,⟨kh P s68,.str s68 274,r 78⟩] 4,#[]⟩
def o74:Obj:=tu #[] 0
def o75:Obj:=⟨.none,none,.fields #[],#[]⟩
def o76:Obj:=co #[.str s18 264,.str s18 265,.str s1 266,i 13,i 0,i 0,i 0,i 0,r 74,.bool false,i 181,r 75,.none,.none,.none,.none,i 267,i 13,.str s1 268]
def o77:Obj:=⟨.type q0,none,.plain,#[some (r 76),some (r 3),some (r 73),none,some (.str s65 194),none,some (r 0)]⟩
def o78:Obj:=tu #[] 0
def o79(P:Params):Obj:=⟨.type q1,none,.dict #[⟨kh P s64,.str s64 269,.str s65 194⟩,⟨kh P s67,.str s67 273,.int 13 272⟩,⟨kh P s68,.str s68 274,r 78⟩,⟨kh P s5,.str s5 275,.none⟩] 2,#[]⟩
def o80:Obj:=⟨.type q6,none,.cls ⟨s18,[r 31],[r 80,r 31,.type q3,.type q7,.type q8,.type q9],79,s18,true,[],[],false,none,false⟩,#[some (r 71),none,some (.str s18 262),some (.str s18 270),some (.builtin q10),some (.bool true)]⟩
def o81:Obj:=⟨.type q12,none,.fields #[r 80,r 80,r 80],#[]⟩
def o82:Obj:=⟨.type q4,none,.fields #[.builtin q13,r 80],#[]⟩
def o83:Obj:=tu #[r 31] 0
def o84:Obj:=⟨.type q4,none,.fields #[.builtin q5,.type q6],#[]⟩
def o85(P:Params):Obj:=⟨.type q1,none,.dict #[⟨kh P s64,.str s64 285,.str s65 194⟩,⟨kh P s66,.str s66 287,.str s19 286⟩,⟨kh P s67,.str s67 289,.int 15 288⟩,⟨kh P s68,.str s68 290,r 90⟩] 4,#[]⟩
def o86:Obj:=tu #[] 0
def o87:Obj:=⟨.none,none,.fields #[],#[]⟩
def o88:Obj:=co #[.str s19 280,.str s19 281,.str s1 282,i 15,i 0,i 0,i 0,i 0,r 86,.bool false,i 181,r 87,.none,.none,.none,.none,i 283,i 15,.str s1 284]
def o89:Obj:=⟨.type q0,none,.plain,#[some (r 88),some (r 3),some (r 85),none,some (.str s65 194),none,some (r 0)]⟩
def o90:Obj:=tu #[] 0
def o91(P:Params):Obj:=⟨.type q1,none,.dict #[⟨kh P s64,.str s64 285,.str s65 194⟩,⟨kh P s67,.str s67 289,.int 15 288⟩,⟨kh P s68,.str s68 290,r 90⟩,⟨kh P s5,.str s5 291,.none⟩] 2,#[]⟩
def o92:Obj:=⟨.type q6,none,.cls ⟨s19,[r 31],[r 92,r 31,.type q3,.type q7,.type q8,.type q9],91,s19,true,[],[],false,none,false⟩,#[some (r 83),none,some (.str s19 278),some (.str s19 286),some (.builtin q10),some (.bool true)]⟩
def o93:Obj:=⟨.type q12,none,.fields #[r 92,r 92,r 92],#[]⟩
def o94:Obj:=⟨.type q4,none,.fields #[.builtin q13,r 92],#[]⟩
def o95:Obj:=tu #[r 31] 0
def o96:Obj:=⟨.type q4,none,.fields #[.builtin q5,.type q6],#[]⟩
def o97(P:Params):Obj:=⟨.type q1,none,.dict #[⟨kh P s64,.str s64 301,.str s65 194⟩,⟨kh P s66,.str s66 303,.str s20 302⟩,⟨kh P s67,.str s67 305,.int 17 304⟩,⟨kh P s68,.str s68 306,r 102⟩] 4,#[]⟩
def o98:Obj:=tu #[] 0
def o99:Obj:=⟨.none,none,.fields #[],#[]⟩
def o100:Obj:=co #[.str s20 296,.str s20 297,.str s1 298,i 17,i 0,i 0,i 0,i 0,r 98,.bool false,i 181,r 99,.none,.none,.none,.none,i 299,i 17,.str s1 300]
def o101:Obj:=⟨.type q0,none,.plain,#[some (r 100),some (r 3),some (r 97),none,some (.str s65 194),none,some (r 0)]⟩
def o102:Obj:=tu #[] 0
def o103(P:Params):Obj:=⟨.type q1,none,.dict #[⟨kh P s64,.str s64 301,.str s65 194⟩,⟨kh P s67,.str s67 305,.int 17 304⟩,⟨kh P s68,.str s68 306,r 102⟩,⟨kh P s5,.str s5 307,.none⟩] 2,#[]⟩
def o104:Obj:=⟨.type q6,none,.cls ⟨s20,[r 31],[r 104,r 31,.type q3,.type q7,.type q8,.type q9],103,s20,true,[],[],false,none,false⟩,#[some (r 95),none,some (.str s20 294),some (.str s20 302),some (.builtin q10),some (.bool true)]⟩
def o105:Obj:=⟨.type q12,none,.fields #[r 104,r 104,r 104],#[]⟩
def o106:Obj:=⟨.type q4,none,.fields #[.builtin q13,r 104],#[]⟩
def o107:Obj:=tu #[r 31] 0
def o108:Obj:=⟨.type q4,none,.fields #[.builtin q5,.type q6],#[]⟩
def o109(P:Params):Obj:=⟨.type q1,none,.dict #[⟨kh P s64,.str s64 317,.str s65 194⟩,⟨kh P s66,.str s66 319,.str s21 318⟩,⟨kh P s67,.str s67 321,.int 19 320⟩,⟨kh P s68,.str s68 322,r 114⟩] 4,#[]⟩
def o110:Obj:=tu #[] 0
def o111:Obj:=⟨.none,none,.fields #[],#[]⟩
def o112:Obj:=co #[.str s21 312,.str s21 313,.str s1 314,i 19,i 0,i 0,i 0,i 0,r 110,.bool false,i 181,r 111,.none,.none,.none,.none,i 315,i 19,.str s1 316]
def o113:Obj:=⟨.type q0,none,.plain,#[some (r 112),some (r 3),some (r 109),none,some (.str s65 194),none,some (r 0)]⟩
def o114:Obj:=tu #[] 0
def o115(P:Params):Obj:=⟨.type q1,none,.dict #[⟨kh P s64,.str s64 317,.str s65 194⟩,⟨kh P s67,.str s67 321,.int 19 320⟩,⟨kh P s68,.str s68 322,r 114⟩,⟨kh P s5,.str s5 323,.none⟩] 2,#[]⟩
def o116:Obj:=⟨.type q6,none,.cls ⟨s21,[r 31],[r 116,r 31,.type q3,.type q7,.type q8,.type q9],115,s21,true,[],[],false,none,false⟩,#[some (r 107),none,some (.str s21 310),some (.str s21 318),some (.builtin q10),some (.bool true)]⟩
def o117:Obj:=⟨.type q12,none,.fields #[r 116,r 116,r 116],#[]⟩
def o118:Obj:=⟨.type q4,none,.fields #[.builtin q13,r 116],#[]⟩
def o119:Obj:=tu #[] 0
def o120:Obj:=⟨.none,none,.fields #[],#[]⟩
def o121:Obj:=f0 s22 s22 (topT 11)
def o122:Obj:=co #[.str s22 328,.str s22 329,.str s1 330,i 22,i 2,i 0,i 0,i 3,r 119,.bool true,i 181,r 120,.none,.none,.none,r 121,i 331,i 22,.str s1 332]
def o123:Obj:=fo s22 s22 (topT 11) (.str s70 326) (r 122)
def o124:Obj:=tu #[] 0
def o125:Obj:=⟨.none,none,.fields #[],#[]⟩
def o126:Obj:=f0 s23 s23 (topT 12)
def o127:Obj:=co #[.str s23 334,.str s23 335,.str s1 336,i 24,i 3,i 0,i 0,i 3,r 124,.bool true,i 181,r 125,.none,.none,.none,r 126,i 337,i 24,.str s1 338]
def o128:Obj:=fo s23 s23 (topT 12) (.str s70 326) (r 127)
def o129:Obj:=tu #[] 0
def o130:Obj:=⟨.none,none,.fields #[],#[]⟩
def o131:Obj:=f0 s24 s24 (topT 13)
def o132:Obj:=co #[.str s24 340,.str s24 341,.str s1 342,i 26,i 3,i 0,i 0,i 3,r 129,.bool true,i 181,r 130,.none,.none,.none,r 131,i 343,i 26,.str s1 344]
def o133:Obj:=fo s24 s24 (topT 13) (.str s70 326) (r 132)
def o134:Obj:=tu #[] 0
def o135:Obj:=⟨.none,none,.fields #[],#[]⟩
def o136:Obj:=f0 s25 s25 (topT 14)
def o137:Obj:=co #[.str s25 346,.str s25 347,.str s1 348,i 28,i 2,i 0,i 0,i 3,r 134,.bool true,i 181,r 135,.none,.none,.none,r 136,i 349,i 28,.str s1 350]
def o138:Obj:=fo s25 s25 (topT 14) (.str s70 326) (r 137)
def o139:Obj:=tu #[] 0
def o140:Obj:=⟨.none,none,.fields #[],#[]⟩
def o141:Obj:=f0 s26 s26 (topT 15)
def o142:Obj:=co #[.str s26 352,.str s26 353,.str s1 354,i 30,i 1,i 0,i 0,i 3,r 139,.bool true,i 181,r 140,.none,.none,.none,r 141,i 355,i 30,.str s1 356]
def o143:Obj:=fo s26 s26 (topT 15) (.str s70 326) (r 142)
def o144:Obj:=tu #[] 0
def o145:Obj:=⟨.none,none,.fields #[],#[]⟩
def o146:Obj:=tu #[.str s71 361,.str s72 362,.str s73 363,.str s74 364,.str s75 365,.str s76 366] 0
def o147:Obj:=tu #[] 0
def o148:Obj:=f0 s27 s27 (topT 16)
def o149:Obj:=co #[.str s27 358,.str s27 359,.str s1 360,i 34,i 3,i 0,i 0,i 3,r 144,.bool true,i 181,r 145,.none,r 146,r 147,r 148,i 367,i 34,.str s1 368]
def o150:Obj:=fo s27 s27 (topT 16) (.str s70 326) (r 149)
def o151:Obj:=tu #[] 0
def o152:Obj:=⟨.none,none,.fields #[],#[]⟩
def o153:Obj:=f0 s28 s28 (topT 17)
def o154:Obj:=co #[.str s28 370,.str s28 371,.str s1 372,i 39,i 3,i 0,i 0,i 3,r 151,.bool true,i 181,r 152,.none,.none,.none,r 153,i 373,i 39,.str s1 374]
def o155:Obj:=fo s28 s28 (topT 17) (.str s70 326) (r 154)
def o156:Obj:=tu #[] 0
def o157:Obj:=⟨.none,none,.fields #[],#[]⟩
def o158:Obj:=f0 s29 s29 (topT 18)
def o159:Obj:=co #[.str s29 376,.str s29 377,.str s1 378,i 41,i 3,i 0,i 0,i 3,r 156,.bool true,i 181,r 157,.none,.none,.none,r 158,i 379,i 41,.str s1 380]
def o160:Obj:=fo s29 s29 (topT 18) (.str s70 326) (r 159)
def o161:Obj:=tu #[] 0
def o162:Obj:=⟨.none,none,.fields #[],#[]⟩
def o163:Obj:=f0 s31 s31 (topT 21)
def o164:Obj:=co #[.str s31 386,.str s31 387,.str s1 388,i 45,i 2,i 0,i 0,i 3,r 161,.bool true,i 181,r 162,.none,.none,.none,r 163,i 389,i 45,.str s1 390]
def o165:Obj:=fo s31 s31 (topT 21) (.str s77 382) (r 164)
def o166:Obj:=tu #[] 0
def o167:Obj:=⟨.none,none,.fields #[],#[]⟩
def o168:Obj:=tu #[.str s78 395,.str s79 396] 0
def o169:Obj:=tu #[] 0
def o170:Obj:=f0 s32 s32 (topT 22)
def o171:Obj:=co #[.str s32 392,.str s32 393,.str s1 394,i 47,i 2,i 0,i 0,i 3,r 166,.bool true,i 181,r 167,.none,r 168,r 169,r 170,i 397,i 47,.str s1 398]
def o172:Obj:=fo s32 s32 (topT 22) (.str s77 382) (r 171)
def o173:Obj:=tu #[] 0
def o174:Obj:=⟨.none,none,.fields #[],#[]⟩
def o175:Obj:=tu #[.str s80 403] 0
def o176:Obj:=tu #[] 0
def o177:Obj:=f0 s33 s33 (topT 23)
def o178:Obj:=co #[.str s33 400,.str s33 401,.str s1 402,i 50,i 1,i 0,i 0,i 3,r 173,.bool true,i 181,r 174,.none,r 175,r 176,r 177,i 404,i 50,.str s1 405]
def o179:Obj:=fo s33 s33 (topT 23) (.str s77 382) (r 178)
def o180:Obj:=tu #[] 0
def o181:Obj:=⟨.none,none,.fields #[],#[]⟩
def o182:Obj:=tu #[.str s80 410,.str s81 411] 0
def o183:Obj:=tu #[] 0
def o184:Obj:=f0 s34 s34 (topT 24)
def o185:Obj:=co #[.str s34 407,.str s34 408,.str s1 409,i 52,i 2,i 0,i 0,i 3,r 180,.bool true,i 181,r 181,.none,r 182,r 183,r 184,i 412,i 52,.str s1 413]
def o186:Obj:=fo s34 s34 (topT 24) (.str s77 382) (r 185)
def o187:Obj:=tu #[] 0
def o188:Obj:=⟨.none,none,.fields #[],#[]⟩
def o189:Obj:=tu #[.str s71 418,.str s80 419,.str s82 420,.str s72 421,.str s81 422] 0
def o190:Obj:=tu #[] 0
def o191:Obj:=f0 s35 s35 (topT 25)
def o192:Obj:=co #[.str s35 415,.str s35 416,.str s1 417,i 54,i 3,i 0,i 0,i 3,r 187,.bool true,i 181,r 188,.none,r 189,r 190,r 191,i 423,i 54,.str s1 424]
def o193:Obj:=fo s35 s35 (topT 25) (.str s77 382) (r 192)
def o194:Obj:=tu #[] 0
def o195:Obj:=⟨.none,none,.fields #[],#[]⟩
def o196:Obj:=tu #[.str s71 429,.str s80 430,.str s82 431] 0
def o197:Obj:=tu #[] 0
def o198:Obj:=f0 s36 s36 (topT 26)
def o199:Obj:=co #[.str s36 426,.str s36 427,.str s1 428,i 60,i 3,i 0,i 0,i 3,r 194,.bool true,i 181,r 195,.none,r 196,r 197,r 198,i 432,i 60,.str s1 433]
def o200:Obj:=fo s36 s36 (topT 26) (.str s77 382) (r 199)
def o201:Obj:=tu #[] 0
def o202:Obj:=⟨.none,none,.fields #[],#[]⟩
def o203:Obj:=tu #[.str s83 440,.str s84 441] 0
def o204:Obj:=tu #[] 0
def o205:Obj:=f0 s37 s37 (topT 28)
def o206:Obj:=co #[.str s37 437,.str s37 438,.str s1 439,i 63,i 2,i 0,i 0,i 3,r 201,.bool true,i 181,r 202,.none,r 203,r 204,r 205,i 442,i 63,.str s1 443]
def o207:Obj:=fo s37 s37 (topT 28) (.str s85 435) (r 206)
def o208:Obj:=tu #[] 0
def o209:Obj:=⟨.none,none,.fields #[],#[]⟩
def o210:Obj:=tu #[.str s86 448] 0
def o211:Obj:=tu #[] 0
def o212:Obj:=f0 s38 s38 (topT 29)
def o213:Obj:=co #[.str s38 445,.str s38 446,.str s1 447,i 66,i 1,i 0,i 0,i 3,r 208,.bool true,i 181,r 209,.none,r 210,r 211,r 212,i 449,i 66,.str s1 450]
def o214:Obj:=fo s38 s38 (topT 29) (.str s85 435) (r 213)
def o215:Obj:=tu #[] 0
def o216:Obj:=⟨.none,none,.fields #[],#[]⟩
def o217:Obj:=f0 s39 s39 (topT 30)
def o218:Obj:=co #[.str s39 452,.str s39 453,.str s1 454,i 69,i 4,i 0,i 0,i 3,r 215,.bool true,i 181,r 216,.none,.none,.none,r 217,i 455,i 69,.str s1 456]
def o219:Obj:=fo s39 s39 (topT 30) (.str s85 435) (r 218)
def o220:Obj:=tu #[] 0
def o221:Obj:=⟨.none,none,.fields #[],#[]⟩
def o222:Obj:=f0 s40 s40 (topT 31)
def o223:Obj:=co #[.str s40 458,.str s40 459,.str s1 460,i 73,i 3,i 0,i 0,i 3,r 220,.bool true,i 181,r 221,.none,.none,.none,r 222,i 461,i 73,.str s1 462]
def o224:Obj:=fo s40 s40 (topT 31) (.str s85 435) (r 223)
def o225:Obj:=tu #[] 0
def o226:Obj:=⟨.none,none,.fields #[],#[]⟩
def o227:Obj:=tu #[.str s71 467,.str s83 468,.str s84 469] 0
def o228:Obj:=tu #[] 0
def o229:Obj:=f0 s41 s41 (topT 32)
def o230:Obj:=co #[.str s41 464,.str s41 465,.str s1 466,i 77,i 3,i 0,i 0,i 3,r 225,.bool true,i 181,r 226,.none,r 227,r 228,r 229,i 470,i 77,.str s1 471]
def o231:Obj:=fo s41 s41 (topT 32) (.str s85 435) (r 230)
def o232:Obj:=tu #[] 0
def o233:Obj:=⟨.none,none,.fields #[],#[]⟩
def o234:Obj:=f0 s42 s42 (topT 33)
def o235:Obj:=co #[.str s42 473,.str s42 474,.str s1 475,i 81,i 3,i 0,i 0,i 3,r 232,.bool true,i 181,r 233,.none,.none,.none,r 234,i 476,i 81,.str s1 477]
def o236:Obj:=fo s42 s42 (topT 33) (.str s85 435) (r 235)
def o237:Obj:=tu #[] 0
def o238:Obj:=⟨.none,none,.fields #[],#[]⟩
def o239:Obj:=tu #[.str s71 482,.str s83 483,.str s84 484,.str s87 485,.str s88 486,.str s89 487,.str s90 488,.str s91 489] 0
def o240:Obj:=tu #[] 0
def o241:Obj:=f0 s43 s43 (topT 34)
def o242:Obj:=co #[.str s43 479,.str s43 480,.str s1 481,i 83,i 3,i 0,i 0,i 3,r 237,.bool true,i 181,r 238,.none,r 239,r 240,r 241,i 490,i 83,.str s1 491]
def o243:Obj:=fo s43 s43 (topT 34) (.str s85 435) (r 242)
def o244:Obj:=tu #[] 0
def o245:Obj:=⟨.none,none,.fields #[],#[]⟩
def o246:Obj:=tu #[.str s71 496,.str s83 497,.str s84 498,.str s92 499,.str s75 500] 0
def o247:Obj:=tu #[] 0
def o248:Obj:=f0 s44 s44 (topT 35)
def o249:Obj:=co #[.str s44 493,.str s44 494,.str s1 495,i 92,i 3,i 0,i 0,i 3,r 244,.bool true,i 181,r 245,.none,r 246,r 247,r 248,i 501,i 92,.str s1 502]
def o250:Obj:=fo s44 s44 (topT 35) (.str s85 435) (r 249)
def o251:Obj:=tu #[] 0
def o252:Obj:=⟨.none,none,.fields #[],#[]⟩
def o253:Obj:=f0 s45 s45 (topT 36)
def o254:Obj:=co #[.str s45 504,.str s45 505,.str s1 506,i 97,i 3,i 0,i 0,i 3,r 251,.bool true,i 181,r 252,.none,.none,.none,r 253,i 507,i 97,.str s1 508]
def o255:Obj:=fo s45 s45 (topT 36) (.str s85 435) (r 254)
def o256:Obj:=tu #[] 0
def o257:Obj:=⟨.none,none,.fields #[],#[]⟩
def o258:Obj:=f0 s46 s46 (topT 37)
def o259:Obj:=co #[.str s46 510,.str s46 511,.str s1 512,i 102,i 3,i 0,i 0,i 3,r 256,.bool true,i 181,r 257,.none,.none,.none,r 258,i 513,i 102,.str s1 514]
def o260:Obj:=fo s46 s46 (topT 37) (.str s85 435) (r 259)
def o261:Obj:=tu #[] 0
def o262:Obj:=⟨.none,none,.fields #[],#[]⟩
def o263:Obj:=f0 s47 s47 (topT 38)
def o264:Obj:=co #[.str s47 516,.str s47 517,.str s1 518,i 108,i 3,i 0,i 0,i 3,r 261,.bool true,i 181,r 262,.none,.none,.none,r 263,i 519,i 108,.str s1 520]
def o265:Obj:=fo s47 s47 (topT 38) (.str s85 435) (r 264)
def o266:Obj:=tu #[] 0
def o267:Obj:=⟨.none,none,.fields #[],#[]⟩
def o268:Obj:=tu #[.str s71 525,.str s93 526] 0
def o269:Obj:=tu #[] 0
def o270:Obj:=f0 s48 s48 (topT 39)
def o271:Obj:=co #[.str s48 522,.str s48 523,.str s1 524,i 113,i 2,i 0,i 0,i 3,r 266,.bool true,i 181,r 267,.none,r 268,r 269,r 270,i 527,i 113,.str s1 528]
def o272:Obj:=fo s48 s48 (topT 39) (.str s85 435) (r 271)
def o273:Obj:=tu #[] 0
def o274:Obj:=⟨.none,none,.fields #[],#[]⟩
def o275:Obj:=f0 s49 s49 (topT 40)
def o276:Obj:=co #[.str s49 530,.str s49 531,.str s1 532,i 116,i 2,i 0,i 0,i 3,r 273,.bool true,i 181,r 274,.none,.none,.none,r 275,i 533,i 116,.str s1 534]
def o277:Obj:=fo s49 s49 (topT 40) (.str s85 435) (r 276)
def o278:Obj:=tu #[] 0
def o279:Obj:=⟨.none,none,.fields #[],#[]⟩
def o280:Obj:=tu #[.str s71 539,.str s81 540,.str s82 541,.str s94 542] 0
def o281:Obj:=tu #[] 0
def o282:Obj:=f0 s50 s50 (topT 41)
def o283:Obj:=co #[.str s50 536,.str s50 537,.str s1 538,i 123,i 4,i 0,i 0,i 3,r 278,.bool true,i 181,r 279,.none,r 280,r 281,r 282,i 543,i 123,.str s1 544]
def o284:Obj:=fo s50 s50 (topT 41) (.str s85 435) (r 283)
def o285:Obj:=tu #[] 0
def o286:Obj:=⟨.none,none,.fields #[],#[]⟩
def o287:Obj:=f0 s51 s51 (topT 42)
def o288:Obj:=co #[.str s51 546,.str s51 547,.str s1 548,i 127,i 4,i 0,i 0,i 3,r 285,.bool true,i 181,r 286,.none,.none,.none,r 287,i 549,i 127,.str s1 550]
def o289:Obj:=fo s51 s51 (topT 42) (.str s85 435) (r 288)
def o290:Obj:=tu #[] 0
def o291:Obj:=⟨.none,none,.fields #[],#[]⟩
def o292:Obj:=tu #[.str s79 557] 0
def o293:Obj:=tu #[] 0
def o294:Obj:=f0 s52 s52 (topT 44)
def o295:Obj:=co #[.str s52 554,.str s52 555,.str s1 556,i 137,i 1,i 0,i 0,i 3,r 290,.bool true,i 181,r 291,.none,r 292,r 293,r 294,i 558,i 137,.str s1 559]
def o296:Obj:=fo s52 s52 (topT 44) (.str s95 552) (r 295)
def o297:Obj:=tu #[] 0
def o298:Obj:=⟨.none,none,.fields #[],#[]⟩
def o299:Obj:=tu #[.str s83 564,.str s84 565,.str s96 566,.str s97 567,.str s98 568] 0
def o300:Obj:=tu #[] 0
def o301:Obj:=f0 s53 s53 (topT 45)
def o302:Obj:=co #[.str s53 561,.str s53 562,.str s1 563,i 139,i 2,i 0,i 0,i 3,r 297,.bool true,i 181,r 298,.none,r 299,r 300,r 301,i 569,i 139,.str s1 570]
def o303:Obj:=fo s53 s53 (topT 45) (.str s95 552) (r 302)
def o304:Obj:=tu #[] 0
def o305:Obj:=⟨.none,none,.fields #[],#[]⟩
def o306:Obj:=tu #[.str s99 575,.str s100 576,.str s101 577] 0
def o307:Obj:=tu #[] 0
def o308:Obj:=f0 s54 s54 (topT 46)
def o309:Obj:=co #[.str s54 572,.str s54 573,.str s1 574,i 147,i 2,i 0,i 0,i 3,r 304,.bool true,i 181,r 305,.none,r 306,r 307,r 308,i 578,i 147,.str s1 579]
def o310:Obj:=fo s54 s54 (topT 46) (.str s95 552) (r 309)
def o311:Obj:=tu #[] 0
def o312:Obj:=⟨.none,none,.fields #[],#[]⟩
def o313:Obj:=tu #[.str s102 584,.str s103 585] 0
def o314:Obj:=tu #[] 0
def o315:Obj:=f0 s55 s55 (topT 47)
def o316:Obj:=co #[.str s55 581,.str s55 582,.str s1 583,i 156,i 1,i 0,i 0,i 3,r 311,.bool true,i 181,r 312,.none,r 313,r 314,r 315,i 586,i 156,.str s1 587]
def o317:Obj:=fo s55 s55 (topT 47) (.str s95 552) (r 316)
def o318:Obj:=tu #[] 0
def o319:Obj:=⟨.none,none,.fields #[],#[]⟩
def o320:Obj:=f0 s60 s60 (topT 52)
def o321:Obj:=co #[.str s60 597,.str s60 598,.str s1 599,i 169,i 1,i 0,i 0,i 3,r 318,.bool true,i 181,r 319,.none,.none,.none,r 320,i 600,i 169,.str s1 601]
def o322:Obj:=fo s60 s60 (topT 52) (.str s4 589) (r 321)
def o323:Obj:=tu #[] 0
def o324:Obj:=⟨.none,none,.fields #[],#[]⟩
def o325:Obj:=tu #[.str s104 606] 0
def o326:Obj:=tu #[] 0
def o327:Obj:=f0 s61 s61 (topT 53)
def o328:Obj:=co #[.str s61 603,.str s61 604,.str s1 605,i 178,i 1,i 0,i 0,i 3,r 323,.bool true,i 181,r 324,.none,r 325,r 326,r 327,i 607,i 178,.str s1 608]
def o329:Obj:=fo s61 s61 (topT 53) (.str s4 589) (r 328)
def o330:Obj:=tu #[] 0
def o331:Obj:=⟨.none,none,.fields #[],#[]⟩
def o332:Obj:=tu #[.str s104 613] 0
def o333:Obj:=tu #[] 0
def o334:Obj:=f0 s62 s62 (topT 54)
def o335:Obj:=co #[.str s62 610,.str s62 611,.str s1 612,i 182,i 1,i 0,i 0,i 3,r 330,.bool true,i 181,r 331,.none,r 332,r 333,r 334,i 614,i 182,.str s1 615]
def o336:Obj:=fo s62 s62 (topT 54) (.str s4 589) (r 335)
def o3_1(P:Params):Obj:=⟨.type q1,none,.dict #[⟨kh P s3,.str s3 165,.str s105 1075⟩,⟨kh P s5,.str s5 166,.none⟩,⟨kh P s6,.str s6 167,.none⟩,⟨kh P s7,.str s7 168,.builtin q2⟩,⟨kh P s8,.str s8 169,.none⟩,⟨kh P s9,.str s9 170,r 6⟩,⟨kh P s10,.str s10 171,r 4⟩,⟨kh P s11,.str s11 173,.str s1 172⟩,⟨kh P s12,.str s12 174,.none⟩,⟨kh P s13,.str s13 193,r 21⟩,⟨kh P s14,.str s14 213,r 31⟩,⟨kh P s15,.str s15 229,r 44⟩,⟨kh P s16,.str s16 245,r 56⟩,⟨kh P s17,.str s17 261,r 68⟩,⟨kh P s18,.str s18 277,r 80⟩,⟨kh P s19,.str s19 293,r 92⟩,⟨kh P s20,.str s20 309,r 104⟩,⟨kh P s21,.str s21 325,r 116⟩,⟨kh P s22,.str s22 333,r 123⟩,⟨kh P s23,.str s23 339,r 128⟩,⟨kh P s24,.str s24 345,r 133⟩,⟨kh P s25,.str s25 351,r 138⟩,⟨kh P s26,.str s26 357,r 143⟩,⟨kh P s27,.str s27 369,r 150⟩,⟨kh P s28,.str s28 375,r 155⟩,⟨kh P s29,.str s29 381,r 160⟩,⟨kh P s30,.str s30 385,.int 20 384⟩,⟨kh P s31,.str s31 391,r 165⟩,⟨kh P s32,.str s32 399,r 172⟩,⟨kh P s33,.str s33 406,r 179⟩,⟨kh P s34,.str s34 414,r 186⟩,⟨kh P s35,.str s35 425,r 193⟩,⟨kh P s36,.str s36 434,r 200⟩,⟨kh P s37,.str s37 444,r 207⟩,⟨kh P s38,.str s38 451,r 214⟩,⟨kh P s39,.str s39 457,r 219⟩,⟨kh P s40,.str s40 463,r 224⟩,⟨kh P s41,.str s41 472,r 231⟩,⟨kh P s42,.str s42 478,r 236⟩,⟨kh P s43,.str s43 492,r 243⟩,⟨kh P s44,.str s44 503,r 250⟩,⟨kh P s45,.str s45 509,r 255⟩,⟨kh P s46,.str s46 515,r 260⟩,⟨kh P s47,.str s47 521,r 265⟩,⟨kh P s48,.str s48 529,r 272⟩,⟨kh P s49,.str s49 535,r 277⟩,⟨kh P s50,.str s50 545,r 284⟩,⟨kh P s51,.str s51 551,r 289⟩,⟨kh P s52,.str s52 560,r 296⟩,⟨kh P s53,.str s53 571,r 303⟩,⟨kh P s54,.str s54 580,r 310⟩,⟨kh P s55,.str s55 588,r 317⟩,⟨kh P s56,.str s56 592,.str s57 591⟩,⟨kh P s58,.str s58 594,.int 30 593⟩,⟨kh P s59,.str s59 596,.int 1000000 595⟩,⟨kh P s60,.str s60 602,r 322⟩,⟨kh P s61,.str s61 609,r 329⟩,⟨kh P s62,.str s62 616,r 336⟩,⟨kh P s106,.str s106 636,r 346⟩,⟨kh P s107,.str s107 666,r 374⟩,⟨kh P s108,.str s108 712,r 414⟩,⟨kh P s109,.str s109 810,r 496⟩,⟨kh P s110,.str s110 916,r 585⟩,⟨kh P s111,.str s111 995,r 653⟩,⟨kh P s112,.str s112 1074,r 721⟩,⟨kh P s113,.str s113 1085,r 730⟩,⟨kh P s114,.str s114 1094,r 737⟩,⟨kh P s115,.str s115 1101,r 744⟩] 68,#[]⟩
def o12_1:Obj:=⟨.none,none,.fields #[i 1,i 0,r 20,i 5,i 0,r 27,i 7,i 0,r 40,i 9,i 0,r 52,i 11,i 0,r 64,i 13,i 0,r 76,i 15,i 0,r 88,i 17,i 0,r 100,i 19,i 0,r 112,i 22,i 0,r 122,i 24,i 0,r 127,i 26,i 0,r 132,i 28,i 0,r 137,i 30,i 0,r 142,i 34,i 0,r 149,i 39,i 0,r 154,i 41,i 0,r 159,i 45,i 0,r 164,i 47,i 0,r 171,i 50,i 0,r 178,i 52,i 0,r 185,i 54,i 0,r 192,i 60,i 0,r 199,i 63,i 0,r 206,i 66,i 0,r 213,i 69,i 0,r 218,i 73,i 0,r 223,i 77,i 0,r 230,i 81,i 0,r 235,i 83,i 0,r 242,i 92,i 0,r 249,i 97,i 0,r 254,i 102,i 0,r 259,i 108,i 0,r 264,i 113,i 0,r 271,i 116,i 0,r 276,i 123,i 0,r 283,i 127,i 0,r 288,i 137,i 0,r 295,i 139,i 0,r 302,i 147,i 0,r 309,i 156,i 0,r 316,i 169,i 0,r 321,i 178,i 0,r 328,i 182,i 0,r 335,i 185,i 0,r 342,i 187,i 0,r 356,i 194,i 0,r 382,i 207,i 0,r 422,i 250,i 0,r 504,i 290,i 0,r 593,i 324,i 0,r 661,i 355,i 0,r 729,i 364,i 0,r 736,i 371,i 0,r 743],#[]⟩
def o337:Obj:=tu #[] 0
def o338:Obj:=⟨.type q4,none,.fields #[.builtin q5,.type q6],#[]⟩
def o339(P:Params):Obj:=⟨.type q1,none,.dict #[⟨kh P s64,.str s64 624,.str s4 589⟩,⟨kh P s66,.str s66 626,.str s106 625⟩,⟨kh P s67,.str s67 628,.int 185 627⟩,⟨kh P s68,.str s68 629,r 344⟩] 4,#[]⟩
def o340:Obj:=tu #[] 0
def o341:Obj:=⟨.none,none,.fields #[],#[]⟩
def o342:Obj:=co #[.str s106 619,.str s106 620,.str s1 621,i 185,i 0,i 0,i 0,i 0,r 340,.bool false,i 181,r 341,.none,.none,.none,.none,i 622,i 185,.str s1 623]
def o343:Obj:=⟨.type q0,none,.plain,#[some (r 342),some (r 3),some (r 339),none,some (.str s4 589),none,some (r 0)]⟩
def o344:Obj:=tu #[] 0
def o345(P:Params):Obj:=⟨.type q1,none,.dict #[⟨kh P s64,.str s64 624,.str s4 589⟩,⟨kh P s67,.str s67 628,.int 185 627⟩,⟨kh P s68,.str s68 629,r 344⟩,⟨kh P s116,.str s116 631,r 347⟩,⟨kh P s69,.str s69 633,r 348⟩,⟨kh P s5,.str s5 634,.none⟩] 4,#[]⟩
def o346:Obj:=⟨.type q6,none,.cls ⟨s106,[.type q9],[r 346,.type q9],345,s106,true,[],[r 374,r 414],false,none,false⟩,#[none,none,some (.str s106 617),some (.str s106 625),some (.builtin q14),some (.bool true)]⟩
def o347:Obj:=⟨.type q11,none,.fields #[.str s116 630,r 346,.builtin SL.s6511155373996960695x17,.builtin SL.s12411053484034534018x21],#[]⟩
def o348:Obj:=⟨.type q11,none,.fields #[.str s69 632,r 346,.builtin SL.s10220274742760427390x26,.none],#[]⟩
def o349:Obj:=⟨.type q12,none,.fields #[r 346,r 346,r 346],#[]⟩
def o350:Obj:=⟨.type q4,none,.fields #[.builtin q13,r 346],#[]⟩
def o351:Obj:=tu #[r 346] 0
def o352:Obj:=⟨.type q4,none,.fields #[.builtin q5,.type q6],#[]⟩
def o353(P:Params):Obj:=⟨.type q1,none,.dict #[⟨kh P s64,.str s64 644,.str s4 589⟩,⟨kh P s66,.str s66 646,.str s107 645⟩,⟨kh P s67,.str s67 648,.int 187 647⟩,⟨kh P s117,.str s117 655,r 364⟩,⟨kh P s118,.str s118 662,r 371⟩,⟨kh P s68,.str s68 663,r 372⟩] 6,#[]⟩
def o354:Obj:=tu #[] 0
def o355:Obj:=⟨.none,none,.fields #[i 189,i 4,r 363,i 192,i 4,r 370],#[]⟩
def o356:Obj:=co #[.str s107 639,.str s107 640,.str s1 641,i 187,i 0,i 0,i 0,i 0,r 354,.bool false,i 181,r 355,.none,.none,.none,.none,i 642,i 187,.str s1 643]
def o357:Obj:=⟨.type q0,none,.plain,#[some (r 356),some (r 3),some (r 353),none,some (.str s4 589),none,some (r 0)]⟩
def o358:Obj:=tu #[] 0
def o359:Obj:=⟨.none,none,.fields #[],#[]⟩
def o360:Obj:=tu #[.str s119 652] 0
def o361:Obj:=tu #[] 0
def o362:Obj:=f0 s117 s120 (L2.inClass (topT 56) 0)
def o363:Obj:=co #[.str s117 649,.str s120 650,.str s1 651,i 189,i 1,i 0,i 0,i 3,r 358,.bool true,i 181,r 359,.none,r 360,r 361,r 362,i 653,i 189,.str s1 654]
def o364:Obj:=fo s117 s120 (L2.inClass (topT 56) 0) (.str s4 589) (r 363)
def o365:Obj:=tu #[] 0
def o366:Obj:=⟨.none,none,.fields #[],#[]⟩
def o367:Obj:=tu #[.str s119 659] 0
def o368:Obj:=tu #[] 0
def o369:Obj:=f0 s118 s121 (L2.inClass (topT 56) 1)
def o370:Obj:=co #[.str s118 656,.str s121 657,.str s1 658,i 192,i 1,i 0,i 0,i 3,r 365,.bool true,i 181,r 366,.none,r 367,r 368,r 369,i 660,i 192,.str s1 661]
def o371:Obj:=fo s118 s121 (L2.inClass (topT 56) 1) (.str s4 589) (r 370)
def o372:Obj:=tu #[] 0
def o373(P:Params):Obj:=⟨.type q1,none,.dict #[⟨kh P s64,.str s64 644,.str s4 589⟩,⟨kh P s67,.str s67 648,.int 187 647⟩,⟨kh P s117,.str s117 655,r 364⟩,⟨kh P s118,.str s118 662,r 371⟩,⟨kh P s68,.str s68 663,r 372⟩,⟨kh P s5,.str s5 664,.none⟩] 2,#[]⟩
def o374:Obj:=⟨.type q6,none,.cls ⟨s107,[r 346],[r 374,r 346,.type q9],373,s107,true,[],[r 496,r 585],false,none,false⟩,#[some (r 351),none,some (.str s107 637),some (.str s107 645),some (.builtin q14),some (.bool true)]⟩
def o375:Obj:=⟨.type q12,none,.fields #[r 374,r 374,r 374],#[]⟩
def o376:Obj:=⟨.type q4,none,.fields #[.builtin q13,r 374],#[]⟩
def o377:Obj:=tu #[r 346] 0
def o378:Obj:=⟨.type q4,none,.fields #[.builtin q5,.type q6],#[]⟩
def o379(P:Params):Obj:=⟨.type q1,none,.dict #[⟨kh P s64,.str s64 674,.str s4 589⟩,⟨kh P s66,.str s66 676,.str s108 675⟩,⟨kh P s67,.str s67 678,.int 194 677⟩,⟨kh P s117,.str s117 685,r 390⟩,⟨kh P s118,.str s118 692,r 397⟩,⟨kh P s122,.str s122 700,r 404⟩,⟨kh P s123,.str s123 708,r 411⟩,⟨kh P s68,.str s68 709,r 412⟩] 8,#[]⟩
def o380:Obj:=tu #[] 0
def o381:Obj:=⟨.none,none,.fields #[i 196,i 4,r 389,i 199,i 4,r 396,i 202,i 4,r 403,i 205,i 4,r 410],#[]⟩
def o382:Obj:=co #[.str s108 669,.str s108 670,.str s1 671,i 194,i 0,i 0,i 0,i 0,r 380,.bool false,i 181,r 381,.none,.none,.none,.none,i 672,i 194,.str s1 673]
def o383:Obj:=⟨.type q0,none,.plain,#[some (r 382),some (r 3),some (r 379),none,some (.str s4 589),none,some (r 0)]⟩
def o384:Obj:=tu #[] 0
def o385:Obj:=⟨.none,none,.fields #[],#[]⟩
def o386:Obj:=tu #[.str s119 682] 0
def o387:Obj:=tu #[] 0
def o388:Obj:=f0 s117 s124 (L2.inClass (topT 57) 0)
def o389:Obj:=co #[.str s117 679,.str s124 680,.str s1 681,i 196,i 1,i 0,i 0,i 3,r 384,.bool true,i 181,r 385,.none,r 386,r 387,r 388,i 683,i 196,.str s1 684]
def o390:Obj:=fo s117 s124 (L2.inClass (topT 57) 0) (.str s4 589) (r 389)
def o391:Obj:=tu #[] 0
def o392:Obj:=⟨.none,none,.fields #[],#[]⟩
def o393:Obj:=tu #[.str s119 689] 0
def o394:Obj:=tu #[] 0
def o395:Obj:=f0 s118 s125 (L2.inClass (topT 57) 1)
def o396:Obj:=co #[.str s118 686,.str s125 687,.str s1 688,i 199,i 1,i 0,i 0,i 3,r 391,.bool true,i 181,r 392,.none,r 393,r 394,r 395,i 690,i 199,.str s1 691]
def o397:Obj:=fo s118 s125 (L2.inClass (topT 57) 1) (.str s4 589) (r 396)
def o398:Obj:=tu #[] 0
def o399:Obj:=⟨.none,none,.fields #[],#[]⟩
def o400:Obj:=tu #[.str s119 696,.str s75 697] 0
def o401:Obj:=tu #[] 0
def o402:Obj:=f0 s122 s126 (L2.inClass (topT 57) 2)
def o403:Obj:=co #[.str s122 693,.str s126 694,.str s1 695,i 202,i 2,i 0,i 0,i 3,r 398,.bool true,i 181,r 399,.none,r 400,r 401,r 402,i 698,i 202,.str s1 699]
def o404:Obj:=fo s122 s126 (L2.inClass (topT 57) 2) (.str s4 589) (r 403)
def o405:Obj:=tu #[] 0
def o406:Obj:=⟨.none,none,.fields #[],#[]⟩
def o407:Obj:=tu #[.str s119 704,.str s75 705] 0
def o408:Obj:=tu #[] 0
def o409:Obj:=f0 s123 s127 (L2.inClass (topT 57) 3)
def o410:Obj:=co #[.str s123 701,.str s127 702,.str s1 703,i 205,i 2,i 0,i 0,i 3,r 405,.bool true,i 181,r 406,.none,r 407,r 408,r 409,i 706,i 205,.str s1 707]
def o411:Obj:=fo s123 s127 (L2.inClass (topT 57) 3) (.str s4 589) (r 410)
def o412:Obj:=tu #[] 0
def o413(P:Params):Obj:=⟨.type q1,none,.dict #[⟨kh P s64,.str s64 674,.str s4 589⟩,⟨kh P s67,.str s67 678,.int 194 677⟩,⟨kh P s117,.str s117 685,r 390⟩,⟨kh P s118,.str s118 692,r 397⟩,⟨kh P s122,.str s122 700,r 404⟩,⟨kh P s123,.str s123 708,r 411⟩,⟨kh P s68,.str s68 709,r 412⟩,⟨kh P s5,.str s5 710,.none⟩] 2,#[]⟩
def o414:Obj:=⟨.type q6,none,.cls ⟨s108,[r 346],[r 414,r 346,.type q9],413,s108,true,[],[r 653,r 721],false,none,false⟩,#[some (r 377),none,some (.str s108 667),some (.str s108 675),some (.builtin q14),some (.bool true)]⟩
def o415:Obj:=⟨.type q12,none,.fields #[r 414,r 414,r 414],#[]⟩
def o416:Obj:=⟨.type q4,none,.fields #[.builtin q13,r 414],#[]⟩
def o417:Obj:=tu #[r 374] 0
def o418:Obj:=⟨.type q4,none,.fields #[.builtin q5,.type q6],#[]⟩
def o419(P:Params):Obj:=⟨.type q1,none,.dict #[⟨kh P s64,.str s64 720,.str s4 589⟩,⟨kh P s66,.str s66 722,.str s109 721⟩,⟨kh P s67,.str s67 724,.int 207 723⟩,⟨kh P s92,.str s92 731,r 430⟩,⟨kh P s128,.str s128 738,r 437⟩,⟨kh P s83,.str s83 745,r 444⟩,⟨kh P s129,.str s129 754,r 451⟩,⟨kh P s130,.str s130 763,r 458⟩,⟨kh P s122,.str s122 771,r 465⟩,⟨kh P s123,.str s123 779,r 472⟩,⟨kh P s131,.str s131 787,r 479⟩,⟨kh P s132,.str s132 795,r 486⟩,⟨kh P s133,.str s133 806,r 493⟩,⟨kh P s68,.str s68 807,r 494⟩] 14,#[]⟩
def o420:Obj:=tu #[] 0
def o421:Obj:=⟨.none,none,.fields #[i 209,i 4,r 429,i 212,i 4,r 436,i 215,i 4,r 443,i 218,i 4,r 450,i 221,i 4,r 457,i 224,i 4,r 464,i 227,i 4,r 471,i 230,i 4,r 478,i 237,i 4,r 485,i 240,i 4,r 492],#[]⟩
def o422:Obj:=co #[.str s109 715,.str s109 716,.str s1 717,i 207,i 0,i 0,i 0,i 0,r 420,.bool false,i 181,r 421,.none,.none,.none,.none,i 718,i 207,.str s1 719]
def o423:Obj:=⟨.type q0,none,.plain,#[some (r 422),some (r 3),some (r 419),none,some (.str s4 589),none,some (r 0)]⟩
def o424:Obj:=tu #[] 0
def o425:Obj:=⟨.none,none,.fields #[],#[]⟩
def o426:Obj:=tu #[.str s119 728] 0
def o427:Obj:=tu #[] 0
def o428:Obj:=f0 s92 s134 (L2.inClass (topT 58) 0)
def o429:Obj:=co #[.str s92 725,.str s134 726,.str s1 727,i 209,i 1,i 0,i 0,i 3,r 424,.bool true,i 181,r 425,.none,r 426,r 427,r 428,i 729,i 209,.str s1 730]
def o430:Obj:=fo s92 s134 (L2.inClass (topT 58) 0) (.str s4 589) (r 429)
def o431:Obj:=tu #[] 0
def o432:Obj:=⟨.none,none,.fields #[],#[]⟩
def o433:Obj:=tu #[.str s119 735] 0
def o434:Obj:=tu #[] 0
def o435:Obj:=f0 s128 s135 (L2.inClass (topT 58) 1)
def o436:Obj:=co #[.str s128 732,.str s135 733,.str s1 734,i 212,i 1,i 0,i 0,i 3,r 431,.bool true,i 181,r 432,.none,r 433,r 434,r 435,i 736,i 212,.str s1 737]
def o437:Obj:=fo s128 s135 (L2.inClass (topT 58) 1) (.str s4 589) (r 436)
def o438:Obj:=tu #[] 0
def o439:Obj:=⟨.none,none,.fields #[],#[]⟩
def o440:Obj:=tu #[.str s119 742] 0
def o441:Obj:=tu #[] 0
def o442:Obj:=f0 s83 s136 (L2.inClass (topT 58) 2)
def o443:Obj:=co #[.str s83 739,.str s136 740,.str s1 741,i 215,i 1,i 0,i 0,i 3,r 438,.bool true,i 181,r 439,.none,r 440,r 441,r 442,i 743,i 215,.str s1 744]
def o444:Obj:=fo s83 s136 (L2.inClass (topT 58) 2) (.str s4 589) (r 443)
def o445:Obj:=tu #[] 0
def o446:Obj:=⟨.none,none,.fields #[],#[]⟩
def o447:Obj:=tu #[.str s119 749,.str s75 750,.str s76 751] 0
def o448:Obj:=tu #[] 0
def o449:Obj:=f0 s129 s137 (L2.inClass (topT 58) 3)
def o450:Obj:=co #[.str s129 746,.str s137 747,.str s1 748,i 218,i 3,i 0,i 0,i 3,r 445,.bool true,i 181,r 446,.none,r 447,r 448,r 449,i 752,i 218,.str s1 753]
def o451:Obj:=fo s129 s137 (L2.inClass (topT 58) 3) (.str s4 589) (r 450)
def o452:Obj:=tu #[] 0
def o453:Obj:=⟨.none,none,.fields #[],#[]⟩
def o454:Obj:=tu #[.str s119 758,.str s75 759,.str s76 760] 0
def o455:Obj:=tu #[] 0
def o456:Obj:=f0 s130 s138 (L2.inClass (topT 58) 4)
def o457:Obj:=co #[.str s130 755,.str s138 756,.str s1 757,i 221,i 3,i 0,i 0,i 3,r 452,.bool true,i 181,r 453,.none,r 454,r 455,r 456,i 761,i 221,.str s1 762]
def o458:Obj:=fo s130 s138 (L2.inClass (topT 58) 4) (.str s4 589) (r 457)
def o459:Obj:=tu #[] 0
def o460:Obj:=⟨.none,none,.fields #[],#[]⟩
def o461:Obj:=tu #[.str s119 767,.str s75 768] 0
def o462:Obj:=tu #[] 0
def o463:Obj:=f0 s122 s139 (L2.inClass (topT 58) 5)
def o464:Obj:=co #[.str s122 764,.str s139 765,.str s1 766,i 224,i 2,i 0,i 0,i 3,r 459,.bool true,i 181,r 460,.none,r 461,r 462,r 463,i 769,i 224,.str s1 770]
def o465:Obj:=fo s122 s139 (L2.inClass (topT 58) 5) (.str s4 589) (r 464)
def o466:Obj:=tu #[] 0
def o467:Obj:=⟨.none,none,.fields #[],#[]⟩
def o468:Obj:=tu #[.str s119 775,.str s75 776] 0
def o469:Obj:=tu #[] 0
def o470:Obj:=f0 s123 s140 (L2.inClass (topT 58) 6)
def o471:Obj:=co #[.str s123 772,.str s140 773,.str s1 774,i 227,i 2,i 0,i 0,i 3,r 466,.bool true,i 181,r 467,.none,r 468,r 469,r 470,i 777,i 227,.str s1 778]
def o472:Obj:=fo s123 s140 (L2.inClass (topT 58) 6) (.str s4 589) (r 471)
def o473:Obj:=tu #[] 0
def o474:Obj:=⟨.none,none,.fields #[],#[]⟩
def o475:Obj:=tu #[.str s119 783,.str s79 784] 0
def o476:Obj:=tu #[] 0
def o477:Obj:=f0 s131 s141 (L2.inClass (topT 58) 7)
def o478:Obj:=co #[.str s131 780,.str s141 781,.str s1 782,i 230,i 2,i 0,i 0,i 3,r 473,.bool true,i 181,r 474,.none,r 475,r 476,r 477,i 785,i 230,.str s1 786]
def o479:Obj:=fo s131 s141 (L2.inClass (topT 58) 7) (.str s4 589) (r 478)
def o480:Obj:=tu #[] 0
def o481:Obj:=⟨.none,none,.fields #[],#[]⟩
def o482:Obj:=tu #[.str s119 791,.str s75 792] 0
def o483:Obj:=tu #[] 0
def o484:Obj:=f0 s132 s142 (L2.inClass (topT 58) 8)
def o485:Obj:=co #[.str s132 788,.str s142 789,.str s1 790,i 237,i 2,i 0,i 0,i 3,r 480,.bool true,i 181,r 481,.none,r 482,r 483,r 484,i 793,i 237,.str s1 794]
def o486:Obj:=fo s132 s142 (L2.inClass (topT 58) 8) (.str s4 589) (r 485)
def o487:Obj:=tu #[] 0
def o488:Obj:=⟨.none,none,.fields #[],#[]⟩
def o489:Obj:=tu #[.str s119 799,.str s104 800,.str s143 801,.str s99 802,.str s100 803] 0
def o490:Obj:=tu #[] 0
def o491:Obj:=f0 s133 s144 (L2.inClass (topT 58) 9)
def o492:Obj:=co #[.str s133 796,.str s144 797,.str s1 798,i 240,i 2,i 0,i 0,i 3,r 487,.bool true,i 181,r 488,.none,r 489,r 490,r 491,i 804,i 240,.str s1 805]
def o493:Obj:=fo s133 s144 (L2.inClass (topT 58) 9) (.str s4 589) (r 492)
def o494:Obj:=tu #[] 0
def o495(P:Params):Obj:=⟨.type q1,none,.dict #[⟨kh P s64,.str s64 720,.str s4 589⟩,⟨kh P s67,.str s67 724,.int 207 723⟩,⟨kh P s92,.str s92 731,r 430⟩,⟨kh P s128,.str s128 738,r 437⟩,⟨kh P s83,.str s83 745,r 444⟩,⟨kh P s129,.str s129 754,r 451⟩,⟨kh P s130,.str s130 763,r 458⟩,⟨kh P s122,.str s122 771,r 465⟩,⟨kh P s123,.str s123 779,r 472⟩,⟨kh P s131,.str s131 787,r 479⟩,⟨kh P s132,.str s132 795,r 486⟩,⟨kh P s133,.str s133 806,r 493⟩,⟨kh P s68,.str s68 807,r 494⟩,⟨kh P s5,.str s5 808,.none⟩] 2,#[]⟩
def o496:Obj:=⟨.type q6,none,.cls ⟨s109,[r 374],[r 496,r 374,r 346,.type q9],495,s109,true,[],[],false,none,false⟩,#[some (r 417),none,some (.str s109 713),some (.str s109 721),some (.builtin q14),some (.bool true)]⟩
def o497:Obj:=⟨.type q12,none,.fields #[r 496,r 496,r 496],#[]⟩
def o498:Obj:=⟨.type q4,none,.fields #[.builtin q13,r 496],#[]⟩
def o499:Obj:=tu #[r 374] 0
def o500:Obj:=⟨.type q4,none,.fields #[.builtin q5,.type q6],#[]⟩
def o501(P:Params):Obj:=⟨.type q1,none,.dict #[⟨kh P s64,.str s64 818,.str s4 589⟩,⟨kh P s66,.str s66 820,.str s110 819⟩,⟨kh P s67,.str s67 822,.int 250 821⟩,⟨kh P s145,.str s145 830,r 512⟩,⟨kh P s92,.str s92 838,r 519⟩,⟨kh P s128,.str s128 845,r 526⟩,⟨kh P s83,.str s83 852,r 533⟩,⟨kh P s129,.str s129 861,r 540⟩,⟨kh P s130,.str s130 870,r 547⟩,⟨kh P s122,.str s122 878,r 554⟩,⟨kh P s123,.str s123 886,r 561⟩,⟨kh P s131,.str s131 894,r 568⟩,⟨kh P s132,.str s132 902,r 575⟩,⟨kh P s133,.str s133 911,r 582⟩,⟨kh P s68,.str s68 913,r 583⟩] 15,#[]⟩
def o502:Obj:=tu #[] 0
def o503:Obj:=⟨.none,none,.fields #[i 252,i 4,r 511,i 257,i 4,r 518,i 261,i 4,r 525,i 264,i 4,r 532,i 267,i 4,r 539,i 270,i 4,r 546,i 273,i 4,r 553,i 276,i 4,r 560,i 279,i 4,r 567,i 282,i 4,r 574,i 285,i 4,r 581],#[]⟩
def o504:Obj:=co #[.str s110 813,.str s110 814,.str s1 815,i 250,i 0,i 0,i 0,i 0,r 502,.bool false,i 181,r 503,.none,.none,.none,.none,i 816,i 250,.str s1 817]
def o505:Obj:=⟨.type q0,none,.plain,#[some (r 504),some (r 3),some (r 501),none,some (.str s4 589),none,some (r 0)]⟩
def o506:Obj:=tu #[] 0
def o507:Obj:=⟨.none,none,.fields #[],#[]⟩
def o508:Obj:=tu #[.str s119 826,.str s146 827] 0
def o509:Obj:=tu #[] 0
def o510:Obj:=f0 s145 s147 (L2.inClass (topT 59) 0)
def o511:Obj:=co #[.str s145 823,.str s147 824,.str s1 825,i 252,i 2,i 0,i 0,i 3,r 506,.bool true,i 181,r 507,.none,r 508,r 509,r 510,i 828,i 252,.str s1 829]
def o512:Obj:=fo s145 s147 (L2.inClass (topT 59) 0) (.str s4 589) (r 511)
def o513:Obj:=tu #[] 0
def o514:Obj:=⟨.none,none,.fields #[],#[]⟩
def o515:Obj:=tu #[.str s119 834,.str s146 835] 0
def o516:Obj:=tu #[] 0
def o517:Obj:=f0 s92 s148 (L2.inClass (topT 59) 1)
def o518:Obj:=co #[.str s92 831,.str s148 832,.str s1 833,i 257,i 1,i 0,i 0,i 3,r 513,.bool true,i 181,r 514,.none,r 515,r 516,r 517,i 836,i 257,.str s1 837]
def o519:Obj:=fo s92 s148 (L2.inClass (topT 59) 1) (.str s4 589) (r 518)
def o520:Obj:=tu #[] 0
def o521:Obj:=⟨.none,none,.fields #[],#[]⟩
def o522:Obj:=tu #[.str s119 842] 0
def o523:Obj:=tu #[] 0
def o524:Obj:=f0 s128 s149 (L2.inClass (topT 59) 2)
def o525:Obj:=co #[.str s128 839,.str s149 840,.str s1 841,i 261,i 1,i 0,i 0,i 3,r 520,.bool true,i 181,r 521,.none,r 522,r 523,r 524,i 843,i 261,.str s1 844]
def o526:Obj:=fo s128 s149 (L2.inClass (topT 59) 2) (.str s4 589) (r 525)
def o527:Obj:=tu #[] 0
def o528:Obj:=⟨.none,none,.fields #[],#[]⟩
def o529:Obj:=tu #[.str s119 849] 0
def o530:Obj:=tu #[] 0
def o531:Obj:=f0 s83 s150 (L2.inClass (topT 59) 3)
def o532:Obj:=co #[.str s83 846,.str s150 847,.str s1 848,i 264,i 1,i 0,i 0,i 3,r 527,.bool true,i 181,r 528,.none,r 529,r 530,r 531,i 850,i 264,.str s1 851]
def o533:Obj:=fo s83 s150 (L2.inClass (topT 59) 3) (.str s4 589) (r 532)
def o534:Obj:=tu #[] 0
def o535:Obj:=⟨.none,none,.fields #[],#[]⟩
def o536:Obj:=tu #[.str s119 856,.str s75 857,.str s76 858] 0
def o537:Obj:=tu #[] 0
def o538:Obj:=f0 s129 s151 (L2.inClass (topT 59) 4)
def o539:Obj:=co #[.str s129 853,.str s151 854,.str s1 855,i 267,i 3,i 0,i 0,i 3,r 534,.bool true,i 181,r 535,.none,r 536,r 537,r 538,i 859,i 267,.str s1 860]
def o540:Obj:=fo s129 s151 (L2.inClass (topT 59) 4) (.str s4 589) (r 539)
def o541:Obj:=tu #[] 0
def o542:Obj:=⟨.none,none,.fields #[],#[]⟩
def o543:Obj:=tu #[.str s119 865,.str s75 866,.str s76 867] 0
def o544:Obj:=tu #[] 0
def o545:Obj:=f0 s130 s152 (L2.inClass (topT 59) 5)
def o546:Obj:=co #[.str s130 862,.str s152 863,.str s1 864,i 270,i 3,i 0,i 0,i 3,r 541,.bool true,i 181,r 542,.none,r 543,r 544,r 545,i 868,i 270,.str s1 869]
def o547:Obj:=fo s130 s152 (L2.inClass (topT 59) 5) (.str s4 589) (r 546)
def o548:Obj:=tu #[] 0
def o549:Obj:=⟨.none,none,.fields #[],#[]⟩
def o550:Obj:=tu #[.str s119 874,.str s75 875] 0
def o551:Obj:=tu #[] 0
def o552:Obj:=f0 s122 s153 (L2.inClass (topT 59) 6)
def o553:Obj:=co #[.str s122 871,.str s153 872,.str s1 873,i 273,i 2,i 0,i 0,i 3,r 548,.bool true,i 181,r 549,.none,r 550,r 551,r 552,i 876,i 273,.str s1 877]
def o554:Obj:=fo s122 s153 (L2.inClass (topT 59) 6) (.str s4 589) (r 553)
def o555:Obj:=tu #[] 0
def o556:Obj:=⟨.none,none,.fields #[],#[]⟩
def o557:Obj:=tu #[.str s119 882,.str s75 883] 0
def o558:Obj:=tu #[] 0
def o559:Obj:=f0 s123 s154 (L2.inClass (topT 59) 7)
def o560:Obj:=co #[.str s123 879,.str s154 880,.str s1 881,i 276,i 2,i 0,i 0,i 3,r 555,.bool true,i 181,r 556,.none,r 557,r 558,r 559,i 884,i 276,.str s1 885]
def o561:Obj:=fo s123 s154 (L2.inClass (topT 59) 7) (.str s4 589) (r 560)
def o562:Obj:=tu #[] 0
def o563:Obj:=⟨.none,none,.fields #[],#[]⟩
def o564:Obj:=tu #[.str s119 890,.str s79 891] 0
def o565:Obj:=tu #[] 0
def o566:Obj:=f0 s131 s155 (L2.inClass (topT 59) 8)
def o567:Obj:=co #[.str s131 887,.str s155 888,.str s1 889,i 279,i 2,i 0,i 0,i 3,r 562,.bool true,i 181,r 563,.none,r 564,r 565,r 566,i 892,i 279,.str s1 893]
def o568:Obj:=fo s131 s155 (L2.inClass (topT 59) 8) (.str s4 589) (r 567)
def o569:Obj:=tu #[] 0
def o570:Obj:=⟨.none,none,.fields #[],#[]⟩
def o571:Obj:=tu #[.str s119 898,.str s75 899] 0
def o572:Obj:=tu #[] 0
def o573:Obj:=f0 s132 s156 (L2.inClass (topT 59) 9)
def o574:Obj:=co #[.str s132 895,.str s156 896,.str s1 897,i 282,i 2,i 0,i 0,i 3,r 569,.bool true,i 181,r 570,.none,r 571,r 572,r 573,i 900,i 282,.str s1 901]
def o575:Obj:=fo s132 s156 (L2.inClass (topT 59) 9) (.str s4 589) (r 574)
def o576:Obj:=tu #[] 0
def o577:Obj:=⟨.none,none,.fields #[],#[]⟩
def o578:Obj:=tu #[.str s119 906,.str s104 907,.str s102 908] 0
def o579:Obj:=tu #[] 0
def o580:Obj:=f0 s133 s157 (L2.inClass (topT 59) 10)
def o581:Obj:=co #[.str s133 903,.str s157 904,.str s1 905,i 285,i 2,i 0,i 0,i 3,r 576,.bool true,i 181,r 577,.none,r 578,r 579,r 580,i 909,i 285,.str s1 910]
def o582:Obj:=fo s133 s157 (L2.inClass (topT 59) 10) (.str s4 589) (r 581)
def o583:Obj:=tu #[.str s146 912] 0
def o584(P:Params):Obj:=⟨.type q1,none,.dict #[⟨kh P s64,.str s64 818,.str s4 589⟩,⟨kh P s67,.str s67 822,.int 250 821⟩,⟨kh P s145,.str s145 830,r 512⟩,⟨kh P s92,.str s92 838,r 519⟩,⟨kh P s128,.str s128 845,r 526⟩,⟨kh P s83,.str s83 852,r 533⟩,⟨kh P s129,.str s129 861,r 540⟩,⟨kh P s130,.str s130 870,r 547⟩,⟨kh P s122,.str s122 878,r 554⟩,⟨kh P s123,.str s123 886,r 561⟩,⟨kh P s131,.str s131 894,r 568⟩,⟨kh P s132,.str s132 902,r 575⟩,⟨kh P s133,.str s133 911,r 582⟩,⟨kh P s68,.str s68 913,r 583⟩,⟨kh P s5,.str s5 914,.none⟩] 2,#[]⟩
def o585:Obj:=⟨.type q6,none,.cls ⟨s110,[r 374],[r 585,r 374,r 346,.type q9],584,s110,true,[],[],false,none,false⟩,#[some (r 499),none,some (.str s110 811),some (.str s110 819),some (.builtin q14),some (.bool true)]⟩
def o586:Obj:=⟨.type q12,none,.fields #[r 585,r 585,r 585],#[]⟩
def o587:Obj:=⟨.type q4,none,.fields #[.builtin q13,r 585],#[]⟩
def o588:Obj:=tu #[r 414] 0
def o589:Obj:=⟨.type q4,none,.fields #[.builtin q5,.type q6],#[]⟩
def o590(P:Params):Obj:=⟨.type q1,none,.dict #[⟨kh P s64,.str s64 924,.str s4 589⟩,⟨kh P s66,.str s66 926,.str s111 925⟩,⟨kh P s67,.str s67 928,.int 290 927⟩,⟨kh P s92,.str s92 935,r 601⟩,⟨kh P s128,.str s128 942,r 608⟩,⟨kh P s83,.str s83 949,r 615⟩,⟨kh P s129,.str s129 958,r 622⟩,⟨kh P s130,.str s130 967,r 629⟩,⟨kh P s131,.str s131 975,r 636⟩,⟨kh P s132,.str s132 983,r 643⟩,⟨kh P s133,.str s133 991,r 650⟩,⟨kh P s68,.str s68 992,r 651⟩] 12,#[]⟩
def o591:Obj:=tu #[] 0
def o592:Obj:=⟨.none,none,.fields #[i 292,i 4,r 600,i 295,i 4,r 607,i 298,i 4,r 614,i 301,i 4,r 621,i 308,i 4,r 628,i 313,i 4,r 635,i 316,i 4,r 642,i 319,i 4,r 649],#[]⟩
def o593:Obj:=co #[.str s111 919,.str s111 920,.str s1 921,i 290,i 0,i 0,i 0,i 0,r 591,.bool false,i 181,r 592,.none,.none,.none,.none,i 922,i 290,.str s1 923]
def o594:Obj:=⟨.type q0,none,.plain,#[some (r 593),some (r 3),some (r 590),none,some (.str s4 589),none,some (r 0)]⟩
def o595:Obj:=tu #[] 0
def o596:Obj:=⟨.none,none,.fields #[],#[]⟩
def o597:Obj:=tu #[.str s119 932] 0
def o598:Obj:=tu #[] 0
def o599:Obj:=f0 s92 s158 (L2.inClass (topT 60) 0)
def o600:Obj:=co #[.str s92 929,.str s158 930,.str s1 931,i 292,i 1,i 0,i 0,i 3,r 595,.bool true,i 181,r 596,.none,r 597,r 598,r 599,i 933,i 292,.str s1 934]
def o601:Obj:=fo s92 s158 (L2.inClass (topT 60) 0) (.str s4 589) (r 600)
def o602:Obj:=tu #[] 0
def o603:Obj:=⟨.none,none,.fields #[],#[]⟩
def o604:Obj:=tu #[.str s119 939] 0
def o605:Obj:=tu #[] 0
def o606:Obj:=f0 s128 s159 (L2.inClass (topT 60) 1)
def o607:Obj:=co #[.str s128 936,.str s159 937,.str s1 938,i 295,i 1,i 0,i 0,i 3,r 602,.bool true,i 181,r 603,.none,r 604,r 605,r 606,i 940,i 295,.str s1 941]
def o608:Obj:=fo s128 s159 (L2.inClass (topT 60) 1) (.str s4 589) (r 607)
def o609:Obj:=tu #[] 0
def o610:Obj:=⟨.none,none,.fields #[],#[]⟩
def o611:Obj:=tu #[.str s119 946] 0
def o612:Obj:=tu #[] 0
def o613:Obj:=f0 s83 s160 (L2.inClass (topT 60) 2)
def o614:Obj:=co #[.str s83 943,.str s160 944,.str s1 945,i 298,i 1,i 0,i 0,i 3,r 609,.bool true,i 181,r 610,.none,r 611,r 612,r 613,i 947,i 298,.str s1 948]
def o615:Obj:=fo s83 s160 (L2.inClass (topT 60) 2) (.str s4 589) (r 614)
def o616:Obj:=tu #[] 0
def o617:Obj:=⟨.none,none,.fields #[],#[]⟩
def o618:Obj:=tu #[.str s119 953,.str s75 954,.str s76 955] 0
def o619:Obj:=tu #[] 0
def o620:Obj:=f0 s129 s161 (L2.inClass (topT 60) 3)
def o621:Obj:=co #[.str s129 950,.str s161 951,.str s1 952,i 301,i 3,i 0,i 0,i 3,r 616,.bool true,i 181,r 617,.none,r 618,r 619,r 620,i 956,i 301,.str s1 957]
def o622:Obj:=fo s129 s161 (L2.inClass (topT 60) 3) (.str s4 589) (r 621)
def o623:Obj:=tu #[] 0
def o624:Obj:=⟨.none,none,.fields #[],#[]⟩
def o625:Obj:=tu #[.str s119 962,.str s75 963,.str s76 964] 0
def o626:Obj:=tu #[] 0
def o627:Obj:=f0 s130 s162 (L2.inClass (topT 60) 4)
def o628:Obj:=co #[.str s130 959,.str s162 960,.str s1 961,i 308,i 3,i 0,i 0,i 3,r 623,.bool true,i 181,r 624,.none,r 625,r 626,r 627,i 965,i 308,.str s1 966]
def o629:Obj:=fo s130 s162 (L2.inClass (topT 60) 4) (.str s4 589) (r 628)
def o630:Obj:=tu #[] 0
def o631:Obj:=⟨.none,none,.fields #[],#[]⟩
def o632:Obj:=tu #[.str s119 971,.str s79 972] 0
def o633:Obj:=tu #[] 0
def o634:Obj:=f0 s131 s163 (L2.inClass (topT 60) 5)
def o635:Obj:=co #[.str s131 968,.str s163 969,.str s1 970,i 313,i 2,i 0,i 0,i 3,r 630,.bool true,i 181,r 631,.none,r 632,r 633,r 634,i 973,i 313,.str s1 974]
def o636:Obj:=fo s131 s163 (L2.inClass (topT 60) 5) (.str s4 589) (r 635)
def o637:Obj:=tu #[] 0
def o638:Obj:=⟨.none,none,.fields #[],#[]⟩
def o639:Obj:=tu #[.str s119 979,.str s75 980] 0
def o640:Obj:=tu #[] 0
def o641:Obj:=f0 s132 s164 (L2.inClass (topT 60) 6)
def o642:Obj:=co #[.str s132 976,.str s164 977,.str s1 978,i 316,i 2,i 0,i 0,i 3,r 637,.bool true,i 181,r 638,.none,r 639,r 640,r 641,i 981,i 316,.str s1 982]
def o643:Obj:=fo s132 s164 (L2.inClass (topT 60) 6) (.str s4 589) (r 642)
def o644:Obj:=tu #[] 0
def o645:Obj:=⟨.none,none,.fields #[],#[]⟩
def o646:Obj:=tu #[.str s119 987,.str s104 988] 0
def o647:Obj:=tu #[] 0
def o648:Obj:=f0 s133 s165 (L2.inClass (topT 60) 7)
def o649:Obj:=co #[.str s133 984,.str s165 985,.str s1 986,i 319,i 2,i 0,i 0,i 3,r 644,.bool true,i 181,r 645,.none,r 646,r 647,r 648,i 989,i 319,.str s1 990]
def o650:Obj:=fo s133 s165 (L2.inClass (topT 60) 7) (.str s4 589) (r 649)
def o651:Obj:=tu #[] 0
def o652(P:Params):Obj:=⟨.type q1,none,.dict #[⟨kh P s64,.str s64 924,.str s4 589⟩,⟨kh P s67,.str s67 928,.int 290 927⟩,⟨kh P s92,.str s92 935,r 601⟩,⟨kh P s128,.str s128 942,r 608⟩,⟨kh P s83,.str s83 949,r 615⟩,⟨kh P s129,.str s129 958,r 622⟩,⟨kh P s130,.str s130 967,r 629⟩,⟨kh P s131,.str s131 975,r 636⟩,⟨kh P s132,.str s132 983,r 643⟩,⟨kh P s133,.str s133 991,r 650⟩,⟨kh P s68,.str s68 992,r 651⟩,⟨kh P s5,.str s5 993,.none⟩] 2,#[]⟩
def o653:Obj:=⟨.type q6,none,.cls ⟨s111,[r 414],[r 653,r 414,r 346,.type q9],652,s111,true,[],[],false,none,false⟩,#[some (r 588),none,some (.str s111 917),some (.str s111 925),some (.builtin q14),some (.bool true)]⟩
def o654:Obj:=⟨.type q12,none,.fields #[r 653,r 653,r 653],#[]⟩
def o655:Obj:=⟨.type q4,none,.fields #[.builtin q13,r 653],#[]⟩
def o656:Obj:=tu #[r 414] 0
def o657:Obj:=⟨.type q4,none,.fields #[.builtin q5,.type q6],#[]⟩
def o658(P:Params):Obj:=⟨.type q1,none,.dict #[⟨kh P s64,.str s64 1003,.str s4 589⟩,⟨kh P s66,.str s66 1005,.str s112 1004⟩,⟨kh P s67,.str s67 1007,.int 324 1006⟩,⟨kh P s92,.str s92 1014,r 669⟩,⟨kh P s128,.str s128 1021,r 676⟩,⟨kh P s83,.str s83 1028,r 683⟩,⟨kh P s129,.str s129 1037,r 690⟩,⟨kh P s130,.str s130 1046,r 697⟩,⟨kh P s131,.str s131 1054,r 704⟩,⟨kh P s132,.str s132 1062,r 711⟩,⟨kh P s133,.str s133 1070,r 718⟩,⟨kh P s68,.str s68 1071,r 719⟩] 12,#[]⟩
def o659:Obj:=tu #[] 0
def o660:Obj:=⟨.none,none,.fields #[i 326,i 4,r 668,i 329,i 4,r 675,i 332,i 4,r 682,i 335,i 4,r 689,i 338,i 4,r 696,i 341,i 4,r 703,i 344,i 4,r 710,i 347,i 4,r 717],#[]⟩
def o661:Obj:=co #[.str s112 998,.str s112 999,.str s1 1000,i 324,i 0,i 0,i 0,i 0,r 659,.bool false,i 181,r 660,.none,.none,.none,.none,i 1001,i 324,.str s1 1002]
def o662:Obj:=⟨.type q0,none,.plain,#[some (r 661),some (r 3),some (r 658),none,some (.str s4 589),none,some (r 0)]⟩
def o663:Obj:=tu #[] 0
def o664:Obj:=⟨.none,none,.fields #[],#[]⟩
def o665:Obj:=tu #[.str s119 1011] 0
def o666:Obj:=tu #[] 0
def o667:Obj:=f0 s92 s166 (L2.inClass (topT 61) 0)
def o668:Obj:=co #[.str s92 1008,.str s166 1009,.str s1 1010,i 326,i 1,i 0,i 0,i 3,r 663,.bool true,i 181,r 664,.none,r 665,r 666,r 667,i 1012,i 326,.str s1 1013]
def o669:Obj:=fo s92 s166 (L2.inClass (topT 61) 0) (.str s4 589) (r 668)
def o670:Obj:=tu #[] 0
def o671:Obj:=⟨.none,none,.fields #[],#[]⟩
def o672:Obj:=tu #[.str s119 1018] 0
def o673:Obj:=tu #[] 0
def o674:Obj:=f0 s128 s167 (L2.inClass (topT 61) 1)
def o675:Obj:=co #[.str s128 1015,.str s167 1016,.str s1 1017,i 329,i 1,i 0,i 0,i 3,r 670,.bool true,i 181,r 671,.none,r 672,r 673,r 674,i 1019,i 329,.str s1 1020]
def o676:Obj:=fo s128 s167 (L2.inClass (topT 61) 1) (.str s4 589) (r 675)
def o677:Obj:=tu #[] 0
def o678:Obj:=⟨.none,none,.fields #[],#[]⟩
def o679:Obj:=tu #[.str s119 1025] 0
def o680:Obj:=tu #[] 0
def o681:Obj:=f0 s83 s168 (L2.inClass (topT 61) 2)
def o682:Obj:=co #[.str s83 1022,.str s168 1023,.str s1 1024,i 332,i 1,i 0,i 0,i 3,r 677,.bool true,i 181,r 678,.none,r 679,r 680,r 681,i 1026,i 332,.str s1 1027]
def o683:Obj:=fo s83 s168 (L2.inClass (topT 61) 2) (.str s4 589) (r 682)
def o684:Obj:=tu #[] 0
def o685:Obj:=⟨.none,none,.fields #[],#[]⟩
def o686:Obj:=tu #[.str s119 1032,.str s75 1033,.str s76 1034] 0
def o687:Obj:=tu #[] 0
def o688:Obj:=f0 s129 s169 (L2.inClass (topT 61) 3)
def o689:Obj:=co #[.str s129 1029,.str s169 1030,.str s1 1031,i 335,i 3,i 0,i 0,i 3,r 684,.bool true,i 181,r 685,.none,r 686,r 687,r 688,i 1035,i 335,.str s1 1036]
def o690:Obj:=fo s129 s169 (L2.inClass (topT 61) 3) (.str s4 589) (r 689)
def o691:Obj:=tu #[] 0
def o692:Obj:=⟨.none,none,.fields #[],#[]⟩
def o693:Obj:=tu #[.str s119 1041,.str s75 1042,.str s76 1043] 0
def o694:Obj:=tu #[] 0
def o695:Obj:=f0 s130 s170 (L2.inClass (topT 61) 4)
def o696:Obj:=co #[.str s130 1038,.str s170 1039,.str s1 1040,i 338,i 3,i 0,i 0,i 3,r 691,.bool true,i 181,r 692,.none,r 693,r 694,r 695,i 1044,i 338,.str s1 1045]
def o697:Obj:=fo s130 s170 (L2.inClass (topT 61) 4) (.str s4 589) (r 696)
def o698:Obj:=tu #[] 0
def o699:Obj:=⟨.none,none,.fields #[],#[]⟩
def o700:Obj:=tu #[.str s119 1050,.str s79 1051] 0
def o701:Obj:=tu #[] 0
def o702:Obj:=f0 s131 s171 (L2.inClass (topT 61) 5)
def o703:Obj:=co #[.str s131 1047,.str s171 1048,.str s1 1049,i 341,i 2,i 0,i 0,i 3,r 698,.bool true,i 181,r 699,.none,r 700,r 701,r 702,i 1052,i 341,.str s1 1053]
def o704:Obj:=fo s131 s171 (L2.inClass (topT 61) 5) (.str s4 589) (r 703)
def o705:Obj:=tu #[] 0
def o706:Obj:=⟨.none,none,.fields #[],#[]⟩
def o707:Obj:=tu #[.str s119 1058,.str s75 1059] 0
def o708:Obj:=tu #[] 0
def o709:Obj:=f0 s132 s172 (L2.inClass (topT 61) 6)
def o710:Obj:=co #[.str s132 1055,.str s172 1056,.str s1 1057,i 344,i 2,i 0,i 0,i 3,r 705,.bool true,i 181,r 706,.none,r 707,r 708,r 709,i 1060,i 344,.str s1 1061]
def o711:Obj:=fo s132 s172 (L2.inClass (topT 61) 6) (.str s4 589) (r 710)
def o712:Obj:=tu #[] 0
def o713:Obj:=⟨.none,none,.fields #[],#[]⟩
def o714:Obj:=tu #[.str s119 1066,.str s104 1067] 0
def o715:Obj:=tu #[] 0
def o716:Obj:=f0 s133 s173 (L2.inClass (topT 61) 7)
def o717:Obj:=co #[.str s133 1063,.str s173 1064,.str s1 1065,i 347,i 2,i 0,i 0,i 3,r 712,.bool true,i 181,r 713,.none,r 714,r 715,r 716,i 1068,i 347,.str s1 1069]
def o718:Obj:=fo s133 s173 (L2.inClass (topT 61) 7) (.str s4 589) (r 717)
def o719:Obj:=tu #[] 0
def o720(P:Params):Obj:=⟨.type q1,none,.dict #[⟨kh P s64,.str s64 1003,.str s4 589⟩,⟨kh P s67,.str s67 1007,.int 324 1006⟩,⟨kh P s92,.str s92 1014,r 669⟩,⟨kh P s128,.str s128 1021,r 676⟩,⟨kh P s83,.str s83 1028,r 683⟩,⟨kh P s129,.str s129 1037,r 690⟩,⟨kh P s130,.str s130 1046,r 697⟩,⟨kh P s131,.str s131 1054,r 704⟩,⟨kh P s132,.str s132 1062,r 711⟩,⟨kh P s133,.str s133 1070,r 718⟩,⟨kh P s68,.str s68 1071,r 719⟩,⟨kh P s5,.str s5 1072,.none⟩] 2,#[]⟩
def o721:Obj:=⟨.type q6,none,.cls ⟨s112,[r 414],[r 721,r 414,r 346,.type q9],720,s112,true,[],[],false,none,false⟩,#[some (r 656),none,some (.str s112 996),some (.str s112 1004),some (.builtin q14),some (.bool true)]⟩
def o722:Obj:=⟨.type q12,none,.fields #[r 721,r 721,r 721],#[]⟩
def o723:Obj:=⟨.type q4,none,.fields #[.builtin q13,r 721],#[]⟩
def o724:Obj:=tu #[] 0
def o725:Obj:=⟨.none,none,.fields #[],#[]⟩
def o726:Obj:=tu #[.str s174 1080,.str s175 1081,.str s176 1082] 0
def o727:Obj:=tu #[] 0
def o728:Obj:=f0 s113 s113 (topT 63)
def o729:Obj:=co #[.str s113 1077,.str s113 1078,.str s1 1079,i 355,i 2,i 0,i 0,i 3,r 724,.bool true,i 181,r 725,.none,r 726,r 727,r 728,i 1083,i 355,.str s1 1084]
def o730:Obj:=fo s113 s113 (topT 63) (.str s105 1075) (r 729)
def o731:Obj:=tu #[] 0
def o732:Obj:=⟨.none,none,.fields #[],#[]⟩
def o733:Obj:=tu #[.str s177 1089,.str s178 1090,.str s179 1091] 0
def o734:Obj:=tu #[] 0
def o735:Obj:=f0 s114 s114 (topT 64)
def o736:Obj:=co #[.str s114 1086,.str s114 1087,.str s1 1088,i 364,i 1,i 0,i 0,i 3,r 731,.bool true,i 181,r 732,.none,r 733,r 734,r 735,i 1092,i 364,.str s1 1093]
def o737:Obj:=fo s114 s114 (topT 64) (.str s105 1075) (r 736)
def o738:Obj:=tu #[] 0
def o739:Obj:=⟨.none,none,.fields #[],#[]⟩
def o740:Obj:=tu #[.str s180 1098] 0
def o741:Obj:=tu #[] 0
def o742:Obj:=f0 s115 s115 (topT 65)
def o743:Obj:=co #[.str s115 1095,.str s115 1096,.str s1 1097,i 371,i 1,i 0,i 0,i 3,r 738,.bool true,i 181,r 739,.none,r 740,r 741,r 742,i 1099,i 371,.str s1 1100]
def o744:Obj:=fo s115 s115 (topT 65) (.str s105 1075) (r 743)
def o3_2(P:Params):Obj:=⟨.type q1,none,.dict #[⟨kh P s3,.str s3 165,.str s105 1075⟩,⟨kh P s5,.str s5 166,.none⟩,⟨kh P s6,.str s6 167,.none⟩,⟨kh P s7,.str s7 168,.builtin q2⟩,⟨kh P s8,.str s8 169,.none⟩,⟨kh P s9,.str s9 170,r 6⟩,⟨kh P s10,.str s10 171,r 4⟩,⟨kh P s11,.str s11 173,.str s1 172⟩,⟨kh P s12,.str s12 174,.none⟩,⟨kh P s13,.str s13 193,r 21⟩,⟨kh P s14,.str s14 213,r 31⟩,⟨kh P s15,.str s15 229,r 44⟩,⟨kh P s16,.str s16 245,r 56⟩,⟨kh P s17,.str s17 261,r 68⟩,⟨kh P s18,.str s18 277,r 80⟩,⟨kh P s19,.str s19 293,r 92⟩,⟨kh P s20,.str s20 309,r 104⟩,⟨kh P s21,.str s21 325,r 116⟩,⟨kh P s22,.str s22 333,r 123⟩,⟨kh P s23,.str s23 339,r 128⟩,⟨kh P s24,.str s24 345,r 133⟩,⟨kh P s25,.str s25 351,r 138⟩,⟨kh P s26,.str s26 357,r 143⟩,⟨kh P s27,.str s27 369,r 150⟩,⟨kh P s28,.str s28 375,r 155⟩,⟨kh P s29,.str s29 381,r 160⟩,⟨kh P s30,.str s30 385,.int 20 384⟩,⟨kh P s31,.str s31 391,r 165⟩,⟨kh P s32,.str s32 399,r 172⟩,⟨kh P s33,.str s33 406,r 179⟩,⟨kh P s34,.str s34 414,r 186⟩,⟨kh P s35,.str s35 425,r 193⟩,⟨kh P s36,.str s36 434,r 200⟩,⟨kh P s37,.str s37 444,r 207⟩,⟨kh P s38,.str s38 451,r 214⟩,⟨kh P s39,.str s39 457,r 219⟩,⟨kh P s40,.str s40 463,r 224⟩,⟨kh P s41,.str s41 472,r 231⟩,⟨kh P s42,.str s42 478,r 236⟩,⟨kh P s43,.str s43 492,r 243⟩,⟨kh P s44,.str s44 503,r 250⟩,⟨kh P s45,.str s45 509,r 255⟩,⟨kh P s46,.str s46 515,r 260⟩,⟨kh P s47,.str s47 521,r 265⟩,⟨kh P s48,.str s48 529,r 272⟩,⟨kh P s49,.str s49 535,r 277⟩,⟨kh P s50,.str s50 545,r 284⟩,⟨kh P s51,.str s51 551,r 289⟩,⟨kh P s52,.str s52 560,r 296⟩,⟨kh P s53,.str s53 571,r 303⟩,⟨kh P s54,.str s54 580,r 310⟩,⟨kh P s55,.str s55 588,r 317⟩,⟨kh P s56,.str s56 592,.str s57 591⟩,⟨kh P s58,.str s58 594,.int 30 593⟩,⟨kh P s59,.str s59 596,.int 1000000 595⟩,⟨kh P s60,.str s60 602,r 322⟩,⟨kh P s61,.str s61 609,r 329⟩,⟨kh P s62,.str s62 616,r 336⟩,⟨kh P s106,.str s106 636,r 346⟩,⟨kh P s107,.str s107 666,r 374⟩,⟨kh P s108,.str s108 712,r 414⟩,⟨kh P s109,.str s109 810,r 496⟩,⟨kh P s110,.str s110 916,r 585⟩,⟨kh P s111,.str s111 995,r 653⟩,⟨kh P s112,.str s112 1074,r 721⟩,⟨kh P s113,.str s113 1085,r 730⟩,⟨kh P s114,.str s114 1094,r 737⟩,⟨kh P s115,.str s115 1101,r 744⟩,⟨kh P s181,.str s181 1108,r 751⟩,⟨kh P s182,.str s182 1117,r 758⟩,⟨kh P s183,.str s183 1124,r 765⟩,⟨kh P s184,.str s184 1135,r 772⟩,⟨kh P s185,.str s185 1141,r 777⟩,⟨kh P s186,.str s186 1147,r 782⟩,⟨kh P s187,.str s187 1157,r 789⟩,⟨kh P s188,.str s188 1169,r 796⟩,⟨kh P s189,.str s189 1187,r 803⟩,⟨kh P s190,.str s190 1201,r 810⟩,⟨kh P s191,.str s191 1207,r 815⟩,⟨kh P s192,.str s192 1218,r 822⟩] 80,#[]⟩
def o12_2:Obj:=⟨.none,none,.fields #[i 1,i 0,r 20,i 5,i 0,r 27,i 7,i 0,r 40,i 9,i 0,r 52,i 11,i 0,r 64,i 13,i 0,r 76,i 15,i 0,r 88,i 17,i 0,r 100,i 19,i 0,r 112,i 22,i 0,r 122,i 24,i 0,r 127,i 26,i 0,r 132,i 28,i 0,r 137,i 30,i 0,r 142,i 34,i 0,r 149,i 39,i 0,r 154,i 41,i 0,r 159,i 45,i 0,r 164,i 47,i 0,r 171,i 50,i 0,r 178,i 52,i 0,r 185,i 54,i 0,r 192,i 60,i 0,r 199,i 63,i 0,r 206,i 66,i 0,r 213,i 69,i 0,r 218,i 73,i 0,r 223,i 77,i 0,r 230,i 81,i 0,r 235,i 83,i 0,r 242,i 92,i 0,r 249,i 97,i 0,r 254,i 102,i 0,r 259,i 108,i 0,r 264,i 113,i 0,r 271,i 116,i 0,r 276,i 123,i 0,r 283,i 127,i 0,r 288,i 137,i 0,r 295,i 139,i 0,r 302,i 147,i 0,r 309,i 156,i 0,r 316,i 169,i 0,r 321,i 178,i 0,r 328,i 182,i 0,r 335,i 185,i 0,r 342,i 187,i 0,r 356,i 194,i 0,r 382,i 207,i 0,r 422,i 250,i 0,r 504,i 290,i 0,r 593,i 324,i 0,r 661,i 355,i 0,r 729,i 364,i 0,r 736,i 371,i 0,r 743,i 373,i 0,r 750,i 375,i 0,r 757,i 378,i 0,r 764,i 386,i 0,r 771,i 394,i 0,r 776,i 400,i 0,r 781,i 407,i 0,r 788,i 417,i 0,r 795,i 426,i 0,r 802,i 441,i 0,r 809,i 451,i 0,r 814,i 465,i 0,r 821],#[]⟩
def o745:Obj:=tu #[] 0
def o746:Obj:=⟨.none,none,.fields #[],#[]⟩
def o747:Obj:=tu #[.str s180 1105] 0
def o748:Obj:=tu #[] 0
def o749:Obj:=f0 s181 s181 (topT 66)
def o750:Obj:=co #[.str s181 1102,.str s181 1103,.str s1 1104,i 373,i 1,i 0,i 0,i 3,r 745,.bool true,i 181,r 746,.none,r 747,r 748,r 749,i 1106,i 373,.str s1 1107]
def o751:Obj:=fo s181 s181 (topT 66) (.str s105 1075) (r 750)
def o752:Obj:=tu #[] 0
def o753:Obj:=⟨.none,none,.fields #[],#[]⟩
def o754:Obj:=tu #[.str s174 1112,.str s193 1113,.str s194 1114] 0
def o755:Obj:=tu #[] 0
def o756:Obj:=f0 s182 s182 (topT 67)
def o757:Obj:=co #[.str s182 1109,.str s182 1110,.str s1 1111,i 375,i 2,i 0,i 0,i 3,r 752,.bool true,i 181,r 753,.none,r 754,r 755,r 756,i 1115,i 375,.str s1 1116]
def o758:Obj:=fo s182 s182 (topT 67) (.str s105 1075) (r 757)
def o759:Obj:=tu #[] 0
def o760:Obj:=⟨.none,none,.fields #[],#[]⟩
def o761:Obj:=tu #[.str s180 1121] 0
def o762:Obj:=tu #[] 0
def o763:Obj:=f0 s183 s183 (topT 68)
def o764:Obj:=co #[.str s183 1118,.str s183 1119,.str s1 1120,i 378,i 1,i 0,i 0,i 3,r 759,.bool true,i 181,r 760,.none,r 761,r 762,r 763,i 1122,i 378,.str s1 1123]
def o765:Obj:=fo s183 s183 (topT 68) (.str s105 1075) (r 764)
def o766:Obj:=tu #[] 0
def o767:Obj:=⟨.none,none,.fields #[],#[]⟩
def o768:Obj:=tu #[.str s174 1128,.str s195 1129,.str s196 1130,.str s197 1131,.str s198 1132] 0
def o769:Obj:=tu #[] 0
def o770:Obj:=f0 s184 s184 (topT 69)
def o771:Obj:=co #[.str s184 1125,.str s184 1126,.str s1 1127,i 386,i 1,i 0,i 0,i 3,r 766,.bool true,i 181,r 767,.none,r 768,r 769,r 770,i 1133,i 386,.str s1 1134]
def o772:Obj:=fo s184 s184 (topT 69) (.str s105 1075) (r 771)
def o773:Obj:=tu #[] 0
def o774:Obj:=⟨.none,none,.fields #[],#[]⟩
def o775:Obj:=f0 s185 s185 (topT 70)
def o776:Obj:=co #[.str s185 1136,.str s185 1137,.str s1 1138,i 394,i 4,i 0,i 0,i 3,r 773,.bool true,i 181,r 774,.none,.none,.none,r 775,i 1139,i 394,.str s1 1140]
def o777:Obj:=fo s185 s185 (topT 70) (.str s105 1075) (r 776)
def o778:Obj:=tu #[] 0
def o779:Obj:=⟨.none,none,.fields #[],#[]⟩
def o780:Obj:=f0 s186 s186 (topT 71)
def o781:Obj:=co #[.str s186 1142,.str s186 1143,.str s1 1144,i 400,i 2,i 0,i 0,i 3,r 778,.bool true,i 181,r 779,.none,.none,.none,r 780,i 1145,i 400,.str s1 1146]
def o782:Obj:=fo s186 s186 (topT 71) (.str s105 1075) (r 781)
def o783:Obj:=tu #[] 0
def o784:Obj:=⟨.none,none,.fields #[],#[]⟩
def o785:Obj:=tu #[.str s199 1151,.str s193 1152,.str s200 1153,.str s201 1154] 0
def o786:Obj:=tu #[] 0
def o787:Obj:=f0 s187 s187 (topT 72)
def o788:Obj:=co #[.str s187 1148,.str s187 1149,.str s1 1150,i 407,i 4,i 0,i 0,i 3,r 783,.bool true,i 181,r 784,.none,r 785,r 786,r 787,i 1155,i 407,.str s1 1156]
def o789:Obj:=fo s187 s187 (topT 72) (.str s105 1075) (r 788)
def o790:Obj:=tu #[] 0
def o791:Obj:=⟨.none,none,.fields #[],#[]⟩
def o792:Obj:=tu #[.str s199 1161,.str s193 1162,.str s200 1163,.str s201 1164,.str s202 1165,.str s203 1166] 0
def o793:Obj:=tu #[] 0
def o794:Obj:=f0 s188 s188 (topT 73)
def o795:Obj:=co #[.str s188 1158,.str s188 1159,.str s1 1160,i 417,i 4,i 0,i 0,i 3,r 790,.bool true,i 181,r 791,.none,r 792,r 793,r 794,i 1167,i 417,.str s1 1168]
def o796:Obj:=fo s188 s188 (topT 73) (.str s105 1075) (r 795)
def o797:Obj:=tu #[] 0
def o798:Obj:=⟨.none,none,.fields #[],#[]⟩
def o799:Obj:=tu #[.str s174 1173,.str s180 1174,.str s199 1175,.str s196 1176,.str s193 1177,.str s175 1178,.str s204 1179,.str s200 1180,.str s176 1181,.str s205 1182,.str s206 1183,.str s207 1184] 0
def o800:Obj:=tu #[] 0
def o801:Obj:=f0 s189 s189 (topT 74)
def o802:Obj:=co #[.str s189 1170,.str s189 1171,.str s1 1172,i 426,i 5,i 0,i 0,i 3,r 797,.bool true,i 181,r 798,.none,r 799,r 800,r 801,i 1185,i 426,.str s1 1186]
def o803:Obj:=fo s189 s189 (topT 74) (.str s105 1075) (r 802)
def o804:Obj:=tu #[] 0
def o805:Obj:=⟨.none,none,.fields #[],#[]⟩
def o806:Obj:=tu #[.str s174 1191,.str s180 1192,.str s199 1193,.str s196 1194,.str s208 1195,.str s206 1196,.str s209 1197,.str s210 1198] 0
def o807:Obj:=tu #[] 0
def o808:Obj:=f0 s190 s190 (topT 75)
def o809:Obj:=co #[.str s190 1188,.str s190 1189,.str s1 1190,i 441,i 4,i 0,i 0,i 3,r 804,.bool true,i 181,r 805,.none,r 806,r 807,r 808,i 1199,i 441,.str s1 1200]
def o810:Obj:=fo s190 s190 (topT 75) (.str s105 1075) (r 809)
def o811:Obj:=tu #[] 0
def o812:Obj:=⟨.none,none,.fields #[],#[]⟩
def o813:Obj:=f0 s191 s191 (topT 76)
def o814:Obj:=co #[.str s191 1202,.str s191 1203,.str s1 1204,i 451,i 4,i 0,i 0,i 3,r 811,.bool true,i 181,r 812,.none,.none,.none,r 813,i 1205,i 451,.str s1 1206]
def o815:Obj:=fo s191 s191 (topT 76) (.str s105 1075) (r 814)
def o816:Obj:=tu #[] 0
def o817:Obj:=⟨.none,none,.fields #[],#[]⟩
def o818:Obj:=tu #[.str s177 1211,.str s174 1212,.str s180 1213,.str s199 1214,.str s196 1215] 0
def o819:Obj:=tu #[] 0
def o820:Obj:=f0 s192 s192 (topT 77)
def o821:Obj:=co #[.str s192 1208,.str s192 1209,.str s1 1210,i 465,i 1,i 0,i 0,i 3,r 816,.bool true,i 181,r 817,.none,r 818,r 819,r 820,i 1216,i 465,.str s1 1217]
def o822:Obj:=fo s192 s192 (topT 77) (.str s105 1075) (r 821)
def envT:Env:={ scope:=Fast.tw2090489148824371714.main.scope,locals:=mainNs,globals:=mainNs,cells:=[],code:=(r 13),frame:=some 14 }
def cT:Code:=.body (behindTheImports Fast.tw2090489148824371714) envT
def qP:Pos:=⟨0,0,0,0⟩
def Ha(P:Params):Heap:=⟨⟨[boot_o_0 P,boot_o_1 P,boot_o_2 P,boot_o_3 P,boot_o_4 P,boot_o_5 P,boot_o_6 P,boot_o_7 P,boot_o_8 P,boot_o_9 P,boot_o_10 P,o11a,o12a,o13a,o14a]⟩,PySem.Life.mk [] [] [] 0 [] [] false #[] [] 0 false false false 0 [2000,10,10] false 0 true [] [] 0 false⟩
def Sa(w:World)(os:OsState):Shared:=⟨Ha w.params,⟨[]⟩,PySem.Drawn.mk 0 0 0 0,187,os⟩
def Tb(P:Params):BT:=(nd (boot_o_0 P) (nd (boot_o_1 P) (nd (boot_o_3 P) (lf (boot_o_7 P)) (lf o11a)) (nd (boot_o_5 P) (lf (boot_o_9 P)) (lf o13a))) (nd (boot_o_2 P) (nd (boot_o_4 P) (lf (boot_o_8 P)) (lf o12a)) (nd (boot_o_6 P) (lf (boot_o_10 P)) (lf o14a))))
def Sb(w:World)(os:OsState):SharedT:=⟨Tb w.params,15,PySem.Life.mk [] [] [] 0 [] [] false #[] [] 0 false false false 0 [2000,10,10] false 0 true [] [] 0 false,⟨[]⟩,PySem.Drawn.mk 0 0 0 0,187,os⟩
def T0(P:Params):BT:=(nd (boot_o_0 P) (nd (boot_o_1 P) (nd (o3_0 P) (nd (boot_o_7 P) (nd o15 (nd o31 (nd o63 (nd o127 (lf o255) nl) (nd o191 (lf o319) nl)) (nd o95 (nd o159 (lf o287) nl) (lf o223))) (nd o47 (nd (o79 P) (nd o143 (lf o271) nl) (nd o207 (lf o335) nl)) (nd o111 (nd o175 (lf o303) nl) (lf o239)))) (nd o23 (nd o39 (nd o71 (nd o135 (lf o263) nl) (nd o199 (lf o327) nl)) (nd (o103 P) (nd o167 (lf o295) nl) (lf o231))) (nd (o55 P) (nd o87 (nd o151 (lf o279) nl) (lf o215)) (nd o119 (nd o183 (lf o311) nl) (lf o247))))) (nd o11a (nd o19 (nd o35 (nd (o67 P) (nd o131 (lf o259) nl) (nd o195 (lf o323) nl)) (nd o99 (nd o163 (lf o291) nl) (lf o227))) (nd o51 (nd o83 (nd o147 (lf o275) nl) (lf o211)) (nd (o115 P) (nd o179 (lf o307) nl) (lf o243)))) (nd o27 (nd (o43 P) (nd o75 (nd o139 (lf o267) nl) (nd o203 (lf o331) nl)) (nd o107 (nd o171 (lf o299) nl) (lf o235))) (nd o59 (nd (o91 P) (nd o155 (lf o283) nl) (lf o219)) (nd o123 (nd o187 (lf o315) nl) (lf o251)))))) (nd (boot_o_5 P) (nd (boot_o_9 P) (nd o17 (nd o33 (nd o65 (nd o129 (lf o257) nl) (nd o193 (lf o321) nl)) (nd (o97 P) (nd o161 (lf o289) nl) (lf o225))) (nd (o49 P) (nd o81 (nd o145 (lf o273) nl) (lf o209)) (nd o113 (nd o177 (lf o305) nl) (lf o241)))) (nd o25 (nd o41 (nd (o73 P) (nd o137 (lf o265) nl) (nd o201 (lf o329) nl)) (nd o105 (nd o169 (lf o297) nl) (lf o233))) (nd o57 (nd o89 (nd o153 (lf o281) nl) (lf o217)) (nd o121 (nd o185 (lf o313) nl) (lf o249))))) (nd o13a (nd o21 (nd (o37 P) (nd o69 (nd o133 (lf o261) nl) (nd o197 (lf o325) nl)) (nd o101 (nd o165 (lf o293) nl) (lf o229))) (nd o53 (nd (o85 P) (nd o149 (lf o277) nl) (lf o213)) (nd o117 (nd o181 (lf o309) nl) (lf o245)))) (nd o29 (nd o45 (nd o77 (nd o141 (lf o269) nl) (nd o205 (lf o333) nl)) (nd (o109 P) (nd o173 (lf o301) nl) (lf o237))) (nd (o61 P) (nd o93 (nd o157 (lf o285) nl) (lf o221)) (nd o125 (nd o189 (lf o317) nl) (lf o253))))))) (nd (boot_o_2 P) (nd (boot_o_4 P) (nd (boot_o_8 P) (nd o16 (nd o32 (nd o64 (nd o128 (lf o256) nl) (nd o192 (lf o320) nl)) (nd o96 (nd o160 (lf o288) nl) (lf o224))) (nd o48 (nd o80 (nd o144 (lf o272) nl) (nd o208 (lf o336) nl)) (nd o112 (nd o176 (lf o304) nl) (lf o240)))) (nd (o24 P) (nd o40 (nd o72 (nd o136 (lf o264) nl) (nd o200 (lf o328) nl)) (nd o104 (nd o168 (lf o296) nl) (lf o232))) (nd o56 (nd o88 (nd o152 (lf o280) nl) (lf o216)) (nd o120 (nd o184 (lf o312) nl) (lf o248))))) (nd o12_0 (nd o20 (nd o36 (nd o68 (nd o132 (lf o260) nl) (nd o196 (lf o324) nl)) (nd o100 (nd o164 (lf o292) nl) (lf o228))) (nd o52 (nd o84 (nd o148 (lf o276) nl) (lf o212)) (nd o116 (nd o180 (lf o308) nl) (lf o244)))) (nd o28 (nd o44 (nd o76 (nd o140 (lf o268) nl) (nd o204 (lf o332) nl)) (nd o108 (nd o172 (lf o300) nl) (lf o236))) (nd o60 (nd o92 (nd o156 (lf o284) nl) (lf o220)) (nd o124 (nd o188 (lf o316) nl) (lf o252)))))) (nd (boot_o_6 P) (nd (boot_o_10 P) (nd o18 (nd o34 (nd o66 (nd o130 (lf o258) nl) (nd o194 (lf o322) nl)) (nd o98 (nd o162 (lf o290) nl) (lf o226))) (nd o50 (nd o82 (nd o146 (lf o274) nl) (lf o210)) (nd o114 (nd o178 (lf o306) nl) (lf o242)))) (nd o26 (nd o42 (nd o74 (nd o138 (lf o266) nl) (nd o202 (lf o330) nl)) (nd o106 (nd o170 (lf o298) nl) (lf o234))) (nd o58 (nd o90 (nd o154 (lf o282) nl) (lf o218)) (nd o122 (nd o186 (lf o314) nl) (lf o250))))) (nd o14a (nd o22 (nd o38 (nd o70 (nd o134 (lf o262) nl) (nd o198 (lf o326) nl)) (nd o102 (nd o166 (lf o294) nl) (lf o230))) (nd o54 (nd o86 (nd o150 (lf o278) nl) (lf o214)) (nd o118 (nd o182 (lf o310) nl) (lf o246)))) (nd (o30 P) (nd o46 (nd o78 (nd o142 (lf o270) nl) (nd o206 (lf o334) nl)) (nd o110 (nd o174 (lf o302) nl) (lf o238))) (nd o62 (nd o94 (nd o158 (lf o286) nl) (lf o222)) (nd o126 (nd o190 (lf o318) nl) (lf o254))))))))
def S0(w:World)(os:OsState):SharedT:=⟨T0 w.params,337,PySem.Life.mk [] [] [] 0 [] [] false #[] [] 0 false false false 0 [2000,10,10] false 0 true [] [] 0 false,⟨[]⟩,PySem.Drawn.mk 0 0 0 0,617,os⟩
def T1(P:Params):BT:=(nd (boot_o_0 P) (nd (boot_o_1 P) (nd (o3_1 P) (nd (boot_o_7 P) (nd o15 (nd o31 (nd o63 (nd o127 (nd o255 (lf o511) nl) (nd o383 (lf o639) nl)) (nd o191 (nd o319 (lf o575) nl) (nd o447 (lf o703) nl))) (nd o95 (nd o159 (nd o287 (lf o543) nl) (nd o415 (lf o671) nl)) (nd o223 (nd o351 (lf o607) nl) (nd o479 (lf o735) nl)))) (nd o47 (nd (o79 P) (nd o143 (nd o271 (lf o527) nl) (nd o399 (lf o655) nl)) (nd o207 (nd o335 (lf o591) nl) (nd o463 (lf o719) nl))) (nd o111 (nd o175 (nd o303 (lf o559) nl) (nd o431 (lf o687) nl)) (nd o239 (nd o367 (lf o623) nl) (lf (o495 P)))))) (nd o23 (nd o39 (nd o71 (nd o135 (nd o263 (lf o519) nl) (nd o391 (lf o647) nl)) (nd o199 (nd o327 (lf o583) nl) (nd o455 (lf o711) nl))) (nd (o103 P) (nd o167 (nd o295 (lf o551) nl) (nd o423 (lf o679) nl)) (nd o231 (nd o359 (lf o615) nl) (nd o487 (lf o743) nl)))) (nd (o55 P) (nd o87 (nd o151 (nd o279 (lf o535) nl) (nd o407 (lf o663) nl)) (nd o215 (nd o343 (lf o599) nl) (nd o471 (lf o727) nl))) (nd o119 (nd o183 (nd o311 (lf o567) nl) (nd o439 (lf o695) nl)) (nd o247 (nd o375 (lf o631) nl) (lf o503)))))) (nd o11a (nd o19 (nd o35 (nd (o67 P) (nd o131 (nd o259 (lf o515) nl) (nd o387 (lf o643) nl)) (nd o195 (nd o323 (lf o579) nl) (nd o451 (lf o707) nl))) (nd o99 (nd o163 (nd o291 (lf o547) nl) (nd (o419 P) (lf o675) nl)) (nd o227 (nd o355 (lf o611) nl) (nd o483 (lf o739) nl)))) (nd o51 (nd o83 (nd o147 (nd o275 (lf o531) nl) (nd o403 (lf o659) nl)) (nd o211 (nd (o339 P) (lf o595) nl) (nd o467 (lf o723) nl))) (nd (o115 P) (nd o179 (nd o307 (lf o563) nl) (nd o435 (lf o691) nl)) (nd o243 (nd o371 (lf o627) nl) (lf o499))))) (nd o27 (nd (o43 P) (nd o75 (nd o139 (nd o267 (lf o523) nl) (nd o395 (lf o651) nl)) (nd o203 (nd o331 (lf o587) nl) (nd o459 (lf o715) nl))) (nd o107 (nd o171 (nd o299 (lf o555) nl) (nd o427 (lf o683) nl)) (nd o235 (nd o363 (lf o619) nl) (lf o491)))) (nd o59 (nd (o91 P) (nd o155 (nd o283 (lf o539) nl) (nd o411 (lf o667) nl)) (nd o219 (nd o347 (lf o603) nl) (nd o475 (lf o731) nl))) (nd o123 (nd o187 (nd o315 (lf o571) nl) (nd o443 (lf o699) nl)) (nd o251 (nd (o379 P) (lf o635) nl) (lf o507))))))) (nd (boot_o_5 P) (nd (boot_o_9 P) (nd o17 (nd o33 (nd o65 (nd o129 (nd o257 (lf o513) nl) (nd o385 (lf o641) nl)) (nd o193 (nd o321 (lf o577) nl) (nd o449 (lf o705) nl))) (nd (o97 P) (nd o161 (nd o289 (lf o545) nl) (nd o417 (lf o673) nl)) (nd o225 (nd (o353 P) (lf o609) nl) (nd o481 (lf o737) nl)))) (nd (o49 P) (nd o81 (nd o145 (nd o273 (lf o529) nl) (nd o401 (lf o657) nl)) (nd o209 (nd o337 (lf o593) nl) (nd o465 (lf o721) nl))) (nd o113 (nd o177 (nd o305 (lf o561) nl) (nd o433 (lf o689) nl)) (nd o241 (nd o369 (lf o625) nl) (lf o497))))) (nd o25 (nd o41 (nd (o73 P) (nd o137 (nd o265 (lf o521) nl) (nd o393 (lf o649) nl)) (nd o201 (nd o329 (lf o585) nl) (nd o457 (lf o713) nl))) (nd o105 (nd o169 (nd o297 (lf o553) nl) (nd o425 (lf o681) nl)) (nd o233 (nd o361 (lf o617) nl) (lf o489)))) (nd o57 (nd o89 (nd o153 (nd o281 (lf o537) nl) (nd o409 (lf o665) nl)) (nd o217 (nd (o345 P) (lf o601) nl) (nd o473 (lf o729) nl))) (nd o121 (nd o185 (nd o313 (lf o569) nl) (nd o441 (lf o697) nl)) (nd o249 (nd o377 (lf o633) nl) (lf o505)))))) (nd o13a (nd o21 (nd (o37 P) (nd o69 (nd o133 (nd o261 (lf o517) nl) (nd o389 (lf o645) nl)) (nd o197 (nd o325 (lf o581) nl) (nd o453 (lf o709) nl))) (nd o101 (nd o165 (nd o293 (lf o549) nl) (nd o421 (lf o677) nl)) (nd o229 (nd o357 (lf o613) nl) (nd o485 (lf o741) nl)))) (nd o53 (nd (o85 P) (nd o149 (nd o277 (lf o533) nl) (nd o405 (lf o661) nl)) (nd o213 (nd o341 (lf o597) nl) (nd o469 (lf o725) nl))) (nd o117 (nd o181 (nd o309 (lf o565) nl) (nd o437 (lf o693) nl)) (nd o245 (nd (o373 P) (lf o629) nl) (lf (o501 P)))))) (nd o29 (nd o45 (nd o77 (nd o141 (nd o269 (lf o525) nl) (nd o397 (lf o653) nl)) (nd o205 (nd o333 (lf o589) nl) (nd o461 (lf o717) nl))) (nd (o109 P) (nd o173 (nd o301 (lf o557) nl) (nd o429 (lf o685) nl)) (nd o237 (nd o365 (lf o621) nl) (lf o493)))) (nd (o61 P) (nd o93 (nd o157 (nd o285 (lf o541) nl) (nd (o413 P) (lf o669) nl)) (nd o221 (nd o349 (lf o605) nl) (nd o477 (lf o733) nl))) (nd o125 (nd o189 (nd o317 (lf o573) nl) (nd o445 (lf o701) nl)) (nd o253 (nd o381 (lf o637) nl) (lf o509)))))))) (nd (boot_o_2 P) (nd (boot_o_4 P) (nd (boot_o_8 P) (nd o16 (nd o32 (nd o64 (nd o128 (nd o256 (lf o512) nl) (nd o384 (lf o640) nl)) (nd o192 (nd o320 (lf o576) nl) (nd o448 (lf o704) nl))) (nd o96 (nd o160 (nd o288 (lf o544) nl) (nd o416 (lf o672) nl)) (nd o224 (nd o352 (lf o608) nl) (nd o480 (lf o736) nl)))) (nd o48 (nd o80 (nd o144 (nd o272 (lf o528) nl) (nd o400 (lf o656) nl)) (nd o208 (nd o336 (lf o592) nl) (nd o464 (lf (o720 P)) nl))) (nd o112 (nd o176 (nd o304 (lf o560) nl) (nd o432 (lf o688) nl)) (nd o240 (nd o368 (lf o624) nl) (lf o496))))) (nd (o24 P) (nd o40 (nd o72 (nd o136 (nd o264 (lf o520) nl) (nd o392 (lf o648) nl)) (nd o200 (nd o328 (lf (o584 P)) nl) (nd o456 (lf o712) nl))) (nd o104 (nd o168 (nd o296 (lf o552) nl) (nd o424 (lf o680) nl)) (nd o232 (nd o360 (lf o616) nl) (nd o488 (lf o744) nl)))) (nd o56 (nd o88 (nd o152 (nd o280 (lf o536) nl) (nd o408 (lf o664) nl)) (nd o216 (nd o344 (lf o600) nl) (nd o472 (lf o728) nl))) (nd o120 (nd o184 (nd o312 (lf o568) nl) (nd o440 (lf o696) nl)) (nd o248 (nd o376 (lf o632) nl) (lf o504)))))) (nd o12_1 (nd o20 (nd o36 (nd o68 (nd o132 (nd o260 (lf o516) nl) (nd o388 (lf o644) nl)) (nd o196 (nd o324 (lf o580) nl) (nd o452 (lf o708) nl))) (nd o100 (nd o164 (nd o292 (lf o548) nl) (nd o420 (lf o676) nl)) (nd o228 (nd o356 (lf o612) nl) (nd o484 (lf o740) nl)))) (nd o52 (nd o84 (nd o148 (nd o276 (lf o532) nl) (nd o404 (lf o660) nl)) (nd o212 (nd o340 (lf o596) nl) (nd o468 (lf o724) nl))) (nd o116 (nd o180 (nd o308 (lf o564) nl) (nd o436 (lf o692) nl)) (nd o244 (nd o372 (lf o628) nl) (lf o500))))) (nd o28 (nd o44 (nd o76 (nd o140 (nd o268 (lf o524) nl) (nd o396 (lf (o652 P)) nl)) (nd o204 (nd o332 (lf o588) nl) (nd o460 (lf o716) nl))) (nd o108 (nd o172 (nd o300 (lf o556) nl) (nd o428 (lf o684) nl)) (nd o236 (nd o364 (lf o620) nl) (lf o492)))) (nd o60 (nd o92 (nd o156 (nd o284 (lf o540) nl) (nd o412 (lf o668) nl)) (nd o220 (nd o348 (lf o604) nl) (nd o476 (lf o732) nl))) (nd o124 (nd o188 (nd o316 (lf o572) nl) (nd o444 (lf o700) nl)) (nd o252 (nd o380 (lf o636) nl) (lf o508))))))) (nd (boot_o_6 P) (nd (boot_o_10 P) (nd o18 (nd o34 (nd o66 (nd o130 (nd o258 (lf o514) nl) (nd o386 (lf o642) nl)) (nd o194 (nd o322 (lf o578) nl) (nd o450 (lf o706) nl))) (nd o98 (nd o162 (nd o290 (lf o546) nl) (nd o418 (lf o674) nl)) (nd o226 (nd o354 (lf o610) nl) (nd o482 (lf o738) nl)))) (nd o50 (nd o82 (nd o146 (nd o274 (lf o530) nl) (nd o402 (lf (o658 P)) nl)) (nd o210 (nd o338 (lf o594) nl) (nd o466 (lf o722) nl))) (nd o114 (nd o178 (nd o306 (lf o562) nl) (nd o434 (lf o690) nl)) (nd o242 (nd o370 (lf o626) nl) (lf o498))))) (nd o26 (nd o42 (nd o74 (nd o138 (nd o266 (lf o522) nl) (nd o394 (lf o650) nl)) (nd o202 (nd o330 (lf o586) nl) (nd o458 (lf o714) nl))) (nd o106 (nd o170 (nd o298 (lf o554) nl) (nd o426 (lf o682) nl)) (nd o234 (nd o362 (lf o618) nl) (lf o490)))) (nd o58 (nd o90 (nd o154 (nd o282 (lf o538) nl) (nd o410 (lf o666) nl)) (nd o218 (nd o346 (lf o602) nl) (nd o474 (lf o730) nl))) (nd o122 (nd o186 (nd o314 (lf o570) nl) (nd o442 (lf o698) nl)) (nd o250 (nd o378 (lf o634) nl) (lf o506)))))) (nd o14a (nd o22 (nd o38 (nd o70 (nd o134 (nd o262 (lf o518) nl) (nd o390 (lf o646) nl)) (nd o198 (nd o326 (lf o582) nl) (nd o454 (lf o710) nl))) (nd o102 (nd o166 (nd o294 (lf o550) nl) (nd o422 (lf o678) nl)) (nd o230 (nd o358 (lf o614) nl) (nd o486 (lf o742) nl)))) (nd o54 (nd o86 (nd o150 (nd o278 (lf o534) nl) (nd o406 (lf o662) nl)) (nd o214 (nd o342 (lf o598) nl) (nd o470 (lf o726) nl))) (nd o118 (nd o182 (nd o310 (lf o566) nl) (nd o438 (lf o694) nl)) (nd o246 (nd o374 (lf o630) nl) (lf o502))))) (nd (o30 P) (nd o46 (nd o78 (nd o142 (nd o270 (lf o526) nl) (nd o398 (lf o654) nl)) (nd o206 (nd o334 (lf (o590 P)) nl) (nd o462 (lf o718) nl))) (nd o110 (nd o174 (nd o302 (lf o558) nl) (nd o430 (lf o686) nl)) (nd o238 (nd o366 (lf o622) nl) (lf o494)))) (nd o62 (nd o94 (nd o158 (nd o286 (lf o542) nl) (nd o414 (lf o670) nl)) (nd o222 (nd o350 (lf o606) nl) (nd o478 (lf o734) nl))) (nd o126 (nd o190 (nd o318 (lf o574) nl) (nd o446 (lf o702) nl)) (nd o254 (nd o382 (lf o638) nl) (lf o510)))))))))
def S1(w:World)(os:OsState):SharedT:=⟨T1 w.params,745,PySem.Life.mk [] [] [] 0 [] [] false #[] [] 0 false false false 0 [2000,10,10] false 0 true [] [] 0 false,⟨[]⟩,PySem.Drawn.mk 0 0 0 0,1102,os⟩
def T2(P:Params):BT:=(nd (boot_o_0 P) (nd (boot_o_1 P) (nd (o3_2 P) (nd (boot_o_7 P) (nd o15 (nd o31 (nd o63 (nd o127 (nd o255 (lf o511) (lf o767)) (nd o383 (lf o639) nl)) (nd o191 (nd o319 (lf o575) nl) (nd o447 (lf o703) nl))) (nd o95 (nd o159 (nd o287 (lf o543) (lf o799)) (nd o415 (lf o671) nl)) (nd o223 (nd o351 (lf o607) nl) (nd o479 (lf o735) nl)))) (nd o47 (nd (o79 P) (nd o143 (nd o271 (lf o527) (lf o783)) (nd o399 (lf o655) nl)) (nd o207 (nd o335 (lf o591) nl) (nd o463 (lf o719) nl))) (nd o111 (nd o175 (nd o303 (lf o559) (lf o815)) (nd o431 (lf o687) nl)) (nd o239 (nd o367 (lf o623) nl) (nd (o495 P) (lf o751) nl))))) (nd o23 (nd o39 (nd o71 (nd o135 (nd o263 (lf o519) (lf o775)) (nd o391 (lf o647) nl)) (nd o199 (nd o327 (lf o583) nl) (nd o455 (lf o711) nl))) (nd (o103 P) (nd o167 (nd o295 (lf o551) (lf o807)) (nd o423 (lf o679) nl)) (nd o231 (nd o359 (lf o615) nl) (nd o487 (lf o743) nl)))) (nd (o55 P) (nd o87 (nd o151 (nd o279 (lf o535) (lf o791)) (nd o407 (lf o663) nl)) (nd o215 (nd o343 (lf o599) nl) (nd o471 (lf o727) nl))) (nd o119 (nd o183 (nd o311 (lf o567) nl) (nd o439 (lf o695) nl)) (nd o247 (nd o375 (lf o631) nl) (nd o503 (lf o759) nl)))))) (nd o11a (nd o19 (nd o35 (nd (o67 P) (nd o131 (nd o259 (lf o515) (lf o771)) (nd o387 (lf o643) nl)) (nd o195 (nd o323 (lf o579) nl) (nd o451 (lf o707) nl))) (nd o99 (nd o163 (nd o291 (lf o547) (lf o803)) (nd (o419 P) (lf o675) nl)) (nd o227 (nd o355 (lf o611) nl) (nd o483 (lf o739) nl)))) (nd o51 (nd o83 (nd o147 (nd o275 (lf o531) (lf o787)) (nd o403 (lf o659) nl)) (nd o211 (nd (o339 P) (lf o595) nl) (nd o467 (lf o723) nl))) (nd (o115 P) (nd o179 (nd o307 (lf o563) (lf o819)) (nd o435 (lf o691) nl)) (nd o243 (nd o371 (lf o627) nl) (nd o499 (lf o755) nl))))) (nd o27 (nd (o43 P) (nd o75 (nd o139 (nd o267 (lf o523) (lf o779)) (nd o395 (lf o651) nl)) (nd o203 (nd o331 (lf o587) nl) (nd o459 (lf o715) nl))) (nd o107 (nd o171 (nd o299 (lf o555) (lf o811)) (nd o427 (lf o683) nl)) (nd o235 (nd o363 (lf o619) nl) (nd o491 (lf o747) nl)))) (nd o59 (nd (o91 P) (nd o155 (nd o283 (lf o539) (lf o795)) (nd o411 (lf o667) nl)) (nd o219 (nd o347 (lf o603) nl) (nd o475 (lf o731) nl))) (nd o123 (nd o187 (nd o315 (lf o571) nl) (nd o443 (lf o699) nl)) (nd o251 (nd (o379 P) (lf o635) nl) (nd o507 (lf o763) nl))))))) (nd (boot_o_5 P) (nd (boot_o_9 P) (nd o17 (nd o33 (nd o65 (nd o129 (nd o257 (lf o513) (lf o769)) (nd o385 (lf o641) nl)) (nd o193 (nd o321 (lf o577) nl) (nd o449 (lf o705) nl))) (nd (o97 P) (nd o161 (nd o289 (lf o545) (lf o801)) (nd o417 (lf o673) nl)) (nd o225 (nd (o353 P) (lf o609) nl) (nd o481 (lf o737) nl)))) (nd (o49 P) (nd o81 (nd o145 (nd o273 (lf o529) (lf o785)) (nd o401 (lf o657) nl)) (nd o209 (nd o337 (lf o593) nl) (nd o465 (lf o721) nl))) (nd o113 (nd o177 (nd o305 (lf o561) (lf o817)) (nd o433 (lf o689) nl)) (nd o241 (nd o369 (lf o625) nl) (nd o497 (lf o753) nl))))) (nd o25 (nd o41 (nd (o73 P) (nd o137 (nd o265 (lf o521) (lf o777)) (nd o393 (lf o649) nl)) (nd o201 (nd o329 (lf o585) nl) (nd o457 (lf o713) nl))) (nd o105 (nd o169 (nd o297 (lf o553) (lf o809)) (nd o425 (lf o681) nl)) (nd o233 (nd o361 (lf o617) nl) (nd o489 (lf o745) nl)))) (nd o57 (nd o89 (nd o153 (nd o281 (lf o537) (lf o793)) (nd o409 (lf o665) nl)) (nd o217 (nd (o345 P) (lf o601) nl) (nd o473 (lf o729) nl))) (nd o121 (nd o185 (nd o313 (lf o569) nl) (nd o441 (lf o697) nl)) (nd o249 (nd o377 (lf o633) nl) (nd o505 (lf o761) nl)))))) (nd o13a (nd o21 (nd (o37 P) (nd o69 (nd o133 (nd o261 (lf o517) (lf o773)) (nd o389 (lf o645) nl)) (nd o197 (nd o325 (lf o581) nl) (nd o453 (lf o709) nl))) (nd o101 (nd o165 (nd o293 (lf o549) (lf o805)) (nd o421 (lf o677) nl)) (nd o229 (nd o357 (lf o613) nl) (nd o485 (lf o741) nl)))) (nd o53 (nd (o85 P) (nd o149 (nd o277 (lf o533) (lf o789)) (nd o405 (lf o661) nl)) (nd o213 (nd o341 (lf o597) nl) (nd o469 (lf o725) nl))) (nd o117 (nd o181 (nd o309 (lf o565) (lf o821)) (nd o437 (lf o693) nl)) (nd o245 (nd (o373 P) (lf o629) nl) (nd (o501 P) (lf o757) nl))))) (nd o29 (nd o45 (nd o77 (nd o141 (nd o269 (lf o525) (lf o781)) (nd o397 (lf o653) nl)) (nd o205 (nd o333 (lf o589) nl) (nd o461 (lf o717) nl))) (nd (o109 P) (nd o173 (nd o301 (lf o557) (lf o813)) (nd o429 (lf o685) nl)) (nd o237 (nd o365 (lf o621) nl) (nd o493 (lf o749) nl)))) (nd (o61 P) (nd o93 (nd o157 (nd o285 (lf o541) (lf o797)) (nd (o413 P) (lf o669) nl)) (nd o221 (nd o349 (lf o605) nl) (nd o477 (lf o733) nl))) (nd o125 (nd o189 (nd o317 (lf o573) nl) (nd o445 (lf o701) nl)) (nd o253 (nd o381 (lf o637) nl) (nd o509 (lf o765) nl)))))))) (nd (boot_o_2 P) (nd (boot_o_4 P) (nd (boot_o_8 P) (nd o16 (nd o32 (nd o64 (nd o128 (nd o256 (lf o512) (lf o768)) (nd o384 (lf o640) nl)) (nd o192 (nd o320 (lf o576) nl) (nd o448 (lf o704) nl))) (nd o96 (nd o160 (nd o288 (lf o544) (lf o800)) (nd o416 (lf o672) nl)) (nd o224 (nd o352 (lf o608) nl) (nd o480 (lf o736) nl)))) (nd o48 (nd o80 (nd o144 (nd o272 (lf o528) (lf o784)) (nd o400 (lf o656) nl)) (nd o208 (nd o336 (lf o592) nl) (nd o464 (lf (o720 P)) nl))) (nd o112 (nd o176 (nd o304 (lf o560) (lf o816)) (nd o432 (lf o688) nl)) (nd o240 (nd o368 (lf o624) nl) (nd o496 (lf o752) nl))))) (nd (o24 P) (nd o40 (nd o72 (nd o136 (nd o264 (lf o520) (lf o776)) (nd o392 (lf o648) nl)) (nd o200 (nd o328 (lf (o584 P)) nl) (nd o456 (lf o712) nl))) (nd o104 (nd o168 (nd o296 (lf o552) (lf o808)) (nd o424 (lf o680) nl)) (nd o232 (nd o360 (lf o616) nl) (nd o488 (lf o744) nl)))) (nd o56 (nd o88 (nd o152 (nd o280 (lf o536) (lf o792)) (nd o408 (lf o664) nl)) (nd o216 (nd o344 (lf o600) nl) (nd o472 (lf o728) nl))) (nd o120 (nd o184 (nd o312 (lf o568) nl) (nd o440 (lf o696) nl)) (nd o248 (nd o376 (lf o632) nl) (nd o504 (lf o760) nl)))))) (nd o12_2 (nd o20 (nd o36 (nd o68 (nd o132 (nd o260 (lf o516) (lf o772)) (nd o388 (lf o644) nl)) (nd o196 (nd o324 (lf o580) nl) (nd o452 (lf o708) nl))) (nd o100 (nd o164 (nd o292 (lf o548) (lf o804)) (nd o420 (lf o676) nl)) (nd o228 (nd o356 (lf o612) nl) (nd o484 (lf o740) nl)))) (nd o52 (nd o84 (nd o148 (nd o276 (lf o532) (lf o788)) (nd o404 (lf o660) nl)) (nd o212 (nd o340 (lf o596) nl) (nd o468 (lf o724) nl))) (nd o116 (nd o180 (nd o308 (lf o564) (lf o820)) (nd o436 (lf o692) nl)) (nd o244 (nd o372 (lf o628) nl) (nd o500 (lf o756) nl))))) (nd o28 (nd o44 (nd o76 (nd o140 (nd o268 (lf o524) (lf o780)) (nd o396 (lf (o652 P)) nl)) (nd o204 (nd o332 (lf o588) nl) (nd o460 (lf o716) nl))) (nd o108 (nd o172 (nd o300 (lf o556) (lf o812)) (nd o428 (lf o684) nl)) (nd o236 (nd o364 (lf o620) nl) (nd o492 (lf o748) nl)))) (nd o60 (nd o92 (nd o156 (nd o284 (lf o540) (lf o796)) (nd o412 (lf o668) nl)) (nd o220 (nd o348 (lf o604) nl) (nd o476 (lf o732) nl))) (nd o124 (nd o188 (nd o316 (lf o572) nl) (nd o444 (lf o700) nl)) (nd o252 (nd o380 (lf o636) nl) (nd o508 (lf o764) nl))))))) (nd (boot_o_6 P) (nd (boot_o_10 P) (nd o18 (nd o34 (nd o66 (nd o130 (nd o258 (lf o514) (lf o770)) (nd o386 (lf o642) nl)) (nd o194 (nd o322 (lf o578) nl) (nd o450 (lf o706) nl))) (nd o98 (nd o162 (nd o290 (lf o546) (lf o802)) (nd o418 (lf o674) nl)) (nd o226 (nd o354 (lf o610) nl) (nd o482 (lf o738) nl)))) (nd o50 (nd o82 (nd o146 (nd o274 (lf o530) (lf o786)) (nd o402 (lf (o658 P)) nl)) (nd o210 (nd o338 (lf o594) nl) (nd o466 (lf o722) nl))) (nd o114 (nd o178 (nd o306 (lf o562) (lf o818)) (nd o434 (lf o690) nl)) (nd o242 (nd o370 (lf o626) nl) (nd o498 (lf o754) nl))))) (nd o26 (nd o42 (nd o74 (nd o138 (nd o266 (lf o522) (lf o778)) (nd o394 (lf o650) nl)) (nd o202 (nd o330 (lf o586) nl) (nd o458 (lf o714) nl))) (nd o106 (nd o170 (nd o298 (lf o554) (lf o810)) (nd o426 (lf o682) nl)) (nd o234 (nd o362 (lf o618) nl) (nd o490 (lf o746) nl)))) (nd o58 (nd o90 (nd o154 (nd o282 (lf o538) (lf o794)) (nd o410 (lf o666) nl)) (nd o218 (nd o346 (lf o602) nl) (nd o474 (lf o730) nl))) (nd o122 (nd o186 (nd o314 (lf o570) nl) (nd o442 (lf o698) nl)) (nd o250 (nd o378 (lf o634) nl) (nd o506 (lf o762) nl)))))) (nd o14a (nd o22 (nd o38 (nd o70 (nd o134 (nd o262 (lf o518) (lf o774)) (nd o390 (lf o646) nl)) (nd o198 (nd o326 (lf o582) nl) (nd o454 (lf o710) nl))) (nd o102 (nd o166 (nd o294 (lf o550) (lf o806)) (nd o422 (lf o678) nl)) (nd o230 (nd o358 (lf o614) nl) (nd o486 (lf o742) nl)))) (nd o54 (nd o86 (nd o150 (nd o278 (lf o534) (lf o790)) (nd o406 (lf o662) nl)) (nd o214 (nd o342 (lf o598) nl) (nd o470 (lf o726) nl))) (nd o118 (nd o182 (nd o310 (lf o566) (lf o822)) (nd o438 (lf o694) nl)) (nd o246 (nd o374 (lf o630) nl) (nd o502 (lf o758) nl))))) (nd (o30 P) (nd o46 (nd o78 (nd o142 (nd o270 (lf o526) (lf o782)) (nd o398 (lf o654) nl)) (nd o206 (nd o334 (lf (o590 P)) nl) (nd o462 (lf o718) nl))) (nd o110 (nd o174 (nd o302 (lf o558) (lf o814)) (nd o430 (lf o686) nl)) (nd o238 (nd o366 (lf o622) nl) (nd o494 (lf o750) nl)))) (nd o62 (nd o94 (nd o158 (nd o286 (lf o542) (lf o798)) (nd o414 (lf o670) nl)) (nd o222 (nd o350 (lf o606) nl) (nd o478 (lf o734) nl))) (nd o126 (nd o190 (nd o318 (lf o574) nl) (nd o446 (lf o702) nl)) (nd o254 (nd o382 (lf o638) nl) (nd o510 (lf o766) nl)))))))))
def S2(w:World)(os:OsState):SharedT:=⟨T2 w.params,823,PySem.Life.mk [] [] [] 0 [] [] false #[] [] 0 false false false 0 [2000,10,10] false 0 true [] [] 0 false,⟨[]⟩,PySem.Drawn.mk 0 0 0 0,1219,os⟩
def Hf(P:Params):Heap:=⟨⟨[boot_o_0 P,boot_o_1 P,boot_o_2 P,o3_2 P,boot_o_4 P,boot_o_5 P,boot_o_6 P,boot_o_7 P,boot_o_8 P,boot_o_9 P,boot_o_10 P,o11a,o12_2,o13a,o14a,o15,o16,o17,o18,o19,o20,o21,o22,o23,o24 P,o25,o26,o27,o28,o29,o30 P,o31,o32,o33,o34,o35,o36,o37 P,o38,o39,o40,o41,o42,o43 P,o44,o45,o46,o47,o48,o49 P,o50,o51,o52,o53,o54,o55 P,o56,o57,o58,o59,o60,o61 P,o62,o63,o64,o65,o66,o67 P,o68,o69,o70,o71,o72,o73 P,o74,o75,o76,o77,o78,o79 P,o80,o81,o82,o83,o84,o85 P,o86,o87,o88,o89,o90,o91 P,o92,o93,o94,o95,o96,o97 P,o98,o99,o100,o101,o102,o103 P,o104,o105,o106,o107,o108,o109 P,o110,o111,o112,o113,o114,o115 P,o116,o117,o118,o119,o120,o121,o122,o123,o124,o125,o126,o127,o128,o129,o130,o131,o132,o133,o134,o135,o136,o137,o138,o139,o140,o141,o142,o143,o144,o145,o146,o147,o148,o149,o150,o151,o152,o153,o154,o155,o156,o157,o158,o159,o160,o161,o162,o163,o164,o165,o166,o167,o168,o169,o170,o171,o172,o173,o174,o175,o176,o177,o178,o179,o180,o181,o182,o183,o184,o185,o186,o187,o188,o189,o190,o191,o192,o193,o194,o195,o196,o197,o198,o199,o200,o201,o202,o203,o204,o205,o206,o207,o208,o209,o210,o211,o212,o213,o214,o215,o216,o217,o218,o219,o220,o221,o222,o223,o224,o225,o226,o227,o228,o229,o230,o231,o232,o233,o234,o235,o236,o237,o238,o239,o240,o241,o242,o243,o244,o245,o246,o247,o248,o249,o250,o251,o252,o253,o254,o255,o256,o257,o258,o259,o260,o261,o262,o263,o264,o265,o266,o267,o268,o269,o270,o271,o272,o273,o274,o275,o276,o277,o278,o279,o280,o281,o282,o283,o284,o285,o286,o287,o288,o289,o290,o291,o292,o293,o294,o295,o296,o297,o298,o299,o300,o301,o302,o303,o304,o305,o306,o307,o308,o309,o310,o311,o312,o313,o314,o315,o316,o317,o318,o319,o320,o321,o322,o323,o324,o325,o326,o327,o328,o329,o330,o331,o332,o333,o334,o335,o336,o337,o338,o339 P,o340,o341,o342,o343,o344,o345 P,o346,o347,o348,o349,o350,o351,o352,o353 P,o354,o355,o356,o357,o358,o359,o360,o361,o362,o363,o364,o365,o366,o367,o368,o369,o370,o371,o372,o373 P,o374,o375,o376,o377,o378,o379 P,o380,o381,o382,o383,o384,o385,o386,o387,o388,o389,o390,o391,o392,o393,o394,o395,o396,o397,o398,o399,o400,o401,o402,o403,o404,o405,o406,o407,o408,o409,o410,o411,o412,o413 P,o414,o415,o416,o417,o418,o419 P,o420,o421,o422,o423,o424,o425,o426,o427,o428,o429,o430,o431,o432,o433,o434,o435,o436,o437,o438,o439,o440,o441,o442,o443,o444,o445,o446,o447,o448,o449,o450,o451,o452,o453,o454,o455,o456,o457,o458,o459,o460,o461,o462,o463,o464,o465,o466,o467,o468,o469,o470,o471,o472,o473,o474,o475,o476,o477,o478,o479,o480,o481,o482,o483,o484,o485,o486,o487,o488,o489,o490,o491,o492,o493,o494,o495 P,o496,o497,o498,o499,o500,o501 P,o502,o503,o504,o505,o506,o507,o508,o509,o510,o511,o512,o513,o514,o515,o516,o517,o518,o519,o520,o521,o522,o523,o524,o525,o526,o527,o528,o529,o530,o531,o532,o533,o534,o535,o536,o537,o538,o539,o540,o541,o542,o543,o544,o545,o546,o547,o548,o549,o550,o551,o552,o553,o554,o555,o556,o557,o558,o559,o560,o561,o562,o563,o564,o565,o566,o567,o568,o569,o570,o571,o572,o573,o574,o575,o576,o577,o578,o579,o580,o581,o582,o583,o584 P,o585,o586,o587,o588,o589,o590 P,o591,o592,o593,o594,o595,o596,o597,o598,o599,o600,o601,o602,o603,o604,o605,o606,o607,o608,o609,o610,o611,o612,o613,o614,o615,o616,o617,o618,o619,o620,o621,o622,o623,o624,o625,o626,o627,o628,o629,o630,o631,o632,o633,o634,o635,o636,o637,o638,o639,o640,o641,o642,o643,o644,o645,o646,o647,o648,o649,o650,o651,o652 P,o653,o654,o655,o656,o657,o658 P,o659,o660,o661,o662,o663,o664,o665,o666,o667,o668,o669,o670,o671,o672,o673,o674,o675,o676,o677,o678,o679,o680,o681,o682,o683,o684,o685,o686,o687,o688,o689,o690,o691,o692,o693,o694,o695,o696,o697,o698,o699,o700,o701,o702,o703,o704,o705,o706,o707,o708,o709,o710,o711,o712,o713,o714,o715,o716,o717,o718,o719,o720 P,o721,o722,o723,o724,o725,o726,o727,o728,o729,o730,o731,o732,o733,o734,o735,o736,o737,o738,o739,o740,o741,o742,o743,o744,o745,o746,o747,o748,o749,o750,o751,o752,o753,o754,o755,o756,o757,o758,o759,o760,o761,o762,o763,o764,o765,o766,o767,o768,o769,o770,o771,o772,o773,o774,o775,o776,o777,o778,o779,o780,o781,o782,o783,o784,o785,o786,o787,o788,o789,o790,o791,o792,o793,o794,o795,o796,o797,o798,o799,o800,o801,o802,o803,o804,o805,o806,o807,o808,o809,o810,o811,o812,o813,o814,o815,o816,o817,o818,o819,o820,o821,o822]⟩,PySem.Life.mk [] [] [] 0 [] [] false #[] [] 0 false false false 0 [2000,10,10] false 0 true [] [] 0 false⟩
def Sf(w:World)(os:OsState):Shared:=⟨Hf w.params,⟨[]⟩,PySem.Drawn.mk 0 0 0 0,1219,os⟩
theorem pre_(w:World)(os:OsState):topGo treeTable Fast.tw2090489148824371714 w 11 ((some (r 6))) 12 ⟨boot_heap w.params,⟨[]⟩,boot_drawn,boot_toks,os⟩ (topStub Fast.tw2090489148824371714)=some (Sa w os,⟨denote treeTable cT,cT,⟨0,0,0,0⟩,[topFrame qP]⟩):=by(try rw[Fast.te15667345088766844465]);(try rw[Fast.te14082659384304107361]);(try rw[Fast.te14374325043358763698]);(try rw[Fast.te10110043849684766642]);(try rw[Fast.te14364793385576792824]);(try rw[Fast.te11892475500146522536]);(try rw[Fast.te4187177175401517315]);(try rw[Fast.te5923862056798008813]);(try rw[Fast.te8920871248978507458]);kernel_rfl
theorem block_(w:World)(os:OsState):segRun treeTable Fast.tw2090489148824371714 w 11 ((some (r 6))) 1 1 (Sa w os) (blockOf (behindTheImports Fast.tw2090489148824371714) envT cT ⟨0,0,0,0⟩ [topFrame qP])=some (.next,(Sb w os).abs,cT,⟨0,0,0,0⟩):=by(try rw[Fast.te15667345088766844465]);(try rw[Fast.te14082659384304107361]);(try rw[Fast.te14374325043358763698]);(try rw[Fast.te10110043849684766642]);(try rw[Fast.te14364793385576792824]);(try rw[Fast.te11892475500146522536]);(try rw[Fast.te4187177175401517315]);(try rw[Fast.te5923862056798008813]);(try rw[Fast.te8920871248978507458]);kernel_rfl
def sts0:List Stmt:=[topT 0,topT 1,topT 2,topT 3,topT 4,topT 5,topT 6,topT 7,topT 8,topT 9,topT 10,topT 11,topT 12,topT 13,topT 14,topT 15,topT 16,topT 17,topT 18,topT 19,topT 20,topT 21,topT 22,topT 23,topT 24,topT 25,topT 26,topT 27,topT 28,topT 29,topT 30,topT 31,topT 32,topT 33,topT 34,topT 35,topT 36,topT 37,topT 38,topT 39,topT 40,topT 41,topT 42,topT 43,topT 44,topT 45,topT 46,topT 47,topT 48,topT 49,topT 50,topT 51,topT 52,topT 53,topT 54]
theorem pc0(w:World)(os:OsState):segRunT treeTable Fast.tw2090489148824371714 w 11 ((some (r 6))) 1 2828 (Sb w os) (piecesOf sts0 envT cT ⟨0,0,0,0⟩ [topFrame qP])=some (.next,S0 w os,cT,⟨182,0,184,43⟩):=by(try rw[Fast.te15667345088766844465]);(try rw[Fast.te14082659384304107361]);(try rw[Fast.te14374325043358763698]);(try rw[Fast.te10110043849684766642]);(try rw[Fast.te14364793385576792824]);(try rw[Fast.te11892475500146522536]);(try rw[Fast.te4187177175401517315]);(try rw[Fast.te5923862056798008813]);(try rw[Fast.te8920871248978507458]);kernel_rfl
def sts1:List Stmt:=[topT 55,topT 56,topT 57,topT 58,topT 59,topT 60,topT 61,topT 62,topT 63,topT 64,topT 65]
theorem pc1(w:World)(os:OsState):segRunT treeTable Fast.tw2090489148824371714 w 11 ((some (r 6))) 1 2993 (S0 w os) (piecesOf sts1 envT cT ⟨182,0,184,43⟩ [topFrame qP])=some (.next,S1 w os,cT,⟨371,0,372,98⟩):=by(try rw[Fast.te15667345088766844465]);(try rw[Fast.te14082659384304107361]);(try rw[Fast.te14374325043358763698]);(try rw[Fast.te10110043849684766642]);(try rw[Fast.te14364793385576792824]);(try rw[Fast.te11892475500146522536]);(try rw[Fast.te4187177175401517315]);(try rw[Fast.te5923862056798008813]);(try rw[Fast.te8920871248978507458]);kernel_rfl
def sts2:List Stmt:=[topT 66,topT 67,topT 68,topT 69,topT 70,topT 71,topT 72,topT 73,topT 74,topT 75,topT 76,topT 77]
theorem pc2(w:World)(os:OsState):segRunT treeTable Fast.tw2090489148824371714 w 11 ((some (r 6))) 1 376 (S1 w os) (piecesOf sts2 envT cT ⟨371,0,372,98⟩ [topFrame qP])=some (.next,S2 w os,cT,⟨465,0,472,180⟩):=by(try rw[Fast.te15667345088766844465]);(try rw[Fast.te14082659384304107361]);(try rw[Fast.te14374325043358763698]);(try rw[Fast.te10110043849684766642]);(try rw[Fast.te14364793385576792824]);(try rw[Fast.te11892475500146522536]);(try rw[Fast.te4187177175401517315]);(try rw[Fast.te5923862056798008813]);(try rw[Fast.te8920871248978507458]);kernel_rfl
theorem fin_(w:World)(os:OsState):topRun treeTable Fast.tw2090489148824371714 w 11 ((some (r 6))) 2 (S2 w os).abs ⟨doneF .next,cT,⟨465,0,472,180⟩,[topFrame qP]⟩=some (Sf w os):=by(try rw[Fast.te15667345088766844465]);(try rw[Fast.te14082659384304107361]);(try rw[Fast.te14374325043358763698]);(try rw[Fast.te10110043849684766642]);(try rw[Fast.te14364793385576792824]);(try rw[Fast.te11892475500146522536]);(try rw[Fast.te4187177175401517315]);(try rw[Fast.te5923862056798008813]);(try rw[Fast.te8920871248978507458]);kernel_rfl
theorem body_eq:behindTheImports Fast.tw2090489148824371714=(sts0++(sts1++(sts2++[]))):=by kernel_rfl
theorem run_(w:World)(os:OsState):topRun treeTable Fast.tw2090489148824371714 w 11 ((some (r 6))) (12+(1+(2828+(2993+(376+2))))) ⟨boot_heap w.params,⟨[]⟩,boot_drawn,boot_toks,os⟩ (topStub Fast.tw2090489148824371714)=some (Sf w os):=by
  have h:=(piece_app (segRun_of (pc0 w os)) (piece_app (segRun_of (pc1 w os)) (piece_app (segRun_of (pc2 w os)) (piece_nil (fin_ w os)))))
  rw[← body_eq]at h
  exact go_top (pre_ w os) (piece_block (block_ w os) h)
def K(P:Params):Frag:=(nat_lit 2,boot_o_2 P)::(nat_lit 3,o3_2 P)::(nat_lit 15,o15)::(nat_lit 17,o17)::(nat_lit 18,o18)::(nat_lit 20,o20)::(nat_lit 21,o21)::(nat_lit 22,o22)::(nat_lit 29,o29)::(nat_lit 30,o30 P)::(nat_lit 31,o31)::(nat_lit 32,o32)::(nat_lit 35,o35)::(nat_lit 42,o42)::(nat_lit 43,o43 P)::(nat_lit 44,o44)::(nat_lit 47,o47)::(nat_lit 54,o54)::(nat_lit 55,o55 P)::(nat_lit 56,o56)::(nat_lit 59,o59)::(nat_lit 66,o66)::(nat_lit 67,o67 P)::(nat_lit 68,o68)::(nat_lit 71,o71)::(nat_lit 78,o78)::(nat_lit 79,o79 P)::(nat_lit 80,o80)::(nat_lit 83,o83)::(nat_lit 90,o90)::(nat_lit 91,o91 P)::(nat_lit 92,o92)::(nat_lit 95,o95)::(nat_lit 102,o102)::(nat_lit 103,o103 P)::(nat_lit 104,o104)::(nat_lit 107,o107)::(nat_lit 114,o114)::(nat_lit 115,o115 P)::(nat_lit 116,o116)::(nat_lit 119,o119)::(nat_lit 122,o122)::(nat_lit 123,o123)::(nat_lit 124,o124)::(nat_lit 127,o127)::(nat_lit 128,o128)::(nat_lit 129,o129)::(nat_lit 132,o132)::(nat_lit 133,o133)::(nat_lit 134,o134)::(nat_lit 137,o137)::(nat_lit 138,o138)::(nat_lit 139,o139)::(nat_lit 142,o142)::(nat_lit 143,o143)::(nat_lit 144,o144)::(nat_lit 146,o146)::(nat_lit 147,o147)::(nat_lit 149,o149)::(nat_lit 150,o150)::(nat_lit 151,o151)::(nat_lit 154,o154)::(nat_lit 155,o155)::(nat_lit 156,o156)::(nat_lit 159,o159)::(nat_lit 160,o160)::(nat_lit 161,o161)::(nat_lit 164,o164)::(nat_lit 165,o165)::(nat_lit 166,o166)::(nat_lit 168,o168)::(nat_lit 169,o169)::(nat_lit 171,o171)::(nat_lit 172,o172)::(nat_lit 173,o173)::(nat_lit 175,o175)::(nat_lit 176,o176)::(nat_lit 178,o178)::(nat_lit 179,o179)::(nat_lit 180,o180)::(nat_lit 182,o182)::(nat_lit 183,o183)::(nat_lit 185,o185)::(nat_lit 186,o186)::(nat_lit 187,o187)::(nat_lit 189,o189)::(nat_lit 190,o190)::(nat_lit 192,o192)::(nat_lit 193,o193)::(nat_lit 194,o194)::(nat_lit 196,o196)::(nat_lit 197,o197)::(nat_lit 199,o199)::(nat_lit 200,o200)::(nat_lit 201,o201)::(nat_lit 203,o203)::(nat_lit 204,o204)::(nat_lit 206,o206)::(nat_lit 207,o207)::(nat_lit 208,o208)::(nat_lit 210,o210)::(nat_lit 211,o211)::(nat_lit 213,o213)::(nat_lit 214,o214)::(nat_lit 215,o215)::(nat_lit 218,o218)::(nat_lit 219,o219)::(nat_lit 220,o220)::(nat_lit 223,o223)::(nat_lit 224,o224)::(nat_lit 225,o225)::(nat_lit 227,o227)::(nat_lit 228,o228)::(nat_lit 230,o230)::(nat_lit 231,o231)::(nat_lit 232,o232)::(nat_lit 235,o235)::(nat_lit 236,o236)::(nat_lit 237,o237)::(nat_lit 239,o239)::(nat_lit 240,o240)::(nat_lit 242,o242)::(nat_lit 243,o243)::(nat_lit 244,o244)::(nat_lit 246,o246)::(nat_lit 247,o247)::(nat_lit 249,o249)::(nat_lit 250,o250)::(nat_lit 251,o251)::(nat_lit 254,o254)::(nat_lit 255,o255)::(nat_lit 256,o256)::(nat_lit 259,o259)::(nat_lit 260,o260)::(nat_lit 261,o261)::(nat_lit 264,o264)::(nat_lit 265,o265)::(nat_lit 266,o266)::(nat_lit 268,o268)::(nat_lit 269,o269)::(nat_lit 271,o271)::(nat_lit 272,o272)::(nat_lit 273,o273)::(nat_lit 276,o276)::(nat_lit 277,o277)::(nat_lit 278,o278)::(nat_lit 280,o280)::(nat_lit 281,o281)::(nat_lit 283,o283)::(nat_lit 284,o284)::(nat_lit 285,o285)::(nat_lit 288,o288)::(nat_lit 289,o289)::(nat_lit 290,o290)::(nat_lit 292,o292)::(nat_lit 293,o293)::(nat_lit 295,o295)::(nat_lit 296,o296)::(nat_lit 297,o297)::(nat_lit 299,o299)::(nat_lit 300,o300)::(nat_lit 302,o302)::(nat_lit 303,o303)::(nat_lit 304,o304)::(nat_lit 306,o306)::(nat_lit 307,o307)::(nat_lit 309,o309)::(nat_lit 310,o310)::(nat_lit 311,o311)::(nat_lit 313,o313)::(nat_lit 314,o314)::(nat_lit 316,o316)::(nat_lit 317,o317)::(nat_lit 318,o318)::(nat_lit 321,o321)::(nat_lit 322,o322)::(nat_lit 323,o323)::(nat_lit 325,o325)::(nat_lit 326,o326)::(nat_lit 328,o328)::(nat_lit 329,o329)::(nat_lit 330,o330)::(nat_lit 332,o332)::(nat_lit 333,o333)::(nat_lit 335,o335)::(nat_lit 336,o336)::(nat_lit 344,o344)::(nat_lit 345,o345 P)::(nat_lit 346,o346)::(nat_lit 347,o347)::(nat_lit 348,o348)::(nat_lit 351,o351)::(nat_lit 358,o358)::(nat_lit 360,o360)::(nat_lit 361,o361)::(nat_lit 363,o363)::(nat_lit 364,o364)::(nat_lit 365,o365)::(nat_lit 367,o367)::(nat_lit 368,o368)::(nat_lit 370,o370)::(nat_lit 371,o371)::(nat_lit 372,o372)::(nat_lit 373,o373 P)::(nat_lit 374,o374)::(nat_lit 377,o377)::(nat_lit 384,o384)::(nat_lit 386,o386)::(nat_lit 387,o387)::(nat_lit 389,o389)::(nat_lit 390,o390)::(nat_lit 391,o391)::(nat_lit 393,o393)::(nat_lit 394,o394)::(nat_lit 396,o396)::(nat_lit 397,o397)::(nat_lit 398,o398)::(nat_lit 400,o400)::(nat_lit 401,o401)::(nat_lit 403,o403)::(nat_lit 404,o404)::(nat_lit 405,o405)::(nat_lit 407,o407)::(nat_lit 408,o408)::(nat_lit 410,o410)::(nat_lit 411,o411)::(nat_lit 412,o412)::(nat_lit 413,o413 P)::(nat_lit 414,o414)::(nat_lit 417,o417)::(nat_lit 424,o424)::(nat_lit 426,o426)::(nat_lit 427,o427)::(nat_lit 429,o429)::(nat_lit 430,o430)::(nat_lit 431,o431)::(nat_lit 433,o433)::(nat_lit 434,o434)::(nat_lit 436,o436)::(nat_lit 437,o437)::(nat_lit 438,o438)::(nat_lit 440,o440)::(nat_lit 441,o441)::(nat_lit 443,o443)::(nat_lit 444,o444)::(nat_lit 445,o445)::(nat_lit 447,o447)::(nat_lit 448,o448)::(nat_lit 450,o450)::(nat_lit 451,o451)::(nat_lit 452,o452)::(nat_lit 454,o454)::(nat_lit 455,o455)::(nat_lit 457,o457)::(nat_lit 458,o458)::(nat_lit 459,o459)::(nat_lit 461,o461)::(nat_lit 462,o462)::(nat_lit 464,o464)::(nat_lit 465,o465)::(nat_lit 466,o466)::(nat_lit 468,o468)::(nat_lit 469,o469)::(nat_lit 471,o471)::(nat_lit 472,o472)::(nat_lit 473,o473)::(nat_lit 475,o475)::(nat_lit 476,o476)::(nat_lit 478,o478)::(nat_lit 479,o479)::(nat_lit 480,o480)::(nat_lit 482,o482)::(nat_lit 483,o483)::(nat_lit 485,o485)::(nat_lit 486,o486)::(nat_lit 487,o487)::(nat_lit 489,o489)::(nat_lit 490,o490)::(nat_lit 492,o492)::(nat_lit 493,o493)::(nat_lit 494,o494)::(nat_lit 495,o495 P)::(nat_lit 496,o496)::(nat_lit 499,o499)::(nat_lit 506,o506)::(nat_lit 508,o508)::(nat_lit 509,o509)::(nat_lit 511,o511)::(nat_lit 512,o512)::(nat_lit 513,o513)::(nat_lit 515,o515)::(nat_lit 516,o516)::(nat_lit 518,o518)::(nat_lit 519,o519)::(nat_lit 520,o520)::(nat_lit 522,o522)::(nat_lit 523,o523)::(nat_lit 525,o525)::(nat_lit 526,o526)::(nat_lit 527,o527)::(nat_lit 529,o529)::(nat_lit 530,o530)::(nat_lit 532,o532)::(nat_lit 533,o533)::(nat_lit 534,o534)::(nat_lit 536,o536)::(nat_lit 537,o537)::(nat_lit 539,o539)::(nat_lit 540,o540)::(nat_lit 541,o541)::(nat_lit 543,o543)::(nat_lit 544,o544)::(nat_lit 546,o546)::(nat_lit 547,o547)::(nat_lit 548,o548)::(nat_lit 550,o550)::(nat_lit 551,o551)::(nat_lit 553,o553)::(nat_lit 554,o554)::(nat_lit 555,o555)::(nat_lit 557,o557)::(nat_lit 558,o558)::(nat_lit 560,o560)::(nat_lit 561,o561)::(nat_lit 562,o562)::(nat_lit 564,o564)::(nat_lit 565,o565)::(nat_lit 567,o567)::(nat_lit 568,o568)::(nat_lit 569,o569)::(nat_lit 571,o571)::(nat_lit 572,o572)::(nat_lit 574,o574)::(nat_lit 575,o575)::(nat_lit 576,o576)::(nat_lit 578,o578)::(nat_lit 579,o579)::(nat_lit 581,o581)::(nat_lit 582,o582)::(nat_lit 583,o583)::(nat_lit 584,o584 P)::(nat_lit 585,o585)::(nat_lit 588,o588)::(nat_lit 595,o595)::(nat_lit 597,o597)::(nat_lit 598,o598)::(nat_lit 600,o600)::(nat_lit 601,o601)::(nat_lit 602,o602)::(nat_lit 604,o604)::(nat_lit 605,o605)::(nat_lit 607,o607)::(nat_lit 608,o608)::(nat_lit 609,o609)::(nat_lit 611,o611)::(nat_lit 612,o612)::(nat_lit 614,o614)::(nat_lit 615,o615)::(nat_lit 616,o616)::(nat_lit 618,o618)::(nat_lit 619,o619)::(nat_lit 621,o621)::(nat_lit 622,o622)::(nat_lit 623,o623)::(nat_lit 625,o625)::(nat_lit 626,o626)::(nat_lit 628,o628)::(nat_lit 629,o629)::(nat_lit 630,o630)::(nat_lit 632,o632)::(nat_lit 633,o633)::(nat_lit 635,o635)::(nat_lit 636,o636)::(nat_lit 637,o637)::(nat_lit 639,o639)::(nat_lit 640,o640)::(nat_lit 642,o642)::(nat_lit 643,o643)::(nat_lit 644,o644)::(nat_lit 646,o646)::(nat_lit 647,o647)::(nat_lit 649,o649)::(nat_lit 650,o650)::(nat_lit 651,o651)::(nat_lit 652,o652 P)::(nat_lit 653,o653)::(nat_lit 656,o656)::(nat_lit 663,o663)::(nat_lit 665,o665)::(nat_lit 666,o666)::(nat_lit 668,o668)::(nat_lit 669,o669)::(nat_lit 670,o670)::(nat_lit 672,o672)::(nat_lit 673,o673)::(nat_lit 675,o675)::(nat_lit 676,o676)::(nat_lit 677,o677)::(nat_lit 679,o679)::(nat_lit 680,o680)::(nat_lit 682,o682)::(nat_lit 683,o683)::(nat_lit 684,o684)::(nat_lit 686,o686)::(nat_lit 687,o687)::(nat_lit 689,o689)::(nat_lit 690,o690)::(nat_lit 691,o691)::(nat_lit 693,o693)::(nat_lit 694,o694)::(nat_lit 696,o696)::(nat_lit 697,o697)::(nat_lit 698,o698)::(nat_lit 700,o700)::(nat_lit 701,o701)::(nat_lit 703,o703)::(nat_lit 704,o704)::(nat_lit 705,o705)::(nat_lit 707,o707)::(nat_lit 708,o708)::(nat_lit 710,o710)::(nat_lit 711,o711)::(nat_lit 712,o712)::(nat_lit 714,o714)::(nat_lit 715,o715)::(nat_lit 717,o717)::(nat_lit 718,o718)::(nat_lit 719,o719)::(nat_lit 720,o720 P)::(nat_lit 721,o721)::(nat_lit 724,o724)::(nat_lit 726,o726)::(nat_lit 727,o727)::(nat_lit 729,o729)::(nat_lit 730,o730)::(nat_lit 731,o731)::(nat_lit 733,o733)::(nat_lit 734,o734)::(nat_lit 736,o736)::(nat_lit 737,o737)::(nat_lit 738,o738)::(nat_lit 740,o740)::(nat_lit 741,o741)::(nat_lit 743,o743)::(nat_lit 744,o744)::(nat_lit 745,o745)::(nat_lit 747,o747)::(nat_lit 748,o748)::(nat_lit 750,o750)::(nat_lit 751,o751)::(nat_lit 752,o752)::(nat_lit 754,o754)::(nat_lit 755,o755)::(nat_lit 757,o757)::(nat_lit 758,o758)::(nat_lit 759,o759)::(nat_lit 761,o761)::(nat_lit 762,o762)::(nat_lit 764,o764)::(nat_lit 765,o765)::(nat_lit 766,o766)::(nat_lit 768,o768)::(nat_lit 769,o769)::(nat_lit 771,o771)::(nat_lit 772,o772)::(nat_lit 773,o773)::(nat_lit 776,o776)::(nat_lit 777,o777)::(nat_lit 778,o778)::(nat_lit 781,o781)::(nat_lit 782,o782)::(nat_lit 783,o783)::(nat_lit 785,o785)::(nat_lit 786,o786)::(nat_lit 788,o788)::(nat_lit 789,o789)::(nat_lit 790,o790)::(nat_lit 792,o792)::(nat_lit 793,o793)::(nat_lit 795,o795)::(nat_lit 796,o796)::(nat_lit 797,o797)::(nat_lit 799,o799)::(nat_lit 800,o800)::(nat_lit 802,o802)::(nat_lit 803,o803)::(nat_lit 804,o804)::(nat_lit 806,o806)::(nat_lit 807,o807)::(nat_lit 809,o809)::(nat_lit 810,o810)::(nat_lit 811,o811)::(nat_lit 814,o814)::(nat_lit 815,o815)::(nat_lit 816,o816)::(nat_lit 818,o818)::(nat_lit 819,o819)::(nat_lit 821,o821)::(nat_lit 822,o822)::[]
def KA:List Addr:=[2,3,15,17,18,20,21,22,29,30,31,32,35,42,43,44,47,54,55,56,59,66,67,68,71,78,79,80,83,90,91,92,95,102,103,104,107,114,115,116,119,122,123,124,127,128,129,132,133,134,137,138,139,142,143,144,146,147,149,150,151,154,155,156,159,160,161,164,165,166,168,169,171,172,173,175,176,178,179,180,182,183,185,186,187,189,190,192,193,194,196,197,199,200,201,203,204,206,207,208,210,211,213,214,215,218,219,220,223,224,225,227,228,230,231,232,235,236,237,239,240,242,243,244,246,247,249,250,251,254,255,256,259,260,261,264,265,266,268,269,271,272,273,276,277,278,280,281,283,284,285,288,289,290,292,293,295,296,297,299,300,302,303,304,306,307,309,310,311,313,314,316,317,318,321,322,323,325,326,328,329,330,332,333,335,336,344,345,346,347,348,351,358,360,361,363,364,365,367,368,370,371,372,373,374,377,384,386,387,389,390,391,393,394,396,397,398,400,401,403,404,405,407,408,410,411,412,413,414,417,424,426,427,429,430,431,433,434,436,437,438,440,441,443,444,445,447,448,450,451,452,454,455,457,458,459,461,462,464,465,466,468,469,471,472,473,475,476,478,479,480,482,483,485,486,487,489,490,492,493,494,495,496,499,506,508,509,511,512,513,515,516,518,519,520,522,523,525,526,527,529,530,532,533,534,536,537,539,540,541,543,544,546,547,548,550,551,553,554,555,557,558,560,561,562,564,565,567,568,569,571,572,574,575,576,578,579,581,582,583,584,585,588,595,597,598,600,601,602,604,605,607,608,609,611,612,614,615,616,618,619,621,622,623,625,626,628,629,630,632,633,635,636,637,639,640,642,643,644,646,647,649,650,651,652,653,656,663,665,666,668,669,670,672,673,675,676,677,679,680,682,683,684,686,687,689,690,691,693,694,696,697,698,700,701,703,704,705,707,708,710,711,712,714,715,717,718,719,720,721,724,726,727,729,730,731,733,734,736,737,738,740,741,743,744,745,747,748,750,751,752,754,755,757,758,759,761,762,764,765,766,768,769,771,772,773,776,777,778,781,782,783,785,786,788,789,790,792,793,795,796,797,799,800,802,803,804,806,807,809,810,811,814,815,816,818,819,821,822]
theorem KA_eq(P:Params):KA=(K P).map (·.1):=by kernel_rfl
def topO(i:Nat):Stmt:=PySem.Challenge.pw_weighwalk_k27_building_refused.main.body.getD i (.Pass ⟨0,0,0,0⟩)
theorem top_eq:topT=topO:=by unfold topT topO;rw[Fast.te2090489148824371714]
def qT:Program:={ Fast.tw2090489148824371714 with main:={ Fast.tw2090489148824371714.main with body:=[topT 0,topT 2,topT 3,topT 4,topT 5,topT 6,topT 7,topT 8,topT 9,topT 11,topT 12,topT 13,topT 14,topT 15,topT 16,topT 17,topT 18,topT 20,topT 21,topT 22,topT 23,topT 24,topT 25,topT 26,topT 28,topT 29,topT 30,topT 31,topT 32,topT 33,topT 34,topT 35,topT 36,topT 37,topT 38,topT 39,topT 40,topT 41,topT 42,topT 44,topT 45,topT 46,topT 47,topT 49,topT 50,topT 51,topT 52,topT 53,topT 54,topT 55,topT 56,topT 57,topT 58,topT 59,topT 60,topT 61,topT 63,topT 64,topT 65,topT 66,topT 67,topT 68,topT 69,topT 70,topT 71,topT 72,topT 73,topT 74,topT 75,topT 76,topT 77] } }
def qO:Program:={ PySem.Challenge.pw_weighwalk_k27_building_refused with main:={ PySem.Challenge.pw_weighwalk_k27_building_refused.main with body:=[topO 0,topO 2,topO 3,topO 4,topO 5,topO 6,topO 7,topO 8,topO 9,topO 11,topO 12,topO 13,topO 14,topO 15,topO 16,topO 17,topO 18,topO 20,topO 21,topO 22,topO 23,topO 24,topO 25,topO 26,topO 28,topO 29,topO 30,topO 31,topO 32,topO 33,topO 34,topO 35,topO 36,topO 37,topO 38,topO 39,topO 40,topO 41,topO 42,topO 44,topO 45,topO 46,topO 47,topO 49,topO 50,topO 51,topO 52,topO 53,topO 54,topO 55,topO 56,topO 57,topO 58,topO 59,topO 60,topO 61,topO 63,topO 64,topO 65,topO 66,topO 67,topO 68,topO 69,topO 70,topO 71,topO 72,topO 73,topO 74,topO 75,topO 76,topO 77] } }
theorem q_eq:qO=qT:=by unfold qO qT;rw[top_eq,Fast.te2090489148824371714]
def recs:=RowW.records (OpenRow.toRowW (OpenLaw.row PySem.Challenge.rw_weighwalk_k27_building_refused))
abbrev Xt(q:Program)(s:Shared):Bool:=xlAt q [] s && recOk recs s
abbrev hook:Hook:=kHook K KA KA_eq
theorem size_(w:World):((boot_heap w.params).isNs mainGlobals && (⟨[]⟩:Array GenState).size == 0,(boot_heap w.params).objs.size,(boot_heap w.params).nsMap mainGlobals "__annotations__")=(true,11,(some (r 6))):=by(try rw[Fast.te15667345088766844465]);(try rw[Fast.te14082659384304107361]);(try rw[Fast.te14374325043358763698]);(try rw[Fast.te10110043849684766642]);(try rw[Fast.te14364793385576792824]);(try rw[Fast.te11892475500146522536]);(try rw[Fast.te4187177175401517315]);(try rw[Fast.te5923862056798008813]);(try rw[Fast.te8920871248978507458]);kernel_rfl
theorem open_:∀w:World,(fencedOpening treeTable Fast.tw2090489148824371714 w 12514).map (fun s=>(s.heap,s.gens,s.drawn,s.toks))=some (boot_heap w.params,⟨[]⟩,boot_drawn,boot_toks):=boot_open (by kernel_rfl) (by decide) (fun s=>by(try rw[Fast.te15667345088766844465]);(try rw[Fast.te14082659384304107361]);(try rw[Fast.te14374325043358763698]);(try rw[Fast.te10110043849684766642]);(try rw[Fast.te14364793385576792824]);(try rw[Fast.te11892475500146522536]);(try rw[Fast.te4187177175401517315]);(try rw[Fast.te5923862056798008813]);(try rw[Fast.te8920871248978507458]);kernel_rfl)
theorem look1(w:World)(os:OsState):(staticsOk (importedModules Fast.tw2090489148824371714.main.body) (boot_heap w.params) (Hf w.params) && namesBound Fast.tw2090489148824371714 (Hf w.params) && gensDone (Sf w os) && laidKept (boot_heap w.params) (Hf w.params))=true:=by(try rw[Fast.te15667345088766844465]);(try rw[Fast.te14082659384304107361]);(try rw[Fast.te14374325043358763698]);(try rw[Fast.te10110043849684766642]);(try rw[Fast.te14364793385576792824]);(try rw[Fast.te11892475500146522536]);(try rw[Fast.te4187177175401517315]);(try rw[Fast.te5923862056798008813]);(try rw[Fast.te8920871248978507458]);kernel_rfl
theorem look2(w:World)(os:OsState):openSeen qT [] (importedModules Fast.tw2090489148824371714.main.body) (Xt qT) true (Sf w os)=openGood qT []:=by(try rw[Fast.te15667345088766844465]);(try rw[Fast.te14082659384304107361]);(try rw[Fast.te14374325043358763698]);(try rw[Fast.te10110043849684766642]);(try rw[Fast.te14364793385576792824]);(try rw[Fast.te11892475500146522536]);(try rw[Fast.te4187177175401517315]);(try rw[Fast.te5923862056798008813]);(try rw[Fast.te8920871248978507458]);kernel_rfl
theorem look3(w:World)(os:OsState):hook.obs (Sf w os)=hook.val w:=by kernel_rfl
theorem leftT:LeftO Fast.tw2090489148824371714 qT [] (Xt qT) hook.obs hook.val 12514:=LeftO.of_pieces (H₁:=Hf) open_ size_ run_ (by decide) (fun w=>funext fun os=>looks_pair (look1 w os) (looks_pair (look2 w os) (look3 w os)))
theorem left:LeftO PySem.Challenge.pw_weighwalk_k27_building_refused qO [] (Xt qO) hook.obs hook.val 12514:=by have h:=leftT;rw[← q_eq,← Fast.te2090489148824371714]at h;exact h
def dO:DefRec:=⟨PySem.Str.ofString "law",L2.defArgs (topO 77),L2.defBody (topO 77),L2.defScope (topO 77),⟨465,0,472,180⟩⟩
theorem holds_(said:(OpenLaw.row PySem.Challenge.rw_weighwalk_k27_building_refused).wellSaid=true)(hw:(OpenLaw.row PySem.Challenge.rw_weighwalk_k27_building_refused).toRowW.promised)(hc:WalkO qO [] (XL qO []) (Hook.says hook) (OpenLaw.row PySem.Challenge.rw_weighwalk_k27_building_refused).toRowW dO [] (fun f vs=>PySem.call f vs)):(OpenLaw.row PySem.Challenge.rw_weighwalk_k27_building_refused).Holds:=
  holds_open (r:=(OpenLaw.row PySem.Challenge.rw_weighwalk_k27_building_refused)) (q:=qO) (loose:=[]) (Xt:=Xt qO) (XP:=XL qO []) (Yf:=hook.obs) (Ya:=hook.val) (YP:=hook.says) (d:=dO) (kwd:=[]) (N:=12514) left hook.of hook.keeps (fun s e=>xl_of s (Bool.and_eq_true_iff.mp e).1) XL.keeps (by kernel_rfl) (by kernel_rfl) (by kernel_rfl) (fun s e=>recFacts_of (Bool.and_eq_true_iff.mp e).2) (by kernel_rfl) said (by decide +kernel) ⟨rfl,rfl,rfl,rfl,rfl,by decide +kernel⟩ hw hc
abbrev fO(n q:String)(s:Stmt)(m c:Value):Obj:=⟨.type SL.s7174869446012820540x8,none,.func (fnOf (PySem.Str.ofString n) (PySem.Str.ofString q) (L2.defArgs s) (L2.defBody s) (L2.defScope s) .none .none .none m none c .none),#[]⟩
theorem lk_noughts(P:Params):(K P).lookup 123=some (fO "noughts" "noughts" (topO 11) (.str s70 326) (r 122)):=by rw[← top_eq];kernel_rfl
theorem lk_unit(P:Params):(K P).lookup 128=some (fO "unit" "unit" (topO 12) (.str s70 326) (r 127)):=by rw[← top_eq];kernel_rfl
theorem lk_times_row(P:Params):(K P).lookup 133=some (fO "times_row" "times_row" (topO 13) (.str s70 326) (r 132)):=by rw[← top_eq];kernel_rfl
theorem lk_column_at(P:Params):(K P).lookup 138=some (fO "column_at" "column_at" (topO 14) (.str s70 326) (r 137)):=by rw[← top_eq];kernel_rfl
theorem lk_columns_of(P:Params):(K P).lookup 143=some (fO "columns_of" "columns_of" (topO 15) (.str s70 326) (r 142)):=by rw[← top_eq];kernel_rfl
theorem lk_dot(P:Params):(K P).lookup 150=some (fO "dot" "dot" (topO 16) (.str s70 326) (r 149)):=by rw[← top_eq];kernel_rfl
theorem lk_row_by(P:Params):(K P).lookup 155=some (fO "row_by" "row_by" (topO 17) (.str s70 326) (r 154)):=by rw[← top_eq];kernel_rfl
theorem lk_by_column(P:Params):(K P).lookup 160=some (fO "by_column" "by_column" (topO 18) (.str s70 326) (r 159)):=by rw[← top_eq];kernel_rfl
theorem lk_is_word(P:Params):(K P).lookup 165=some (fO "is_word" "is_word" (topO 21) (.str s77 382) (r 164)):=by rw[← top_eq];kernel_rfl
theorem lk_need_word(P:Params):(K P).lookup 172=some (fO "need_word" "need_word" (topO 22) (.str s77 382) (r 171)):=by rw[← top_eq];kernel_rfl
theorem lk_rooms(P:Params):(K P).lookup 179=some (fO "rooms" "rooms" (topO 23) (.str s77 382) (r 178)):=by rw[← top_eq];kernel_rfl
theorem lk_table_of(P:Params):(K P).lookup 186=some (fO "table_of" "table_of" (topO 24) (.str s77 382) (r 185)):=by rw[← top_eq];kernel_rfl
theorem lk_ahead(P:Params):(K P).lookup 193=some (fO "ahead" "ahead" (topO 25) (.str s77 382) (r 192)):=by rw[← top_eq];kernel_rfl
theorem lk_weight(P:Params):(K P).lookup 200=some (fO "weight" "weight" (topO 26) (.str s77 382) (r 199)):=by rw[← top_eq];kernel_rfl
theorem lk_need_same_letters(P:Params):(K P).lookup 207=some (fO "need_same_letters" "need_same_letters" (topO 28) (.str s85 435) (r 206)):=by rw[← top_eq];kernel_rfl
theorem lk_need_few_rooms(P:Params):(K P).lookup 214=some (fO "need_few_rooms" "need_few_rooms" (topO 29) (.str s85 435) (r 213)):=by rw[← top_eq];kernel_rfl
theorem lk_beside(P:Params):(K P).lookup 219=some (fO "beside" "beside" (topO 30) (.str s85 435) (r 218)):=by rw[← top_eq];kernel_rfl
theorem lk_put_beside(P:Params):(K P).lookup 224=some (fO "put_beside" "put_beside" (topO 31) (.str s85 435) (r 223)):=by rw[← top_eq];kernel_rfl
theorem lk_added(P:Params):(K P).lookup 231=some (fO "added" "added" (topO 32) (.str s85 435) (r 230)):=by rw[← top_eq];kernel_rfl
theorem lk_outer(P:Params):(K P).lookup 236=some (fO "outer" "outer" (topO 33) (.str s85 435) (r 235)):=by rw[← top_eq];kernel_rfl
theorem lk_joined(P:Params):(K P).lookup 243=some (fO "joined" "joined" (topO 34) (.str s85 435) (r 242)):=by rw[← top_eq];kernel_rfl
theorem lk_cross_row(P:Params):(K P).lookup 250=some (fO "cross_row" "cross_row" (topO 35) (.str s85 435) (r 249)):=by rw[← top_eq];kernel_rfl
theorem lk_cross_table(P:Params):(K P).lookup 255=some (fO "cross_table" "cross_table" (topO 36) (.str s85 435) (r 254)):=by rw[← top_eq];kernel_rfl
theorem lk_crossed(P:Params):(K P).lookup 260=some (fO "crossed" "crossed" (topO 37) (.str s85 435) (r 259)):=by rw[← top_eq];kernel_rfl
theorem lk_closed_table(P:Params):(K P).lookup 265=some (fO "closed_table" "closed_table" (topO 38) (.str s85 435) (r 264)):=by rw[← top_eq];kernel_rfl
theorem lk_need_closable(P:Params):(K P).lookup 272=some (fO "need_closable" "need_closable" (topO 39) (.str s85 435) (r 271)):=by rw[← top_eq];kernel_rfl
theorem lk_closed(P:Params):(K P).lookup 277=some (fO "closed" "closed" (topO 40) (.str s85 435) (r 276)):=by rw[← top_eq];kernel_rfl
theorem lk_single_row(P:Params):(K P).lookup 284=some (fO "single_row" "single_row" (topO 41) (.str s85 435) (r 283)):=by rw[← top_eq];kernel_rfl
theorem lk_single(P:Params):(K P).lookup 289=some (fO "single" "single" (topO 42) (.str s85 435) (r 288)):=by rw[← top_eq];kernel_rfl
theorem lk_is_whole(P:Params):(K P).lookup 296=some (fO "is_whole" "is_whole" (topO 44) (.str s95 552) (r 295)):=by rw[← top_eq];kernel_rfl
theorem lk_divisor(P:Params):(K P).lookup 303=some (fO "divisor" "divisor" (topO 45) (.str s95 552) (r 302)):=by rw[← top_eq];kernel_rfl
theorem lk_fraction(P:Params):(K P).lookup 310=some (fO "fraction" "fraction" (topO 46) (.str s95 552) (r 309)):=by rw[← top_eq];kernel_rfl
theorem lk_is_prime(P:Params):(K P).lookup 317=some (fO "is_prime" "is_prime" (topO 47) (.str s95 552) (r 316)):=by rw[← top_eq];kernel_rfl
theorem lk_Fractions_nought(P:Params):(K P).lookup 437=some (fO "nought" "Fractions.nought" (L2.inClass (topO 58) 1) (.str s4 589) (r 436)):=by rw[← top_eq];kernel_rfl
theorem lk_Fractions_one(P:Params):(K P).lookup 444=some (fO "one" "Fractions.one" (L2.inClass (topO 58) 2) (.str s4 589) (r 443)):=by rw[← top_eq];kernel_rfl
theorem lk_Fractions_plus(P:Params):(K P).lookup 451=some (fO "plus" "Fractions.plus" (L2.inClass (topO 58) 3) (.str s4 589) (r 450)):=by rw[← top_eq];kernel_rfl
theorem lk_Fractions_times(P:Params):(K P).lookup 458=some (fO "times" "Fractions.times" (L2.inClass (topO 58) 4) (.str s4 589) (r 457)):=by rw[← top_eq];kernel_rfl
theorem lk_Residues___init__(P:Params):(K P).lookup 512=some (fO "__init__" "Residues.__init__" (L2.inClass (topO 59) 0) (.str s4 589) (r 511)):=by rw[← top_eq];kernel_rfl
theorem lk_Residues_nought(P:Params):(K P).lookup 526=some (fO "nought" "Residues.nought" (L2.inClass (topO 59) 2) (.str s4 589) (r 525)):=by rw[← top_eq];kernel_rfl
theorem lk_Residues_one(P:Params):(K P).lookup 533=some (fO "one" "Residues.one" (L2.inClass (topO 59) 3) (.str s4 589) (r 532)):=by rw[← top_eq];kernel_rfl
theorem lk_Residues_plus(P:Params):(K P).lookup 540=some (fO "plus" "Residues.plus" (L2.inClass (topO 59) 4) (.str s4 589) (r 539)):=by rw[← top_eq];kernel_rfl
theorem lk_Residues_times(P:Params):(K P).lookup 547=some (fO "times" "Residues.times" (L2.inClass (topO 59) 5) (.str s4 589) (r 546)):=by rw[← top_eq];kernel_rfl
theorem lk_Costs_nought(P:Params):(K P).lookup 608=some (fO "nought" "Costs.nought" (L2.inClass (topO 60) 1) (.str s4 589) (r 607)):=by rw[← top_eq];kernel_rfl
theorem lk_Costs_one(P:Params):(K P).lookup 615=some (fO "one" "Costs.one" (L2.inClass (topO 60) 2) (.str s4 589) (r 614)):=by rw[← top_eq];kernel_rfl
theorem lk_Costs_plus(P:Params):(K P).lookup 622=some (fO "plus" "Costs.plus" (L2.inClass (topO 60) 3) (.str s4 589) (r 621)):=by rw[← top_eq];kernel_rfl
theorem lk_Costs_times(P:Params):(K P).lookup 629=some (fO "times" "Costs.times" (L2.inClass (topO 60) 4) (.str s4 589) (r 628)):=by rw[← top_eq];kernel_rfl
theorem lk_Truths_nought(P:Params):(K P).lookup 676=some (fO "nought" "Truths.nought" (L2.inClass (topO 61) 1) (.str s4 589) (r 675)):=by rw[← top_eq];kernel_rfl
theorem lk_Truths_one(P:Params):(K P).lookup 683=some (fO "one" "Truths.one" (L2.inClass (topO 61) 2) (.str s4 589) (r 682)):=by rw[← top_eq];kernel_rfl
theorem lk_Truths_plus(P:Params):(K P).lookup 690=some (fO "plus" "Truths.plus" (L2.inClass (topO 61) 3) (.str s4 589) (r 689)):=by rw[← top_eq];kernel_rfl
theorem lk_Truths_times(P:Params):(K P).lookup 697=some (fO "times" "Truths.times" (L2.inClass (topO 61) 4) (.str s4 589) (r 696)):=by rw[← top_eq];kernel_rfl
theorem lk__law_next(P:Params):(K P).lookup 730=some (fO "_law_next" "_law_next" (topO 63) (.str s105 1075) (r 729)):=by rw[← top_eq];kernel_rfl
theorem lk__law_state(P:Params):(K P).lookup 737=some (fO "_law_state" "_law_state" (topO 64) (.str s105 1075) (r 736)):=by rw[← top_eq];kernel_rfl
theorem lk__law_nought(P:Params):(K P).lookup 744=some (fO "_law_nought" "_law_nought" (topO 65) (.str s105 1075) (r 743)):=by rw[← top_eq];kernel_rfl
theorem lk__law_one(P:Params):(K P).lookup 751=some (fO "_law_one" "_law_one" (topO 66) (.str s105 1075) (r 750)):=by rw[← top_eq];kernel_rfl
theorem lk__law_sort(P:Params):(K P).lookup 758=some (fO "_law_sort" "_law_sort" (topO 67) (.str s105 1075) (r 757)):=by rw[← top_eq];kernel_rfl
theorem lk__law_kind(P:Params):(K P).lookup 765=some (fO "_law_kind" "_law_kind" (topO 68) (.str s105 1075) (r 764)):=by rw[← top_eq];kernel_rfl
theorem lk__law_letters(P:Params):(K P).lookup 772=some (fO "_law_letters" "_law_letters" (topO 69) (.str s105 1075) (r 771)):=by rw[← top_eq];kernel_rfl
theorem lk__law_machine(P:Params):(K P).lookup 777=some (fO "_law_machine" "_law_machine" (topO 70) (.str s105 1075) (r 776)):=by rw[← top_eq];kernel_rfl
theorem lk__law_other(P:Params):(K P).lookup 782=some (fO "_law_other" "_law_other" (topO 71) (.str s105 1075) (r 781)):=by rw[← top_eq];kernel_rfl
theorem lk__law_made(P:Params):(K P).lookup 789=some (fO "_law_made" "_law_made" (topO 72) (.str s105 1075) (r 788)):=by rw[← top_eq];kernel_rfl
theorem lk__law_refused(P:Params):(K P).lookup 796=some (fO "_law_refused" "_law_refused" (topO 73) (.str s105 1075) (r 795)):=by rw[← top_eq];kernel_rfl
theorem lk__law_two(P:Params):(K P).lookup 803=some (fO "_law_two" "_law_two" (topO 74) (.str s105 1075) (r 802)):=by rw[← top_eq];kernel_rfl
theorem lk__law_one_more(P:Params):(K P).lookup 810=some (fO "_law_one_more" "_law_one_more" (topO 75) (.str s105 1075) (r 809)):=by rw[← top_eq];kernel_rfl
theorem lk__law_words_made(P:Params):(K P).lookup 815=some (fO "_law_words_made" "_law_words_made" (topO 76) (.str s105 1075) (r 814)):=by rw[← top_eq];kernel_rfl
theorem lk_law(P:Params):(K P).lookup 822=some (fO "law" "law" (topO 77) (.str s105 1075) (r 821)):=by rw[← top_eq];kernel_rfl
end
end H27
set_option maxHeartbeats 4000000
namespace K27
open PySem L2 Mine PyProof.Rows PySem.SeqAt
abbrev Pr:Program:=PySem.Challenge.pw_weighwalk_k27_building_refused
theorem tree0:Pr.given.tree=none:=rfl
def top(i:Nat):Stmt:=PySem.Challenge.pw_weighwalk_k27_building_refused.main.body.getD i (.Pass ⟨0,0,0,0⟩)
abbrev s_is_whole:Stmt:=top 44
abbrev s_divisor:Stmt:=top 45
abbrev s_fraction:Stmt:=top 46
abbrev s_is_prime:Stmt:=top 47
abbrev s_Fractions_nought:Stmt:=inClass (top 58) 1
abbrev s_Fractions_one:Stmt:=inClass (top 58) 2
abbrev s_Fractions_plus:Stmt:=inClass (top 58) 3
abbrev s_Fractions_times:Stmt:=inClass (top 58) 4
abbrev s_Residues___init__:Stmt:=inClass (top 59) 0
abbrev s_Residues_nought:Stmt:=inClass (top 59) 2
abbrev s_Residues_one:Stmt:=inClass (top 59) 3
abbrev s_Residues_plus:Stmt:=inClass (top 59) 4
abbrev s_Residues_times:Stmt:=inClass (top 59) 5
abbrev s_Costs_nought:Stmt:=inClass (top 60) 1
abbrev s_Costs_one:Stmt:=inClass (top 60) 2
abbrev s_Costs_plus:Stmt:=inClass (top 60) 3
abbrev s_Costs_times:Stmt:=inClass (top 60) 4
abbrev s_Truths_nought:Stmt:=inClass (top 61) 1
abbrev s_Truths_one:Stmt:=inClass (top 61) 2
abbrev s_Truths_plus:Stmt:=inClass (top 61) 3
abbrev s_Truths_times:Stmt:=inClass (top 61) 4
abbrev s_noughts:Stmt:=top 11
abbrev s_unit:Stmt:=top 12
abbrev s_times_row:Stmt:=top 13
abbrev s_column_at:Stmt:=top 14
abbrev s_columns_of:Stmt:=top 15
abbrev s_dot:Stmt:=top 16
abbrev s_row_by:Stmt:=top 17
abbrev s_by_column:Stmt:=top 18
abbrev s_is_word:Stmt:=top 21
abbrev s_need_word:Stmt:=top 22
abbrev s_rooms:Stmt:=top 23
abbrev s_table_of:Stmt:=top 24
abbrev s_ahead:Stmt:=top 25
abbrev s_weight:Stmt:=top 26
abbrev s_need_same_letters:Stmt:=top 28
abbrev s_need_few_rooms:Stmt:=top 29
abbrev s_beside:Stmt:=top 30
abbrev s_put_beside:Stmt:=top 31
abbrev s_added:Stmt:=top 32
abbrev s_outer:Stmt:=top 33
abbrev s_joined:Stmt:=top 34
abbrev s_cross_row:Stmt:=top 35
abbrev s_cross_table:Stmt:=top 36
abbrev s_crossed:Stmt:=top 37
abbrev s_closed_table:Stmt:=top 38
abbrev s_need_closable:Stmt:=top 39
abbrev s_closed:Stmt:=top 40
abbrev s_single_row:Stmt:=top 41
abbrev s_single:Stmt:=top 42
abbrev s_law_next:Stmt:=top 63
abbrev s_law_state:Stmt:=top 64
abbrev s_law_nought:Stmt:=top 65
abbrev s_law_one:Stmt:=top 66
abbrev s_law_sort:Stmt:=top 67
abbrev s_law_kind:Stmt:=top 68
abbrev s_law_letters:Stmt:=top 69
abbrev s_law_machine:Stmt:=top 70
abbrev s_law_other:Stmt:=top 71
abbrev s_law_made:Stmt:=top 72
abbrev s_law_refused:Stmt:=top 73
abbrev s_law_two:Stmt:=top 74
abbrev s_law_one_more:Stmt:=top 75
abbrev s_law_words_made:Stmt:=top 76
abbrev s_law:Stmt:=top 77
theorem sc_is_whole:FnScope ["thing"] ["thing"] (defScope s_is_whole):=⟨rfl,rfl,rfl,by decide +kernel,rfl,by decide +kernel,by decide +kernel⟩
theorem sc_divisor:FnScope ["one","other","greatest","rest","left"] ["one","other"] (defScope s_divisor):=⟨rfl,rfl,rfl,by decide +kernel,rfl,by decide +kernel,by decide +kernel⟩
theorem sc_fraction:FnScope ["top","bottom","shared"] ["top","bottom"] (defScope s_fraction):=⟨rfl,rfl,rfl,by decide +kernel,rfl,by decide +kernel,by decide +kernel⟩
theorem sc_is_prime:FnScope ["number","factor"] ["number"] (defScope s_is_prime):=⟨rfl,rfl,rfl,by decide +kernel,rfl,by decide +kernel,by decide +kernel⟩
theorem sc_Fractions_nought:FnScope ["self"] ["self"] (defScope s_Fractions_nought):=⟨rfl,rfl,rfl,by decide +kernel,rfl,by decide +kernel,by decide +kernel⟩
theorem sc_Fractions_one:FnScope ["self"] ["self"] (defScope s_Fractions_one):=⟨rfl,rfl,rfl,by decide +kernel,rfl,by decide +kernel,by decide +kernel⟩
theorem sc_Fractions_plus:FnScope ["self","x","y"] ["self","x","y"] (defScope s_Fractions_plus):=⟨rfl,rfl,rfl,by decide +kernel,rfl,by decide +kernel,by decide +kernel⟩
theorem sc_Fractions_times:FnScope ["self","x","y"] ["self","x","y"] (defScope s_Fractions_times):=⟨rfl,rfl,rfl,by decide +kernel,rfl,by decide +kernel,by decide +kernel⟩
theorem sc_Residues___init__:FnScope ["self","prime"] ["self","prime"] (defScope s_Residues___init__):=⟨rfl,rfl,rfl,by decide +kernel,rfl,by decide +kernel,by decide +kernel⟩
theorem sc_Residues_nought:FnScope ["self"] ["self"] (defScope s_Residues_nought):=⟨rfl,rfl,rfl,by decide +kernel,rfl,by decide +kernel,by decide +kernel⟩
theorem sc_Residues_one:FnScope ["self"] ["self"] (defScope s_Residues_one):=⟨rfl,rfl,rfl,by decide +kernel,rfl,by decide +kernel,by decide +kernel⟩
theorem sc_Residues_plus:FnScope ["self","x","y"] ["self","x","y"] (defScope s_Residues_plus):=⟨rfl,rfl,rfl,by decide +kernel,rfl,by decide +kernel,by decide +kernel⟩
theorem sc_Residues_times:FnScope ["self","x","y"] ["self","x","y"] (defScope s_Residues_times):=⟨rfl,rfl,rfl,by decide +kernel,rfl,by decide +kernel,by decide +kernel⟩
theorem sc_Costs_nought:FnScope ["self"] ["self"] (defScope s_Costs_nought):=⟨rfl,rfl,rfl,by decide +kernel,rfl,by decide +kernel,by decide +kernel⟩
theorem sc_Costs_one:FnScope ["self"] ["self"] (defScope s_Costs_one):=⟨rfl,rfl,rfl,by decide +kernel,rfl,by decide +kernel,by decide +kernel⟩
theorem sc_Costs_plus:FnScope ["self","x","y"] ["self","x","y"] (defScope s_Costs_plus):=⟨rfl,rfl,rfl,by decide +kernel,rfl,by decide +kernel,by decide +kernel⟩
theorem sc_Costs_times:FnScope ["self","x","y"] ["self","x","y"] (defScope s_Costs_times):=⟨rfl,rfl,rfl,by decide +kernel,rfl,by decide +kernel,by decide +kernel⟩
theorem sc_Truths_nought:FnScope ["self"] ["self"] (defScope s_Truths_nought):=⟨rfl,rfl,rfl,by decide +kernel,rfl,by decide +kernel,by decide +kernel⟩
theorem sc_Truths_one:FnScope ["self"] ["self"] (defScope s_Truths_one):=⟨rfl,rfl,rfl,by decide +kernel,rfl,by decide +kernel,by decide +kernel⟩
theorem sc_Truths_plus:FnScope ["self","x","y"] ["self","x","y"] (defScope s_Truths_plus):=⟨rfl,rfl,rfl,by decide +kernel,rfl,by decide +kernel,by decide +kernel⟩
theorem sc_Truths_times:FnScope ["self","x","y"] ["self","x","y"] (defScope s_Truths_times):=⟨rfl,rfl,rfl,by decide +kernel,rfl,by decide +kernel,by decide +kernel⟩
theorem sc_noughts:FnScope ["kind","size"] ["kind","size"] (defScope s_noughts):=⟨rfl,rfl,rfl,by decide +kernel,rfl,by decide +kernel,by decide +kernel⟩
theorem sc_unit:FnScope ["kind","size","place"] ["kind","size","place"] (defScope s_unit):=⟨rfl,rfl,rfl,by decide +kernel,rfl,by decide +kernel,by decide +kernel⟩
theorem sc_times_row:FnScope ["kind","by","row"] ["kind","by","row"] (defScope s_times_row):=⟨rfl,rfl,rfl,by decide +kernel,rfl,by decide +kernel,by decide +kernel⟩
theorem sc_column_at:FnScope ["table","place"] ["table","place"] (defScope s_column_at):=⟨rfl,rfl,rfl,by decide +kernel,rfl,by decide +kernel,by decide +kernel⟩
theorem sc_columns_of:FnScope ["table"] ["table"] (defScope s_columns_of):=⟨rfl,rfl,rfl,by decide +kernel,rfl,by decide +kernel,by decide +kernel⟩
theorem sc_dot:FnScope ["kind","row","column","total","x","y"] ["kind","row","column"] (defScope s_dot):=⟨rfl,rfl,rfl,by decide +kernel,rfl,by decide +kernel,by decide +kernel⟩
theorem sc_row_by:FnScope ["kind","row","table"] ["kind","row","table"] (defScope s_row_by):=⟨rfl,rfl,rfl,by decide +kernel,rfl,by decide +kernel,by decide +kernel⟩
theorem sc_by_column:FnScope ["kind","table","column"] ["kind","table","column"] (defScope s_by_column):=⟨rfl,rfl,rfl,by decide +kernel,rfl,by decide +kernel,by decide +kernel⟩
theorem sc_is_word:FnScope ["letters","thing"] ["letters","thing"] (defScope s_is_word):=⟨rfl,rfl,rfl,by decide +kernel,rfl,by decide +kernel,by decide +kernel⟩
theorem sc_need_word:FnScope ["letters","thing"] ["letters","thing"] (defScope s_need_word):=⟨rfl,rfl,rfl,by decide +kernel,rfl,by decide +kernel,by decide +kernel⟩
theorem sc_rooms:FnScope ["machine"] ["machine"] (defScope s_rooms):=⟨rfl,rfl,rfl,by decide +kernel,rfl,by decide +kernel,by decide +kernel⟩
theorem sc_table_of:FnScope ["machine","letter"] ["machine","letter"] (defScope s_table_of):=⟨rfl,rfl,rfl,by decide +kernel,rfl,by decide +kernel,by decide +kernel⟩
theorem sc_ahead:FnScope ["kind","machine","word","row","letter"] ["kind","machine","word"] (defScope s_ahead):=⟨rfl,rfl,rfl,by decide +kernel,rfl,by decide +kernel,by decide +kernel⟩
theorem sc_weight:FnScope ["kind","machine","word"] ["kind","machine","word"] (defScope s_weight):=⟨rfl,rfl,rfl,by decide +kernel,rfl,by decide +kernel,by decide +kernel⟩
theorem sc_need_same_letters:FnScope ["one","other"] ["one","other"] (defScope s_need_same_letters):=⟨rfl,rfl,rfl,by decide +kernel,rfl,by decide +kernel,by decide +kernel⟩
theorem sc_need_few_rooms:FnScope ["count"] ["count"] (defScope s_need_few_rooms):=⟨rfl,rfl,rfl,by decide +kernel,rfl,by decide +kernel,by decide +kernel⟩
theorem sc_beside:FnScope ["kind","first","second","step","upper","lower"] ["kind","first","second","step"] (defScope s_beside):=⟨rfl,rfl,rfl,by decide +kernel,rfl,by decide +kernel,by decide +kernel⟩
theorem sc_put_beside:FnScope ["kind","one","other","no_step","tables"] ["kind","one","other"] (defScope s_put_beside):=⟨rfl,rfl,rfl,by decide +kernel,rfl,by decide +kernel,by decide +kernel⟩
theorem sc_added:FnScope ["kind","one","other"] ["kind","one","other"] (defScope s_added):=⟨rfl,rfl,rfl,by decide +kernel,rfl,by decide +kernel,by decide +kernel⟩
theorem sc_outer:FnScope ["kind","column","row"] ["kind","column","row"] (defScope s_outer):=⟨rfl,rfl,rfl,by decide +kernel,rfl,by decide +kernel,by decide +kernel⟩
theorem sc_joined:FnScope ["kind","one","other","start","tables","first","second","step"] ["kind","one","other"] (defScope s_joined):=⟨rfl,rfl,rfl,by decide +kernel,rfl,by decide +kernel,by decide +kernel⟩
theorem sc_cross_row:FnScope ["kind","one","other","told","x"] ["kind","one","other"] (defScope s_cross_row):=⟨rfl,rfl,rfl,by decide +kernel,rfl,by decide +kernel,by decide +kernel⟩
theorem sc_cross_table:FnScope ["kind","one","other","told","row"] ["kind","one","other"] (defScope s_cross_table):=⟨rfl,rfl,rfl,by decide +kernel,rfl,by decide +kernel,by decide +kernel⟩
theorem sc_crossed:FnScope ["kind","one","other","start","tables"] ["kind","one","other"] (defScope s_crossed):=⟨rfl,rfl,rfl,by decide +kernel,rfl,by decide +kernel,by decide +kernel⟩
theorem sc_closed_table:FnScope ["kind","machine","table","back","first","others"] ["kind","machine","table"] (defScope s_closed_table):=⟨rfl,rfl,rfl,by decide +kernel,rfl,by decide +kernel,by decide +kernel⟩
theorem sc_need_closable:FnScope ["kind","empty_weight"] ["kind","empty_weight"] (defScope s_need_closable):=⟨rfl,rfl,rfl,by decide +kernel,rfl,by decide +kernel,by decide +kernel⟩
theorem sc_closed:FnScope ["kind","machine","size","tables","between"] ["kind","machine"] (defScope s_closed):=⟨rfl,rfl,rfl,by decide +kernel,rfl,by decide +kernel,by decide +kernel⟩
theorem sc_single_row:FnScope ["kind","letter","word","place"] ["kind","letter","word","place"] (defScope s_single_row):=⟨rfl,rfl,rfl,by decide +kernel,rfl,by decide +kernel,by decide +kernel⟩
theorem sc_single:FnScope ["kind","letters","word","by","size","tables","letter","start"] ["kind","letters","word","by"] (defScope s_single):=⟨rfl,rfl,rfl,by decide +kernel,rfl,by decide +kernel,by decide +kernel⟩
theorem sc_law_next:FnScope ["_law_state_here","_law_many","_law_found"] ["_law_state_here","_law_many"] (defScope s_law_next):=⟨rfl,rfl,rfl,by decide +kernel,rfl,by decide +kernel,by decide +kernel⟩
theorem sc_law_state:FnScope ["_law_script","_law_seed","_law_cell"] ["_law_script"] (defScope s_law_state):=⟨rfl,rfl,rfl,by decide +kernel,rfl,by decide +kernel,by decide +kernel⟩
theorem sc_law_nought:FnScope ["_law_sort_here"] ["_law_sort_here"] (defScope s_law_nought):=⟨rfl,rfl,rfl,by decide +kernel,rfl,by decide +kernel,by decide +kernel⟩
theorem sc_law_one:FnScope ["_law_sort_here"] ["_law_sort_here"] (defScope s_law_one):=⟨rfl,rfl,rfl,by decide +kernel,rfl,by decide +kernel,by decide +kernel⟩
theorem sc_law_sort:FnScope ["_law_state_here","_law_way","_law_prime"] ["_law_state_here","_law_way"] (defScope s_law_sort):=⟨rfl,rfl,rfl,by decide +kernel,rfl,by decide +kernel,by decide +kernel⟩
theorem sc_law_kind:FnScope ["_law_sort_here"] ["_law_sort_here"] (defScope s_law_kind):=⟨rfl,rfl,rfl,by decide +kernel,rfl,by decide +kernel,by decide +kernel⟩
theorem sc_law_letters:FnScope ["_law_state_here","_law_pool","_law_letters_here","_law_k","_law_at"] ["_law_state_here"] (defScope s_law_letters):=⟨rfl,rfl,rfl,by decide +kernel,rfl,by decide +kernel,by decide +kernel⟩
theorem sc_law_machine:FnScope ["_law_state_here","_law_sort_here","_law_letters_here","_law_many","_law_some","_law_start","_law_line","_law_table"] ["_law_state_here","_law_sort_here","_law_letters_here","_law_many"] (defScope s_law_machine):=⟨rfl,rfl,rfl,by decide +kernel,rfl,by decide +kernel,by decide +kernel⟩
theorem sc_law_other:FnScope ["_law_state_here","_law_letters_here","_law_other_here"] ["_law_state_here","_law_letters_here"] (defScope s_law_other):=⟨rfl,rfl,rfl,by decide +kernel,rfl,by decide +kernel,by decide +kernel⟩
theorem sc_law_made:FnScope ["_law_kind_here","_law_way","_law_one_here","_law_other_here"] ["_law_kind_here","_law_way","_law_one_here","_law_other_here"] (defScope s_law_made):=⟨rfl,rfl,rfl,by decide +kernel,rfl,by decide +kernel,by decide +kernel⟩
theorem sc_law_refused:FnScope ["_law_kind_here","_law_way","_law_one_here","_law_other_here","_law_caught","e"] ["_law_kind_here","_law_way","_law_one_here","_law_other_here"] (defScope s_law_refused):=⟨rfl,rfl,rfl,by decide +kernel,rfl,by decide +kernel,by decide +kernel⟩
theorem sc_law_two:FnScope ["_law_state_here","_law_sort_here","_law_kind_here","_law_letters_here","_law_way","_law_many","_law_sizes","_law_one_here","_law_found","_law_beyond","_law_great","_law_unlike"] ["_law_state_here","_law_sort_here","_law_kind_here","_law_letters_here","_law_way"] (defScope s_law_two):=⟨rfl,rfl,rfl,by decide +kernel,rfl,by decide +kernel,by decide +kernel⟩
theorem sc_law_one_more:FnScope ["_law_state_here","_law_sort_here","_law_kind_here","_law_letters_here","_law_machine_here","_law_great","_law_line","_law_heavy"] ["_law_state_here","_law_sort_here","_law_kind_here","_law_letters_here"] (defScope s_law_one_more):=⟨rfl,rfl,rfl,by decide +kernel,rfl,by decide +kernel,by decide +kernel⟩
theorem sc_law_words_made:FnScope ["_law_state_here","_law_sort_here","_law_kind_here","_law_letters_here","_law_machine_here","_law_word","_law_k","_law_at","_law_none","_law_odd"] ["_law_state_here","_law_sort_here","_law_kind_here","_law_letters_here"] (defScope s_law_words_made):=⟨rfl,rfl,rfl,by decide +kernel,rfl,by decide +kernel,by decide +kernel⟩
theorem sc_law:FnScope ["_law_script","_law_state_here","_law_sort_here","_law_kind_here","_law_letters_here"] ["_law_script"] (defScope s_law):=⟨rfl,rfl,rfl,by decide +kernel,rfl,by decide +kernel,by decide +kernel⟩
def sp_whole:Sp:=fun vs H Q _=>∃i,vs=[.int i]∧Q (.bl true) H
def sp_divisor:Sp:=fun vs H Q _=>∃a b,vs=[.int a,.int b]∧Q (.int (dv a b)) H
def sp_fraction:Sp:=fun vs H Q _=>∃a b,vs=[.int a,.int b]∧0 < b∧∀v H',Same H H'→IsF H' v (tp a b) (bt a b)→Q v H'
def sp_prime:Sp:=fun vs H Q _=>∃n,vs=[.int n]∧(2≤n∧n≤1000000∧isP n=true)∧Q (.bl true) H
def sp_init(C:Addr):Sp:=fun vs H Q _=>∃x dx n,vs=[.ref x,.int n]∧(2≤n∧n≤1000000∧isP n=true)∧H x=some (.ins C dx [])∧Q .non (upd H x (.ins C dx (pfs n)))
structure Adr where
  is_whole:Addr
  d_is_whole:FuncData
  divisor:Addr
  d_divisor:FuncData
  fraction:Addr
  d_fraction:FuncData
  is_prime:Addr
  d_is_prime:FuncData
  Fractions_nought:Addr
  d_Fractions_nought:FuncData
  Fractions_one:Addr
  d_Fractions_one:FuncData
  Fractions_plus:Addr
  d_Fractions_plus:FuncData
  Fractions_times:Addr
  d_Fractions_times:FuncData
  Residues___init__:Addr
  d_Residues___init__:FuncData
  Residues_nought:Addr
  d_Residues_nought:FuncData
  Residues_one:Addr
  d_Residues_one:FuncData
  Residues_plus:Addr
  d_Residues_plus:FuncData
  Residues_times:Addr
  d_Residues_times:FuncData
  Costs_nought:Addr
  d_Costs_nought:FuncData
  Costs_one:Addr
  d_Costs_one:FuncData
  Costs_plus:Addr
  d_Costs_plus:FuncData
  Costs_times:Addr
  d_Costs_times:FuncData
  Truths_nought:Addr
  d_Truths_nought:FuncData
  Truths_one:Addr
  d_Truths_one:FuncData
  Truths_plus:Addr
  d_Truths_plus:FuncData
  Truths_times:Addr
  d_Truths_times:FuncData
  noughts:Addr
  d_noughts:FuncData
  unit:Addr
  d_unit:FuncData
  times_row:Addr
  d_times_row:FuncData
  column_at:Addr
  d_column_at:FuncData
  columns_of:Addr
  d_columns_of:FuncData
  dot:Addr
  d_dot:FuncData
  row_by:Addr
  d_row_by:FuncData
  by_column:Addr
  d_by_column:FuncData
  is_word:Addr
  d_is_word:FuncData
  need_word:Addr
  d_need_word:FuncData
  rooms:Addr
  d_rooms:FuncData
  table_of:Addr
  d_table_of:FuncData
  ahead:Addr
  d_ahead:FuncData
  weight:Addr
  d_weight:FuncData
  need_same_letters:Addr
  d_need_same_letters:FuncData
  need_few_rooms:Addr
  d_need_few_rooms:FuncData
  beside:Addr
  d_beside:FuncData
  put_beside:Addr
  d_put_beside:FuncData
  added:Addr
  d_added:FuncData
  outer:Addr
  d_outer:FuncData
  joined:Addr
  d_joined:FuncData
  cross_row:Addr
  d_cross_row:FuncData
  cross_table:Addr
  d_cross_table:FuncData
  crossed:Addr
  d_crossed:FuncData
  closed_table:Addr
  d_closed_table:FuncData
  need_closable:Addr
  d_need_closable:FuncData
  closed:Addr
  d_closed:FuncData
  single_row:Addr
  d_single_row:FuncData
  single:Addr
  d_single:FuncData
  law_next:Addr
  d_law_next:FuncData
  law_state:Addr
  d_law_state:FuncData
  law_nought:Addr
  d_law_nought:FuncData
  law_one:Addr
  d_law_one:FuncData
  law_sort:Addr
  d_law_sort:FuncData
  law_kind:Addr
  d_law_kind:FuncData
  law_letters:Addr
  d_law_letters:FuncData
  law_machine:Addr
  d_law_machine:FuncData
  law_other:Addr
  d_law_other:FuncData
  law_made:Addr
  d_law_made:FuncData
  law_refused:Addr
  d_law_refused:FuncData
  law_two:Addr
  d_law_two:FuncData
  law_one_more:Addr
  d_law_one_more:FuncData
  law_words_made:Addr
  d_law_words_made:FuncData
  law:Addr
  d_law:FuncData
  Fractions:Addr
  Residues:Addr
  Costs:Addr
  Truths:Addr
  WeighError:Addr
  Unlike:Addr
  NoClosure:Addr
  NoWord:Addr
  TooGreat:Addr
structure Txt(K:PySem.W.Frag)(mg:Str→Option Value)(t:Adr):Prop where
  F_is_whole:Fun K "is_whole" "is_whole" s_is_whole t.is_whole t.d_is_whole
  b_is_whole:Binds K t.d_is_whole ["thing"] []
  m_is_whole:mg "is_whole"=some (.ref t.is_whole)
  F_divisor:Fun K "divisor" "divisor" s_divisor t.divisor t.d_divisor
  b_divisor:Binds K t.d_divisor ["one","other"] []
  m_divisor:mg "divisor"=some (.ref t.divisor)
  F_fraction:Fun K "fraction" "fraction" s_fraction t.fraction t.d_fraction
  b_fraction:Binds K t.d_fraction ["top","bottom"] []
  m_fraction:mg "fraction"=some (.ref t.fraction)
  F_is_prime:Fun K "is_prime" "is_prime" s_is_prime t.is_prime t.d_is_prime
  b_is_prime:Binds K t.d_is_prime ["number"] []
  m_is_prime:mg "is_prime"=some (.ref t.is_prime)
  F_Fractions_nought:Fun K "nought" "Fractions.nought" s_Fractions_nought t.Fractions_nought t.d_Fractions_nought
  b_Fractions_nought:Binds K t.d_Fractions_nought ["self"] []
  t_Fractions_nought:Meth K t.Fractions "nought" t.Fractions_nought
  F_Fractions_one:Fun K "one" "Fractions.one" s_Fractions_one t.Fractions_one t.d_Fractions_one
  b_Fractions_one:Binds K t.d_Fractions_one ["self"] []
  t_Fractions_one:Meth K t.Fractions "one" t.Fractions_one
  F_Fractions_plus:Fun K "plus" "Fractions.plus" s_Fractions_plus t.Fractions_plus t.d_Fractions_plus
  b_Fractions_plus:Binds K t.d_Fractions_plus ["self","x","y"] []
  t_Fractions_plus:Meth K t.Fractions "plus" t.Fractions_plus
  F_Fractions_times:Fun K "times" "Fractions.times" s_Fractions_times t.Fractions_times t.d_Fractions_times
  b_Fractions_times:Binds K t.d_Fractions_times ["self","x","y"] []
  t_Fractions_times:Meth K t.Fractions "times" t.Fractions_times
  F_Residues___init__:Fun K "__init__" "Residues.__init__" s_Residues___init__ t.Residues___init__ t.d_Residues___init__
  b_Residues___init__:Binds K t.d_Residues___init__ ["self","prime"] []
  t_Residues___init__:Meth K t.Residues "__init__" t.Residues___init__
  F_Residues_nought:Fun K "nought" "Residues.nought" s_Residues_nought t.Residues_nought t.d_Residues_nought
  b_Residues_nought:Binds K t.d_Residues_nought ["self"] []
  t_Residues_nought:Meth K t.Residues "nought" t.Residues_nought
  F_Residues_one:Fun K "one" "Residues.one" s_Residues_one t.Residues_one t.d_Residues_one
  b_Residues_one:Binds K t.d_Residues_one ["self"] []
  t_Residues_one:Meth K t.Residues "one" t.Residues_one
  F_Residues_plus:Fun K "plus" "Residues.plus" s_Residues_plus t.Residues_plus t.d_Residues_plus
  b_Residues_plus:Binds K t.d_Residues_plus ["self","x","y"] []
  t_Residues_plus:Meth K t.Residues "plus" t.Residues_plus
  F_Residues_times:Fun K "times" "Residues.times" s_Residues_times t.Residues_times t.d_Residues_times
  b_Residues_times:Binds K t.d_Residues_times ["self","x","y"] []
  t_Residues_times:Meth K t.Residues "times" t.Residues_times
  F_Costs_nought:Fun K "nought" "Costs.nought" s_Costs_nought t.Costs_nought t.d_Costs_nought
  b_Costs_nought:Binds K t.d_Costs_nought ["self"] []
  t_Costs_nought:Meth K t.Costs "nought" t.Costs_nought
  F_Costs_one:Fun K "one" "Costs.one" s_Costs_one t.Costs_one t.d_Costs_one
  b_Costs_one:Binds K t.d_Costs_one ["self"] []
  t_Costs_one:Meth K t.Costs "one" t.Costs_one
  F_Costs_plus:Fun K "plus" "Costs.plus" s_Costs_plus t.Costs_plus t.d_Costs_plus
  b_Costs_plus:Binds K t.d_Costs_plus ["self","x","y"] []
  t_Costs_plus:Meth K t.Costs "plus" t.Costs_plus
  F_Costs_times:Fun K "times" "Costs.times" s_Costs_times t.Costs_times t.d_Costs_times
  b_Costs_times:Binds K t.d_Costs_times ["self","x","y"] []
  t_Costs_times:Meth K t.Costs "times" t.Costs_times
  F_Truths_nought:Fun K "nought" "Truths.nought" s_Truths_nought t.Truths_nought t.d_Truths_nought
  b_Truths_nought:Binds K t.d_Truths_nought ["self"] []
  t_Truths_nought:Meth K t.Truths "nought" t.Truths_nought
  F_Truths_one:Fun K "one" "Truths.one" s_Truths_one t.Truths_one t.d_Truths_one
  b_Truths_one:Binds K t.d_Truths_one ["self"] []
  t_Truths_one:Meth K t.Truths "one" t.Truths_one
  F_Truths_plus:Fun K "plus" "Truths.plus" s_Truths_plus t.Truths_plus t.d_Truths_plus
  b_Truths_plus:Binds K t.d_Truths_plus ["self","x","y"] []
  t_Truths_plus:Meth K t.Truths "plus" t.Truths_plus
  F_Truths_times:Fun K "times" "Truths.times" s_Truths_times t.Truths_times t.d_Truths_times
  b_Truths_times:Binds K t.d_Truths_times ["self","x","y"] []
  t_Truths_times:Meth K t.Truths "times" t.Truths_times
  F_noughts:Fun K "noughts" "noughts" s_noughts t.noughts t.d_noughts
  b_noughts:Binds K t.d_noughts ["kind","size"] []
  m_noughts:mg "noughts"=some (.ref t.noughts)
  F_unit:Fun K "unit" "unit" s_unit t.unit t.d_unit
  b_unit:Binds K t.d_unit ["kind","size","place"] []
  m_unit:mg "unit"=some (.ref t.unit)
  F_times_row:Fun K "times_row" "times_row" s_times_row t.times_row t.d_times_row
  b_times_row:Binds K t.d_times_row ["kind","by","row"] []
  m_times_row:mg "times_row"=some (.ref t.times_row)
  F_column_at:Fun K "column_at" "column_at" s_column_at t.column_at t.d_column_at
  b_column_at:Binds K t.d_column_at ["table","place"] []
  m_column_at:mg "column_at"=some (.ref t.column_at)
  F_columns_of:Fun K "columns_of" "columns_of" s_columns_of t.columns_of t.d_columns_of
  b_columns_of:Binds K t.d_columns_of ["table"] []
  m_columns_of:mg "columns_of"=some (.ref t.columns_of)
  F_dot:Fun K "dot" "dot" s_dot t.dot t.d_dot
  b_dot:Binds K t.d_dot ["kind","row","column"] []
  m_dot:mg "dot"=some (.ref t.dot)
  F_row_by:Fun K "row_by" "row_by" s_row_by t.row_by t.d_row_by
  b_row_by:Binds K t.d_row_by ["kind","row","table"] []
  m_row_by:mg "row_by"=some (.ref t.row_by)
  F_by_column:Fun K "by_column" "by_column" s_by_column t.by_column t.d_by_column
  b_by_column:Binds K t.d_by_column ["kind","table","column"] []
  m_by_column:mg "by_column"=some (.ref t.by_column)
  F_is_word:Fun K "is_word" "is_word" s_is_word t.is_word t.d_is_word
  b_is_word:Binds K t.d_is_word ["letters","thing"] []
  m_is_word:mg "is_word"=some (.ref t.is_word)
  F_need_word:Fun K "need_word" "need_word" s_need_word t.need_word t.d_need_word
  b_need_word:Binds K t.d_need_word ["letters","thing"] []
  m_need_word:mg "need_word"=some (.ref t.need_word)
  F_rooms:Fun K "rooms" "rooms" s_rooms t.rooms t.d_rooms
  b_rooms:Binds K t.d_rooms ["machine"] []
  m_rooms:mg "rooms"=some (.ref t.rooms)
  F_table_of:Fun K "table_of" "table_of" s_table_of t.table_of t.d_table_of
  b_table_of:Binds K t.d_table_of ["machine","letter"] []
  m_table_of:mg "table_of"=some (.ref t.table_of)
  F_ahead:Fun K "ahead" "ahead" s_ahead t.ahead t.d_ahead
  b_ahead:Binds K t.d_ahead ["kind","machine","word"] []
  m_ahead:mg "ahead"=some (.ref t.ahead)
  F_weight:Fun K "weight" "weight" s_weight t.weight t.d_weight
  b_weight:Binds K t.d_weight ["kind","machine","word"] []
  m_weight:mg "weight"=some (.ref t.weight)
  F_need_same_letters:Fun K "need_same_letters" "need_same_letters" s_need_same_letters t.need_same_letters t.d_need_same_letters
  b_need_same_letters:Binds K t.d_need_same_letters ["one","other"] []
  m_need_same_letters:mg "need_same_letters"=some (.ref t.need_same_letters)
  F_need_few_rooms:Fun K "need_few_rooms" "need_few_rooms" s_need_few_rooms t.need_few_rooms t.d_need_few_rooms
  b_need_few_rooms:Binds K t.d_need_few_rooms ["count"] []
  m_need_few_rooms:mg "need_few_rooms"=some (.ref t.need_few_rooms)
  F_beside:Fun K "beside" "beside" s_beside t.beside t.d_beside
  b_beside:Binds K t.d_beside ["kind","first","second","step"] []
  m_beside:mg "beside"=some (.ref t.beside)
  F_put_beside:Fun K "put_beside" "put_beside" s_put_beside t.put_beside t.d_put_beside
  b_put_beside:Binds K t.d_put_beside ["kind","one","other"] []
  m_put_beside:mg "put_beside"=some (.ref t.put_beside)
  F_added:Fun K "added" "added" s_added t.added t.d_added
  b_added:Binds K t.d_added ["kind","one","other"] []
  m_added:mg "added"=some (.ref t.added)
  F_outer:Fun K "outer" "outer" s_outer t.outer t.d_outer
  b_outer:Binds K t.d_outer ["kind","column","row"] []
  m_outer:mg "outer"=some (.ref t.outer)
  F_joined:Fun K "joined" "joined" s_joined t.joined t.d_joined
  b_joined:Binds K t.d_joined ["kind","one","other"] []
  m_joined:mg "joined"=some (.ref t.joined)
  F_cross_row:Fun K "cross_row" "cross_row" s_cross_row t.cross_row t.d_cross_row
  b_cross_row:Binds K t.d_cross_row ["kind","one","other"] []
  m_cross_row:mg "cross_row"=some (.ref t.cross_row)
  F_cross_table:Fun K "cross_table" "cross_table" s_cross_table t.cross_table t.d_cross_table
  b_cross_table:Binds K t.d_cross_table ["kind","one","other"] []
  m_cross_table:mg "cross_table"=some (.ref t.cross_table)
  F_crossed:Fun K "crossed" "crossed" s_crossed t.crossed t.d_crossed
  b_crossed:Binds K t.d_crossed ["kind","one","other"] []
  m_crossed:mg "crossed"=some (.ref t.crossed)
  F_closed_table:Fun K "closed_table" "closed_table" s_closed_table t.closed_table t.d_closed_table
  b_closed_table:Binds K t.d_closed_table ["kind","machine","table"] []
  m_closed_table:mg "closed_table"=some (.ref t.closed_table)
  F_need_closable:Fun K "need_closable" "need_closable" s_need_closable t.need_closable t.d_need_closable
  b_need_closable:Binds K t.d_need_closable ["kind","empty_weight"] []
  m_need_closable:mg "need_closable"=some (.ref t.need_closable)
  F_closed:Fun K "closed" "closed" s_closed t.closed t.d_closed
  b_closed:Binds K t.d_closed ["kind","machine"] []
  m_closed:mg "closed"=some (.ref t.closed)
  F_single_row:Fun K "single_row" "single_row" s_single_row t.single_row t.d_single_row
  b_single_row:Binds K t.d_single_row ["kind","letter","word","place"] []
  m_single_row:mg "single_row"=some (.ref t.single_row)
  F_single:Fun K "single" "single" s_single t.single t.d_single
  b_single:Binds K t.d_single ["kind","letters","word","by"] []
  m_single:mg "single"=some (.ref t.single)
  F_law_next:Fun K "_law_next" "_law_next" s_law_next t.law_next t.d_law_next
  b_law_next:Binds K t.d_law_next ["_law_state_here","_law_many"] []
  m_law_next:mg "_law_next"=some (.ref t.law_next)
  F_law_state:Fun K "_law_state" "_law_state" s_law_state t.law_state t.d_law_state
  b_law_state:Binds K t.d_law_state ["_law_script"] []
  m_law_state:mg "_law_state"=some (.ref t.law_state)
  F_law_nought:Fun K "_law_nought" "_law_nought" s_law_nought t.law_nought t.d_law_nought
  b_law_nought:Binds K t.d_law_nought ["_law_sort_here"] []
  m_law_nought:mg "_law_nought"=some (.ref t.law_nought)
  F_law_one:Fun K "_law_one" "_law_one" s_law_one t.law_one t.d_law_one
  b_law_one:Binds K t.d_law_one ["_law_sort_here"] []
  m_law_one:mg "_law_one"=some (.ref t.law_one)
  F_law_sort:Fun K "_law_sort" "_law_sort" s_law_sort t.law_sort t.d_law_sort
  b_law_sort:Binds K t.d_law_sort ["_law_state_here","_law_way"] []
  m_law_sort:mg "_law_sort"=some (.ref t.law_sort)
  F_law_kind:Fun K "_law_kind" "_law_kind" s_law_kind t.law_kind t.d_law_kind
  b_law_kind:Binds K t.d_law_kind ["_law_sort_here"] []
  m_law_kind:mg "_law_kind"=some (.ref t.law_kind)
  F_law_letters:Fun K "_law_letters" "_law_letters" s_law_letters t.law_letters t.d_law_letters
  b_law_letters:Binds K t.d_law_letters ["_law_state_here"] []
  m_law_letters:mg "_law_letters"=some (.ref t.law_letters)
  F_law_machine:Fun K "_law_machine" "_law_machine" s_law_machine t.law_machine t.d_law_machine
  b_law_machine:Binds K t.d_law_machine ["_law_state_here","_law_sort_here","_law_letters_here","_law_many"] []
  m_law_machine:mg "_law_machine"=some (.ref t.law_machine)
  F_law_other:Fun K "_law_other" "_law_other" s_law_other t.law_other t.d_law_other
  b_law_other:Binds K t.d_law_other ["_law_state_here","_law_letters_here"] []
  m_law_other:mg "_law_other"=some (.ref t.law_other)
  F_law_made:Fun K "_law_made" "_law_made" s_law_made t.law_made t.d_law_made
  b_law_made:Binds K t.d_law_made ["_law_kind_here","_law_way","_law_one_here","_law_other_here"] []
  m_law_made:mg "_law_made"=some (.ref t.law_made)
  F_law_refused:Fun K "_law_refused" "_law_refused" s_law_refused t.law_refused t.d_law_refused
  b_law_refused:Binds K t.d_law_refused ["_law_kind_here","_law_way","_law_one_here","_law_other_here"] []
  m_law_refused:mg "_law_refused"=some (.ref t.law_refused)
  F_law_two:Fun K "_law_two" "_law_two" s_law_two t.law_two t.d_law_two
  b_law_two:Binds K t.d_law_two ["_law_state_here","_law_sort_here","_law_kind_here","_law_letters_here","_law_way"] []
  m_law_two:mg "_law_two"=some (.ref t.law_two)
  F_law_one_more:Fun K "_law_one_more" "_law_one_more" s_law_one_more t.law_one_more t.d_law_one_more
  b_law_one_more:Binds K t.d_law_one_more ["_law_state_here","_law_sort_here","_law_kind_here","_law_letters_here"] []
  m_law_one_more:mg "_law_one_more"=some (.ref t.law_one_more)
  F_law_words_made:Fun K "_law_words_made" "_law_words_made" s_law_words_made t.law_words_made t.d_law_words_made
  b_law_words_made:Binds K t.d_law_words_made ["_law_state_here","_law_sort_here","_law_kind_here","_law_letters_here"] []
  m_law_words_made:mg "_law_words_made"=some (.ref t.law_words_made)
  F_law:Fun K "law" "law" s_law t.law t.d_law
  b_law:Binds K t.d_law ["_law_script"] []
  m_law:mg "law"=some (.ref t.law)
  C_Fractions:Cls K t.Fractions
  m_Fractions:mg "Fractions"=some (.ref t.Fractions)
  M_Fractions:MkO K t.Fractions
  C_Residues:Cls K t.Residues
  m_Residues:mg "Residues"=some (.ref t.Residues)
  M_Residues:Mk K t.Residues t.Residues___init__
  C_Costs:Cls K t.Costs
  m_Costs:mg "Costs"=some (.ref t.Costs)
  M_Costs:MkO K t.Costs
  C_Truths:Cls K t.Truths
  m_Truths:mg "Truths"=some (.ref t.Truths)
  M_Truths:MkO K t.Truths
  m_WeighError:mg "WeighError"=some (.ref t.WeighError)
  x_WeighError:ExcK K t.WeighError
  m_Unlike:mg "Unlike"=some (.ref t.Unlike)
  x_Unlike:ExcK K t.Unlike
  m_NoClosure:mg "NoClosure"=some (.ref t.NoClosure)
  x_NoClosure:ExcK K t.NoClosure
  m_NoWord:mg "NoWord"=some (.ref t.NoWord)
  x_NoWord:ExcK K t.NoWord
  m_TooGreat:mg "TooGreat"=some (.ref t.TooGreat)
  x_TooGreat:ExcK K t.TooGreat
  z_isinstance:mg "isinstance"=none
  z_int:mg "int"=none
  z_bool:mg "bool"=none
  z_abs:mg "abs"=none
  c_GREATEST_PRIME:∃tk,mg "GREATEST_PRIME"=some (Value.int 1000000 tk)
  z_min:mg "min"=none
  z_tuple:mg "tuple"=none
  z_range:mg "range"=none
  z_len:mg "len"=none
  z_zip:mg "zip"=none
  z_str:mg "str"=none
  z_all:mg "all"=none
  c_MOST_ROOMS:∃tk,mg "MOST_ROOMS"=some (Value.int 20 tk)
  z_ValueError:mg "ValueError"=none
  k_ii:PySem.W.kitOne K (.type "int") (.type "int")=some true
  k_ib:PySem.W.kitOne K (.type "int") (.type "bool")=some false
  nP:NoAttr K t.Residues "prime"
  k_ss:PySem.W.kitOne K (.type "str") (.type "str")=some true
  k_ns:PySem.W.kitOne K (.type "NoneType") (.type "str")=some false
  k_ls:PySem.W.kitOne K (.type "list") (.type "str")=some false
  k_is:PySem.W.kitOne K (.type "int") (.type "str")=some false
  k_ts:PySem.W.kitOne K (.type "tuple") (.type "str")=some false
  eU:PySem.W.exmOne K (.ref t.Unlike) (.ref t.WeighError)=some true
  vU:PySem.W.kitOne K (.ref t.Unlike) (.type "ValueError")=some true
  kUU:PySem.W.kitOne K (.ref t.Unlike) (.ref t.Unlike)=some true
  kUC:PySem.W.kitOne K (.ref t.Unlike) (.ref t.NoClosure)=some false
  kUW:PySem.W.kitOne K (.ref t.Unlike) (.ref t.NoWord)=some false
  kUG:PySem.W.kitOne K (.ref t.Unlike) (.ref t.TooGreat)=some false
  eC:PySem.W.exmOne K (.ref t.NoClosure) (.ref t.WeighError)=some true
  vC:PySem.W.kitOne K (.ref t.NoClosure) (.type "ValueError")=some true
  kCU:PySem.W.kitOne K (.ref t.NoClosure) (.ref t.Unlike)=some false
  kCC:PySem.W.kitOne K (.ref t.NoClosure) (.ref t.NoClosure)=some true
  kCW:PySem.W.kitOne K (.ref t.NoClosure) (.ref t.NoWord)=some false
  kCG:PySem.W.kitOne K (.ref t.NoClosure) (.ref t.TooGreat)=some false
  eW:PySem.W.exmOne K (.ref t.NoWord) (.ref t.WeighError)=some true
  vW:PySem.W.kitOne K (.ref t.NoWord) (.type "ValueError")=some true
  kWU:PySem.W.kitOne K (.ref t.NoWord) (.ref t.Unlike)=some false
  kWC:PySem.W.kitOne K (.ref t.NoWord) (.ref t.NoClosure)=some false
  kWW:PySem.W.kitOne K (.ref t.NoWord) (.ref t.NoWord)=some true
  kWG:PySem.W.kitOne K (.ref t.NoWord) (.ref t.TooGreat)=some false
  eG:PySem.W.exmOne K (.ref t.TooGreat) (.ref t.WeighError)=some true
  vG:PySem.W.kitOne K (.ref t.TooGreat) (.type "ValueError")=some true
  kGU:PySem.W.kitOne K (.ref t.TooGreat) (.ref t.Unlike)=some false
  kGC:PySem.W.kitOne K (.ref t.TooGreat) (.ref t.NoClosure)=some false
  kGW:PySem.W.kitOne K (.ref t.TooGreat) (.ref t.NoWord)=some false
  kGG:PySem.W.kitOne K (.ref t.TooGreat) (.ref t.TooGreat)=some true
seal L2.PSs L2.PS L2.PE L2.PT L2.PW L2.PA L2.PG L2.PGs L2.PI
section
variable{w:World}{K:PySem.W.Frag}{mg:Str→Option Value}{base:Heap}{t:Adr}
theorem ok_is_whole(T:Txt K mg t):FnOk Pr w K mg base CX0 1 t.is_whole t.d_is_whole ["thing"] sp_whole:=by
  refine T.F_is_whole.ok sc_is_whole (fun vs H Q E h=>?_) (fun cdv A outer s H vs Q E hr h=>?_)
  · obtain⟨i,rfl,_⟩:=h
    rfl
  · obtain⟨i,rfl,k⟩:=h
    refine⟨_,(pss_one (ps_ret (pe_and (pe_callB call_isi (by rfl) T.z_isinstance boot_isinstance (pa_cons (pv 0) (pa_cons (pe_bltn (v:=.ty "int") rfl T.z_int boot_int rfl) pa_nil))) (pe_one (pe_not (pe_callB call_isi (by rfl) T.z_isinstance boot_isinstance (pa_cons (pv 0) (pa_cons (pe_bltn (v:=.ty "bool") rfl T.z_bool boot_bool rfl) pa_nil)))))))),?_⟩
    (repeat (first | apply Exists.intro | refine And.intro rfl ?_ | refine And.intro (by with_reducible assumption) ?_ | refine And.intro (SqT.of (by assumption)) ?_ | refine And.intro (SqL.of (by assumption)) ?_ | refine And.intro (TyOf.int _) ?_ | refine And.intro (TyOf.tup (by assumption)) ?_ | refine And.intro T.k_ii ?_ | refine And.intro T.k_ib ?_ | refine And.intro T.nP ?_ | refine And.intro T.k_ss ?_ | refine And.intro T.k_ns ?_ | refine And.intro T.k_ls ?_ | refine And.intro T.k_is ?_ | refine And.intro T.k_ts ?_ | refine And.intro T.eU ?_ | refine And.intro T.vU ?_ | refine And.intro T.kUU ?_ | refine And.intro T.kUC ?_ | refine And.intro T.kUW ?_ | refine And.intro T.kUG ?_ | refine And.intro T.eC ?_ | refine And.intro T.vC ?_ | refine And.intro T.kCU ?_ | refine And.intro T.kCC ?_ | refine And.intro T.kCW ?_ | refine And.intro T.kCG ?_ | refine And.intro T.eW ?_ | refine And.intro T.vW ?_ | refine And.intro T.kWU ?_ | refine And.intro T.kWC ?_ | refine And.intro T.kWW ?_ | refine And.intro T.kWG ?_ | refine And.intro T.eG ?_ | refine And.intro T.vG ?_ | refine And.intro T.kGU ?_ | refine And.intro T.kGC ?_ | refine And.intro T.kGW ?_ | refine And.intro T.kGG ?_))
    (try refine iteT ?_)
    (repeat (first | apply Exists.intro | refine And.intro rfl ?_ | refine And.intro (by with_reducible assumption) ?_ | refine And.intro (SqT.of (by assumption)) ?_ | refine And.intro (SqL.of (by assumption)) ?_ | refine And.intro (TyOf.int _) ?_ | refine And.intro (TyOf.tup (by assumption)) ?_ | refine And.intro T.k_ii ?_ | refine And.intro T.k_ib ?_ | refine And.intro T.nP ?_ | refine And.intro T.k_ss ?_ | refine And.intro T.k_ns ?_ | refine And.intro T.k_ls ?_ | refine And.intro T.k_is ?_ | refine And.intro T.k_ts ?_ | refine And.intro T.eU ?_ | refine And.intro T.vU ?_ | refine And.intro T.kUU ?_ | refine And.intro T.kUC ?_ | refine And.intro T.kUW ?_ | refine And.intro T.kUG ?_ | refine And.intro T.eC ?_ | refine And.intro T.vC ?_ | refine And.intro T.kCU ?_ | refine And.intro T.kCC ?_ | refine And.intro T.kCW ?_ | refine And.intro T.kCG ?_ | refine And.intro T.eW ?_ | refine And.intro T.vW ?_ | refine And.intro T.kWU ?_ | refine And.intro T.kWC ?_ | refine And.intro T.kWW ?_ | refine And.intro T.kWG ?_ | refine And.intro T.eG ?_ | refine And.intro T.vG ?_ | refine And.intro T.kGU ?_ | refine And.intro T.kGC ?_ | refine And.intro T.kGW ?_ | refine And.intro T.kGG ?_))
    exact k
theorem ok_divisor(T:Txt K mg t):FnOk Pr w K mg base CX0 1 t.divisor t.d_divisor ["one","other"] sp_divisor:=by
  refine T.F_divisor.ok sc_divisor (fun vs H Q E h=>?_) (fun cdv A outer s H vs Q E hr h=>?_)
  · obtain⟨a,b,rfl,_⟩:=h
    rfl
  · obtain⟨a,b,rfl,k⟩:=h
    refine⟨_,(pss_cons (ps_set (i:=2) sc_divisor.nd rfl (Or.inl rfl) (pe_callB call_abs (by rfl) T.z_abs boot_abs (pa_cons (pv 0) pa_nil))) (pss_cons (ps_set (i:=3) sc_divisor.nd rfl (Or.inl rfl) (pe_callB call_abs (by rfl) T.z_abs boot_abs (pa_cons (pv 1) pa_nil))) (pss_cons (ps_while PassesOwn.never (pt_cmpR op_gt (pv 3) pe_int (nomark _)) (pss_cons (ps_set (i:=4) sc_divisor.nd rfl (Or.inl rfl) (pe_op op_modN (pv 2) (pv 3))) (pss_cons (ps_set (i:=2) sc_divisor.nd rfl (Or.inl rfl) (pv 3)) (pss_one (ps_set (i:=3) sc_divisor.nd rfl (Or.inl rfl) (pv 4)))))) (pss_one (ps_ret (pv 2)))))),?_⟩
    refine⟨_,rfl,_,rfl,_,rfl,_,rfl,?_⟩
    refine⟨fun m σ H'=>∃g r l,σ=[some (.int a),some (.int b),some (.int g),some (.int r),l]∧m=r.toNat∧(0≤g∧0≤r∧dv g r=dv a b)∧H'=H,⟨_,_,_,_,rfl,rfl,start1 a b,rfl⟩,?_⟩
    rintro m σ H' ⟨g,r,l,rfl,rfl,⟨g0,r0,e⟩,rfl⟩
    (repeat (first | apply Exists.intro | refine And.intro rfl ?_ | refine And.intro (by with_reducible assumption) ?_ | refine And.intro (SqT.of (by assumption)) ?_ | refine And.intro (SqL.of (by assumption)) ?_ | refine And.intro (TyOf.int _) ?_ | refine And.intro (TyOf.tup (by assumption)) ?_ | refine And.intro T.k_ii ?_ | refine And.intro T.k_ib ?_ | refine And.intro T.nP ?_ | refine And.intro T.k_ss ?_ | refine And.intro T.k_ns ?_ | refine And.intro T.k_ls ?_ | refine And.intro T.k_is ?_ | refine And.intro T.k_ts ?_ | refine And.intro T.eU ?_ | refine And.intro T.vU ?_ | refine And.intro T.kUU ?_ | refine And.intro T.kUC ?_ | refine And.intro T.kUW ?_ | refine And.intro T.kUG ?_ | refine And.intro T.eC ?_ | refine And.intro T.vC ?_ | refine And.intro T.kCU ?_ | refine And.intro T.kCC ?_ | refine And.intro T.kCW ?_ | refine And.intro T.kCG ?_ | refine And.intro T.eW ?_ | refine And.intro T.vW ?_ | refine And.intro T.kWU ?_ | refine And.intro T.kWC ?_ | refine And.intro T.kWW ?_ | refine And.intro T.kWG ?_ | refine And.intro T.eG ?_ | refine And.intro T.vG ?_ | refine And.intro T.kGU ?_ | refine And.intro T.kGC ?_ | refine And.intro T.kGW ?_ | refine And.intro T.kGG ?_))
    refine iteP (fun hr0=>?_) (fun hr0=>?_)
    · refine⟨fun σ' H''=>∃g' r' l',σ'=[some (.int a),some (.int b),some (.int g'),some (.int r'),l']∧r'.toNat < r.toNat∧(0≤g'∧0≤r'∧dv g' r'=dv a b)∧H''=H',fun σ' H'' ⟨g',r',l',e1,e2,e3,e4⟩=>⟨_,e2,g',r',l',e1,rfl,e3,e4⟩,?_⟩
      refine⟨_,rfl,_,rfl,_,_,rfl,rfl,(show r≠0 by omega),_,rfl,_,rfl,?_⟩
      exact⟨_,_,_,rfl,d_less hr0,d_turn e hr0,rfl⟩
    · refine⟨_,rfl,?_⟩
      (try dsimp only)
      rw[d_out e g0 r0 hr0]
      exact k
theorem fr_is{a b:Int}(pb:0 < b):a.fdiv (dv a b)=tp a b∧b.fdiv (dv a b)=bt a b:=by
  unfold tp bt
  rw[sg_pos (by omega)]
  exact⟨rfl,rfl⟩
theorem ok_fraction(T:Txt K mg t):FnOk Pr w K mg base CX0 36 t.fraction t.d_fraction ["top","bottom"] sp_fraction:=by
  refine T.F_fraction.ok sc_fraction (fun vs H Q E h=>?_) (fun cdv A outer s H vs Q E hr h=>?_)
  · obtain⟨a,b,rfl,_⟩:=h
    rfl
  · obtain⟨a,b,rfl,pb,k⟩:=h
    have hd:dv a b≠0:=Int.ne_of_gt (dv_pos (by omega))
    refine⟨_,(pss_cons (ps_if (PW.pt (pw_or (pt_not (pt_val (pe_call (ok_is_whole T) (hr.mono (by decide)) rfl T.m_is_whole T.F_is_whole.kp T.b_is_whole .nil pass0 (pa_cons (pv 0) pa_nil)))) (pw_or1 (pt_not (pt_val (pe_call (ok_is_whole T) (hr.mono (by decide)) rfl T.m_is_whole T.F_is_whole.kp T.b_is_whole .nil pass0 (pa_cons (pv 1) pa_nil))))))) (pss_one ps_never) pss_nil) (pss_cons (ps_if (pt_cmpR op_eq (pv 1) pe_int (nomark _)) (pss_one ps_never) pss_nil) (pss_cons (ps_set (i:=2) sc_fraction.nd rfl (Or.inl rfl) (pe_call (ok_divisor T) (hr.mono (by decide)) rfl T.m_divisor T.F_divisor.kp T.b_divisor .nil pass0 (pa_cons (pv 0) (pa_cons (pv 1) pa_nil)))) (pss_cons (ps_if (pt_cmpR op_lt (pv 1) pe_int (nomark _)) (pss_one (ps_set (i:=2) sc_fraction.nd rfl (Or.inl rfl) (pe_un un_neg (pv 2)))) pss_nil) (pss_one (ps_ret (pe_tup (pa_cons (pe_op (op_fdivP hr (by decide) tree0) (pv 0) (pv 2)) (pa_cons (pe_op (op_fdivP hr (by decide) tree0) (pv 1) (pv 2)) pa_nil))))))))),?_⟩
    (repeat (first | apply Exists.intro | refine And.intro rfl ?_ | refine And.intro (by with_reducible assumption) ?_ | refine And.intro (SqT.of (by assumption)) ?_ | refine And.intro (SqL.of (by assumption)) ?_ | refine And.intro (TyOf.int _) ?_ | refine And.intro (TyOf.tup (by assumption)) ?_ | refine And.intro T.k_ii ?_ | refine And.intro T.k_ib ?_ | refine And.intro T.nP ?_ | refine And.intro T.k_ss ?_ | refine And.intro T.k_ns ?_ | refine And.intro T.k_ls ?_ | refine And.intro T.k_is ?_ | refine And.intro T.k_ts ?_ | refine And.intro T.eU ?_ | refine And.intro T.vU ?_ | refine And.intro T.kUU ?_ | refine And.intro T.kUC ?_ | refine And.intro T.kUW ?_ | refine And.intro T.kUG ?_ | refine And.intro T.eC ?_ | refine And.intro T.vC ?_ | refine And.intro T.kCU ?_ | refine And.intro T.kCC ?_ | refine And.intro T.kCW ?_ | refine And.intro T.kCG ?_ | refine And.intro T.eW ?_ | refine And.intro T.vW ?_ | refine And.intro T.kWU ?_ | refine And.intro T.kWC ?_ | refine And.intro T.kWW ?_ | refine And.intro T.kWG ?_ | refine And.intro T.eG ?_ | refine And.intro T.vG ?_ | refine And.intro T.kGU ?_ | refine And.intro T.kGC ?_ | refine And.intro T.kGW ?_ | refine And.intro T.kGG ?_))
    (try refine iteF ?_)
    (repeat (first | apply Exists.intro | refine And.intro rfl ?_ | refine And.intro (by with_reducible assumption) ?_ | refine And.intro (SqT.of (by assumption)) ?_ | refine And.intro (SqL.of (by assumption)) ?_ | refine And.intro (TyOf.int _) ?_ | refine And.intro (TyOf.tup (by assumption)) ?_ | refine And.intro T.k_ii ?_ | refine And.intro T.k_ib ?_ | refine And.intro T.nP ?_ | refine And.intro T.k_ss ?_ | refine And.intro T.k_ns ?_ | refine And.intro T.k_ls ?_ | refine And.intro T.k_is ?_ | refine And.intro T.k_ts ?_ | refine And.intro T.eU ?_ | refine And.intro T.vU ?_ | refine And.intro T.kUU ?_ | refine And.intro T.kUC ?_ | refine And.intro T.kUW ?_ | refine And.intro T.kUG ?_ | refine And.intro T.eC ?_ | refine And.intro T.vC ?_ | refine And.intro T.kCU ?_ | refine And.intro T.kCC ?_ | refine And.intro T.kCW ?_ | refine And.intro T.kCG ?_ | refine And.intro T.eW ?_ | refine And.intro T.vW ?_ | refine And.intro T.kWU ?_ | refine And.intro T.kWC ?_ | refine And.intro T.kWW ?_ | refine And.intro T.kWG ?_ | refine And.intro T.eG ?_ | refine And.intro T.vG ?_ | refine And.intro T.kGU ?_ | refine And.intro T.kGC ?_ | refine And.intro T.kGW ?_ | refine And.intro T.kGG ?_))
    (try refine iteF ?_)
    (repeat (first | apply Exists.intro | refine And.intro rfl ?_ | refine And.intro (by with_reducible assumption) ?_ | refine And.intro (SqT.of (by assumption)) ?_ | refine And.intro (SqL.of (by assumption)) ?_ | refine And.intro (TyOf.int _) ?_ | refine And.intro (TyOf.tup (by assumption)) ?_ | refine And.intro T.k_ii ?_ | refine And.intro T.k_ib ?_ | refine And.intro T.nP ?_ | refine And.intro T.k_ss ?_ | refine And.intro T.k_ns ?_ | refine And.intro T.k_ls ?_ | refine And.intro T.k_is ?_ | refine And.intro T.k_ts ?_ | refine And.intro T.eU ?_ | refine And.intro T.vU ?_ | refine And.intro T.kUU ?_ | refine And.intro T.kUC ?_ | refine And.intro T.kUW ?_ | refine And.intro T.kUG ?_ | refine And.intro T.eC ?_ | refine And.intro T.vC ?_ | refine And.intro T.kCU ?_ | refine And.intro T.kCC ?_ | refine And.intro T.kCW ?_ | refine And.intro T.kCG ?_ | refine And.intro T.eW ?_ | refine And.intro T.vW ?_ | refine And.intro T.kWU ?_ | refine And.intro T.kWC ?_ | refine And.intro T.kWW ?_ | refine And.intro T.kWG ?_ | refine And.intro T.eG ?_ | refine And.intro T.vG ?_ | refine And.intro T.kGU ?_ | refine And.intro T.kGC ?_ | refine And.intro T.kGW ?_ | refine And.intro T.kGG ?_))
    refine iteI (fun h0=>absurd h0 (by omega)) (fun _=>?_)
    (repeat (first | apply Exists.intro | refine And.intro rfl ?_ | refine And.intro (by with_reducible assumption) ?_ | refine And.intro (SqT.of (by assumption)) ?_ | refine And.intro (SqL.of (by assumption)) ?_ | refine And.intro (TyOf.int _) ?_ | refine And.intro (TyOf.tup (by assumption)) ?_ | refine And.intro T.k_ii ?_ | refine And.intro T.k_ib ?_ | refine And.intro T.nP ?_ | refine And.intro T.k_ss ?_ | refine And.intro T.k_ns ?_ | refine And.intro T.k_ls ?_ | refine And.intro T.k_is ?_ | refine And.intro T.k_ts ?_ | refine And.intro T.eU ?_ | refine And.intro T.vU ?_ | refine And.intro T.kUU ?_ | refine And.intro T.kUC ?_ | refine And.intro T.kUW ?_ | refine And.intro T.kUG ?_ | refine And.intro T.eC ?_ | refine And.intro T.vC ?_ | refine And.intro T.kCU ?_ | refine And.intro T.kCC ?_ | refine And.intro T.kCW ?_ | refine And.intro T.kCG ?_ | refine And.intro T.eW ?_ | refine And.intro T.vW ?_ | refine And.intro T.kWU ?_ | refine And.intro T.kWC ?_ | refine And.intro T.kWW ?_ | refine And.intro T.kWG ?_ | refine And.intro T.eG ?_ | refine And.intro T.vG ?_ | refine And.intro T.kGU ?_ | refine And.intro T.kGC ?_ | refine And.intro T.kGW ?_ | refine And.intro T.kGG ?_))
    refine iteP (fun h0=>absurd h0 (by omega)) (fun _=>?_)
    (repeat (first | apply Exists.intro | refine And.intro rfl ?_ | refine And.intro (by with_reducible assumption) ?_ | refine And.intro (SqT.of (by assumption)) ?_ | refine And.intro (SqL.of (by assumption)) ?_ | refine And.intro (TyOf.int _) ?_ | refine And.intro (TyOf.tup (by assumption)) ?_ | refine And.intro T.k_ii ?_ | refine And.intro T.k_ib ?_ | refine And.intro T.nP ?_ | refine And.intro T.k_ss ?_ | refine And.intro T.k_ns ?_ | refine And.intro T.k_ls ?_ | refine And.intro T.k_is ?_ | refine And.intro T.k_ts ?_ | refine And.intro T.eU ?_ | refine And.intro T.vU ?_ | refine And.intro T.kUU ?_ | refine And.intro T.kUC ?_ | refine And.intro T.kUW ?_ | refine And.intro T.kUG ?_ | refine And.intro T.eC ?_ | refine And.intro T.vC ?_ | refine And.intro T.kCU ?_ | refine And.intro T.kCC ?_ | refine And.intro T.kCW ?_ | refine And.intro T.kCG ?_ | refine And.intro T.eW ?_ | refine And.intro T.vW ?_ | refine And.intro T.kWU ?_ | refine And.intro T.kWC ?_ | refine And.intro T.kWW ?_ | refine And.intro T.kWG ?_ | refine And.intro T.eG ?_ | refine And.intro T.vG ?_ | refine And.intro T.kGU ?_ | refine And.intro T.kGC ?_ | refine And.intro T.kGW ?_ | refine And.intro T.kGG ?_))
    refine⟨(by show 2≤sizeLine;decide),fun p hp=>?_⟩
    refine k _ _ (same_upd hp) ?_
    (try dsimp only)
    rw[(fr_is pb).1,(fr_is pb).2]
    exact IsF.new
theorem ok_is_prime(T:Txt K mg t):FnOk Pr w K mg base CX0 1 t.is_prime t.d_is_prime ["number"] sp_prime:=by
  refine T.F_is_prime.ok sc_is_prime (fun vs H Q E h=>?_) (fun cdv A outer s H vs Q E hr h=>?_)
  · obtain⟨n,rfl,_⟩:=h
    rfl
  · obtain⟨n,rfl,⟨n2,n6,hp⟩,k⟩:=h
    have PP:=isP_true hp
    refine⟨_,(pss_cons (ps_if (pt_cmpR op_lt (pv 0) pe_int (nomark _)) (pss_one (ps_ret pe_bl)) pss_nil) (pss_cons (ps_set (i:=1) sc_is_prime.nd rfl (Or.inl rfl) pe_int) (pss_cons (ps_while PassesOwn.never (pt_cmpR op_le (pe_op op_mul (pv 1) (pv 1)) (pv 0) (nomark _)) (pss_cons (ps_if (pt_cmpR op_eq (pe_op op_modN (pv 0) (pv 1)) pe_int (nomark _)) (pss_one (ps_ret pe_bl)) pss_nil) (pss_one (ps_set (i:=1) sc_is_prime.nd rfl (Or.inl rfl) (pe_op op_add (pv 1) pe_int))))) (pss_one (ps_ret pe_bl))))),?_⟩
    refine⟨_,rfl,_,_,rfl,rfl,_,rfl,?_⟩
    refine iteP (fun h0=>absurd h0 (by omega)) (fun _=>?_)
    refine⟨fun m σ H'=>∃f:Int,σ=[some (.int n),some (.int f)]∧m=(n+2 - f).toNat∧(2≤f∧f≤n+1)∧H'=H,⟨_,_,rfl,rfl,⟨by omega,by omega⟩,rfl⟩,?_⟩
    rintro m σ H' ⟨f,rfl,rfl,⟨f2,fn⟩,rfl⟩
    have cm:CMul f f:=.inl ⟨by omega,by omega⟩
    refine⟨_,rfl,_,rfl,_,_,rfl,rfl,cm,_,rfl,_,_,rfl,rfl,_,rfl,?_⟩
    refine iteP (fun h0=>?_) (fun h0=>?_)
    · refine⟨fun σ' H''=>∃f':Int,σ'=[some (.int n),some (.int f')]∧(n+2 - f').toNat < (n+2 - f).toNat∧(2≤f'∧f'≤n+1)∧H''=H',fun σ' H'' ⟨f',e1,e2,e3,e4⟩=>⟨_,e2,f',e1,rfl,e3,e4⟩,?_⟩
      refine⟨_,rfl,_,rfl,_,_,rfl,rfl,(show f≠0 by omega),rfl,_,rfl,?_⟩
      have hs:=sq_le f2 h0
      refine iteI (fun h1=>absurd h1 (PP.2 f f2 h0)) (fun _=>?_)
      refine⟨_,rfl,_,_,rfl,rfl,?_⟩
      exact⟨_,rfl,by omega,⟨by omega,by omega⟩,rfl⟩
    · exact k
theorem ok_Residues___init__(T:Txt K mg t):FnOk Pr w K mg base CX0 2 t.Residues___init__ t.d_Residues___init__ ["self","prime"] (sp_init t.Residues):=by
  refine T.F_Residues___init__.ok sc_Residues___init__ (fun vs H Q E h=>?_) (fun cdv A outer s H vs Q E hr h=>?_)
  · obtain⟨x,dx,n,rfl,_⟩:=h
    rfl
  · obtain⟨x,dx,n,rfl,hn,hx,k⟩:=h
    refine⟨_,(pss_cons (ps_if (PW.pt (pw_or (pt_not (pt_val (pe_call (ok_is_whole T) (hr.mono (by decide)) rfl T.m_is_whole T.F_is_whole.kp T.b_is_whole .nil pass0 (pa_cons (pv 1) pa_nil)))) (pw_or (pt_cmpR op_gt (pv 1) (pe_glob (v:=.int 1000000) rfl T.c_GREATEST_PRIME.choose_spec ⟨_,rfl⟩) (nomark _)) (pw_or1 (pt_not (pt_val (pe_call (ok_is_prime T) (hr.mono (by decide)) rfl T.m_is_prime T.F_is_prime.kp T.b_is_prime .nil pass0 (pa_cons (pv 1) pa_nil)))))))) (pss_one ps_never) pss_nil) (pss_one (ps_fld (pv 0) (pv 1) rfl))),?_⟩
    refine⟨_,rfl,_,rfl,_,rfl,?_⟩
    (try refine iteF ?_)
    refine⟨_,rfl,_,_,rfl,rfl,_,rfl,?_⟩
    refine iteP (fun h0=>absurd h0 (by have:=hn.2.1;omega)) (fun _=>?_)
    refine⟨_,rfl,_,rfl,hn,_,rfl,?_⟩
    (try refine iteF ?_)
    refine⟨_,rfl,_,rfl,x,_,dx,_,rfl,hx,T.C_Residues,T.nP,(by show 0 < 1000;decide),?_⟩
    exact k
theorem ok_Fractions_nought(T:Txt K mg t):FnOk Pr w K mg base CX0 1 t.Fractions_nought t.d_Fractions_nought ["self"] (spNul t.Fractions [] frSR isFr Fr.zero):=by
  refine T.F_Fractions_nought.ok sc_Fractions_nought (fun vs H Q E h=>?_) (fun cdv A outer s H vs Q E hr h=>?_)
  · obtain⟨x,rfl,_⟩:=h
    rfl
  · obtain⟨x,rfl,_,k⟩:=h
    refine⟨_,(pss_one (ps_ret (pe_tup (pa_cons pe_int (pa_cons pe_int pa_nil))))),?_⟩
    exact⟨(by show 2≤sizeLine;decide),fun p hp=>k _ _ (same_upd hp) IsF.new⟩
theorem ok_Fractions_plus(T:Txt K mg t):FnOk Pr w K mg base CX0 38 t.Fractions_plus t.d_Fractions_plus ["self","x","y"] (spBin t.Fractions [] frSR isFr Fr.add):=by
  refine T.F_Fractions_plus.ok sc_Fractions_plus (fun vs H Q E h=>?_) (fun cdv A outer s H vs Q E hr h=>?_)
  · obtain⟨k,x,y,a,b,m,n,rfl,_⟩:=h
    rfl
  · obtain⟨k0,x,y,a,b,m,n,rfl,⟨_,⟨px,rfl,hx⟩,⟨py,rfl,hy⟩,sa,sb,hmn⟩,k⟩:=h
    have sa:a.sz m:=sa
    have sb:b.sz n:=sb
    have m1:CMulG a.t b.b:=mulG (n:=n) sa.1 sb.2 (by omega)
    have m2:CMulG b.t a.b:=mulG (n:=m) sb.1 sa.2 (by omega)
    have m3:CMulG a.b b.b:=mulG (n:=n) sa.2 sb.2 (by omega)
    refine⟨_,(pss_one (ps_ret (pe_call (ok_fraction T) (hr.mono (by decide)) rfl T.m_fraction T.F_fraction.kp T.b_fraction .nil pass0 (pa_cons (pe_op op_add (pe_op op_mulG (pe_ix ix_tup (pv 1) pe_int (fun _ _=>rfl)) (pe_ix ix_tup (pv 2) pe_int (fun _ _=>rfl))) (pe_op op_mulG (pe_ix ix_tup (pv 2) pe_int (fun _ _=>rfl)) (pe_ix ix_tup (pv 1) pe_int (fun _ _=>rfl)))) (pa_cons (pe_op op_mulG (pe_ix ix_tup (pv 1) pe_int (fun _ _=>rfl)) (pe_ix ix_tup (pv 2) pe_int (fun _ _=>rfl))) pa_nil))))),?_⟩
    (repeat (first | apply Exists.intro | refine And.intro rfl ?_ | refine And.intro (by with_reducible assumption) ?_ | refine And.intro (SqT.of (by assumption)) ?_ | refine And.intro (SqL.of (by assumption)) ?_ | refine And.intro (TyOf.int _) ?_ | refine And.intro (TyOf.tup (by assumption)) ?_ | refine And.intro T.k_ii ?_ | refine And.intro T.k_ib ?_ | refine And.intro T.nP ?_ | refine And.intro T.k_ss ?_ | refine And.intro T.k_ns ?_ | refine And.intro T.k_ls ?_ | refine And.intro T.k_is ?_ | refine And.intro T.k_ts ?_ | refine And.intro T.eU ?_ | refine And.intro T.vU ?_ | refine And.intro T.kUU ?_ | refine And.intro T.kUC ?_ | refine And.intro T.kUW ?_ | refine And.intro T.kUG ?_ | refine And.intro T.eC ?_ | refine And.intro T.vC ?_ | refine And.intro T.kCU ?_ | refine And.intro T.kCC ?_ | refine And.intro T.kCW ?_ | refine And.intro T.kCG ?_ | refine And.intro T.eW ?_ | refine And.intro T.vW ?_ | refine And.intro T.kWU ?_ | refine And.intro T.kWC ?_ | refine And.intro T.kWW ?_ | refine And.intro T.kWG ?_ | refine And.intro T.eG ?_ | refine And.intro T.vG ?_ | refine And.intro T.kGU ?_ | refine And.intro T.kGC ?_ | refine And.intro T.kGW ?_ | refine And.intro T.kGG ?_))
    exact⟨Int.mul_pos a.p b.p,k⟩
theorem ok_Fractions_times(T:Txt K mg t):FnOk Pr w K mg base CX0 38 t.Fractions_times t.d_Fractions_times ["self","x","y"] (spBin t.Fractions [] frSR isFr Fr.mul):=by
  refine T.F_Fractions_times.ok sc_Fractions_times (fun vs H Q E h=>?_) (fun cdv A outer s H vs Q E hr h=>?_)
  · obtain⟨k,x,y,a,b,m,n,rfl,_⟩:=h
    rfl
  · obtain⟨k0,x,y,a,b,m,n,rfl,⟨_,⟨px,rfl,hx⟩,⟨py,rfl,hy⟩,sa,sb,hmn⟩,k⟩:=h
    have sa:a.sz m:=sa
    have sb:b.sz n:=sb
    have m1:CMulG a.t b.t:=mulG (n:=n) sa.1 sb.1 (by omega)
    have m3:CMulG a.b b.b:=mulG (n:=n) sa.2 sb.2 (by omega)
    refine⟨_,(pss_one (ps_ret (pe_call (ok_fraction T) (hr.mono (by decide)) rfl T.m_fraction T.F_fraction.kp T.b_fraction .nil pass0 (pa_cons (pe_op op_mulG (pe_ix ix_tup (pv 1) pe_int (fun _ _=>rfl)) (pe_ix ix_tup (pv 2) pe_int (fun _ _=>rfl))) (pa_cons (pe_op op_mulG (pe_ix ix_tup (pv 1) pe_int (fun _ _=>rfl)) (pe_ix ix_tup (pv 2) pe_int (fun _ _=>rfl))) pa_nil))))),?_⟩
    (repeat (first | apply Exists.intro | refine And.intro rfl ?_ | refine And.intro (by with_reducible assumption) ?_ | refine And.intro (SqT.of (by assumption)) ?_ | refine And.intro (SqL.of (by assumption)) ?_ | refine And.intro (TyOf.int _) ?_ | refine And.intro (TyOf.tup (by assumption)) ?_ | refine And.intro T.k_ii ?_ | refine And.intro T.k_ib ?_ | refine And.intro T.nP ?_ | refine And.intro T.k_ss ?_ | refine And.intro T.k_ns ?_ | refine And.intro T.k_ls ?_ | refine And.intro T.k_is ?_ | refine And.intro T.k_ts ?_ | refine And.intro T.eU ?_ | refine And.intro T.vU ?_ | refine And.intro T.kUU ?_ | refine And.intro T.kUC ?_ | refine And.intro T.kUW ?_ | refine And.intro T.kUG ?_ | refine And.intro T.eC ?_ | refine And.intro T.vC ?_ | refine And.intro T.kCU ?_ | refine And.intro T.kCC ?_ | refine And.intro T.kCW ?_ | refine And.intro T.kCG ?_ | refine And.intro T.eW ?_ | refine And.intro T.vW ?_ | refine And.intro T.kWU ?_ | refine And.intro T.kWC ?_ | refine And.intro T.kWW ?_ | refine And.intro T.kWG ?_ | refine And.intro T.eG ?_ | refine And.intro T.vG ?_ | refine And.intro T.kGU ?_ | refine And.intro T.kGC ?_ | refine And.intro T.kGW ?_ | refine And.intro T.kGG ?_))
    exact⟨Int.mul_pos a.p b.p,k⟩
theorem ok_Residues_nought(T:Txt K mg t)(p:Int)(hp:2≤p):FnOk Pr w K mg base CX0 1 t.Residues_nought t.d_Residues_nought ["self"] (spNul t.Residues (pfs p) (resSR p hp) (isRe p) (resSR p hp).zero):=by
  refine T.F_Residues_nought.ok sc_Residues_nought (fun vs H Q E h=>?_) (fun cdv A outer s H vs Q E hr h=>?_)
  · obtain⟨x,rfl,_⟩:=h
    rfl
  · obtain⟨x,rfl,_,k⟩:=h
    refine⟨_,(pss_one (ps_ret pe_int)),?_⟩
    exact k _ _ (Same.refl _) rfl
theorem ok_Residues_plus(T:Txt K mg t)(p:Int)(hp:2≤p):FnOk Pr w K mg base CX0 1 t.Residues_plus t.d_Residues_plus ["self","x","y"] (spBin t.Residues (pfs p) (resSR p hp) (isRe p) (resSR p hp).add):=by
  refine T.F_Residues_plus.ok sc_Residues_plus (fun vs H Q E h=>?_) (fun cdv A outer s H vs Q E hr h=>?_)
  · obtain⟨k,x,y,a,b,m,n,rfl,_⟩:=h
    rfl
  · obtain⟨k0,x,y,a,b,m,n,rfl,⟨⟨q,dx,rfl,hq⟩,rfl,rfl,sa,sb,hmn⟩,k⟩:=h
    refine⟨_,(pss_one (ps_ret (pe_op op_modN (pe_op op_add (pv 1) (pv 2)) (pe_fld (pv 0) rfl)))),?_⟩
    refine⟨_,rfl,_,rfl,_,_,rfl,rfl,_,rfl,q,_,dx,_,_,rfl,hq,T.C_Residues,T.nP,pfs_prime p,_,_,rfl,rfl,(show p≠0 by omega),?_⟩
    exact k _ _ (Same.refl _) rfl
theorem ok_Residues_times(T:Txt K mg t)(p:Int)(hp:2≤p)(hq:p≤1000000):FnOk Pr w K mg base CX0 1 t.Residues_times t.d_Residues_times ["self","x","y"] (spBin t.Residues (pfs p) (resSR p hp) (isRe p) (resSR p hp).mul):=by
  refine T.F_Residues_times.ok sc_Residues_times (fun vs H Q E h=>?_) (fun cdv A outer s H vs Q E hr h=>?_)
  · obtain⟨k,x,y,a,b,m,n,rfl,_⟩:=h
    rfl
  · obtain⟨k0,x,y,a,b,m,n,rfl,⟨⟨q,dx,rfl,hk⟩,rfl,rfl,sa,sb,hmn⟩,k⟩:=h
    have cm:CMul a.x b.x:=.inl ⟨by have:=a.h0;omega,by have:=a.h1;omega⟩
    refine⟨_,(pss_one (ps_ret (pe_op op_modN (pe_op op_mul (pv 1) (pv 2)) (pe_fld (pv 0) rfl)))),?_⟩
    refine⟨_,rfl,_,rfl,_,_,rfl,rfl,cm,_,rfl,q,_,dx,_,_,rfl,hk,T.C_Residues,T.nP,pfs_prime p,_,_,rfl,rfl,(show p≠0 by omega),?_⟩
    exact k _ _ (Same.refl _) rfl
theorem ok_Costs_nought(T:Txt K mg t):FnOk Pr w K mg base CX0 1 t.Costs_nought t.d_Costs_nought ["self"] (spNul t.Costs [] costSR isCo costSR.zero):=by
  refine T.F_Costs_nought.ok sc_Costs_nought (fun vs H Q E h=>?_) (fun cdv A outer s H vs Q E hr h=>?_)
  · obtain⟨x,rfl,_⟩:=h
    rfl
  · obtain⟨x,rfl,_,k⟩:=h
    refine⟨_,(pss_one (ps_ret pe_non)),?_⟩
    exact k _ _ (Same.refl _) rfl
theorem ok_Costs_plus(T:Txt K mg t):FnOk Pr w K mg base CX0 1 t.Costs_plus t.d_Costs_plus ["self","x","y"] (spBin t.Costs [] costSR isCo costSR.add):=by
  refine T.F_Costs_plus.ok sc_Costs_plus (fun vs H Q E h=>?_) (fun cdv A outer s H vs Q E hr h=>?_)
  · obtain⟨k,x,y,a,b,m,n,rfl,_⟩:=h
    rfl
  · obtain⟨k0,x,y,a,b,m,n,rfl,⟨_,rfl,rfl,sa,sb,hmn⟩,k⟩:=h
    refine⟨_,(pss_cons (ps_if (pt_cmpR op_isN (pv 1) pe_non (nomark _)) (pss_one (ps_ret (pv 2))) pss_nil) (pss_cons (ps_if (pt_cmpR op_isN (pv 2) pe_non (nomark _)) (pss_one (ps_ret (pv 1))) pss_nil) (pss_one (ps_ret (pe_callB (call_min2 rfl) (by rfl) T.z_min boot_min (pa_cons (pv 1) (pa_cons (pv 2) pa_nil))))))),?_⟩
    have k':=k (cV (cAdd a b)) H (Same.refl _) rfl
    cases a with
    | none=>
      refine⟨_,rfl,rfl,_,rfl,?_⟩
      refine iteT ?_
      exact⟨_,rfl,k'⟩
    | some i=>
      refine⟨_,rfl,rfl,_,rfl,?_⟩
      refine iteF ?_
      cases b with
      | none=>
        refine⟨_,rfl,rfl,_,rfl,?_⟩
        refine iteT ?_
        exact⟨_,rfl,k'⟩
      | some j=>
        refine⟨_,rfl,rfl,_,rfl,?_⟩
        refine iteF ?_
        exact⟨_,rfl,_,rfl,_,_,rfl,k'⟩
theorem ok_Costs_times(T:Txt K mg t):FnOk Pr w K mg base CX0 1 t.Costs_times t.d_Costs_times ["self","x","y"] (spBin t.Costs [] costSR isCo costSR.mul):=by
  refine T.F_Costs_times.ok sc_Costs_times (fun vs H Q E h=>?_) (fun cdv A outer s H vs Q E hr h=>?_)
  · obtain⟨k,x,y,a,b,m,n,rfl,_⟩:=h
    rfl
  · obtain⟨k0,x,y,a,b,m,n,rfl,⟨_,rfl,rfl,sa,sb,hmn⟩,k⟩:=h
    refine⟨_,(pss_cons (ps_if (PW.pt (pw_or (pt_cmpR op_isN (pv 1) pe_non (nomark _)) (pw_or1 (pt_cmpR op_isN (pv 2) pe_non (nomark _))))) (pss_one (ps_ret pe_non)) pss_nil) (pss_one (ps_ret (pe_op op_add (pv 1) (pv 2))))),?_⟩
    have k':=k (cV (cMul a b)) H (Same.refl _) rfl
    cases a with
    | none=>
      refine⟨_,rfl,rfl,_,rfl,?_⟩
      refine iteT ?_
      (try refine iteT ?_)
      exact k'
    | some i=>
      refine⟨_,rfl,rfl,_,rfl,?_⟩
      refine iteF ?_
      cases b with
      | none=>
        refine⟨_,rfl,rfl,_,rfl,?_⟩
        (try refine iteT ?_)
        exact k'
      | some j=>
        refine⟨_,rfl,rfl,_,rfl,?_⟩
        (try refine iteF ?_)
        exact⟨_,rfl,_,rfl,_,_,rfl,rfl,k'⟩
theorem ok_Truths_nought(T:Txt K mg t):FnOk Pr w K mg base CX0 1 t.Truths_nought t.d_Truths_nought ["self"] (spNul t.Truths [] truthSR isTr truthSR.zero):=by
  refine T.F_Truths_nought.ok sc_Truths_nought (fun vs H Q E h=>?_) (fun cdv A outer s H vs Q E hr h=>?_)
  · obtain⟨x,rfl,_⟩:=h
    rfl
  · obtain⟨x,rfl,_,k⟩:=h
    refine⟨_,(pss_one (ps_ret pe_bl)),?_⟩
    exact k _ _ (Same.refl _) rfl
theorem ok_Truths_plus(T:Txt K mg t):FnOk Pr w K mg base CX0 1 t.Truths_plus t.d_Truths_plus ["self","x","y"] (spBin t.Truths [] truthSR isTr truthSR.add):=by
  refine T.F_Truths_plus.ok sc_Truths_plus (fun vs H Q E h=>?_) (fun cdv A outer s H vs Q E hr h=>?_)
  · obtain⟨k,x,y,a,b,m,n,rfl,_⟩:=h
    rfl
  · obtain⟨k0,x,y,a,b,m,n,rfl,⟨_,rfl,rfl,sa,sb,hmn⟩,k⟩:=h
    refine⟨_,(pss_one (ps_ret (pe_or (pv 1) (pe_one (pv 2))))),?_⟩
    have k':=k (.bl (a || b)) H (Same.refl _) rfl
    cases a with
    | true=>exact⟨_,rfl,_,rfl,iteT k'⟩
    | false=>exact⟨_,rfl,_,rfl,iteF ⟨_,rfl,k'⟩⟩
theorem ok_Truths_times(T:Txt K mg t):FnOk Pr w K mg base CX0 1 t.Truths_times t.d_Truths_times ["self","x","y"] (spBin t.Truths [] truthSR isTr truthSR.mul):=by
  refine T.F_Truths_times.ok sc_Truths_times (fun vs H Q E h=>?_) (fun cdv A outer s H vs Q E hr h=>?_)
  · obtain⟨k,x,y,a,b,m,n,rfl,_⟩:=h
    rfl
  · obtain⟨k0,x,y,a,b,m,n,rfl,⟨_,rfl,rfl,sa,sb,hmn⟩,k⟩:=h
    refine⟨_,(pss_one (ps_ret (pe_and (pv 1) (pe_one (pv 2))))),?_⟩
    have k':=k (.bl (a && b)) H (Same.refl _) rfl
    cases a with
    | true=>exact⟨_,rfl,_,rfl,iteT ⟨_,rfl,k'⟩⟩
    | false=>exact⟨_,rfl,_,rfl,iteF k'⟩
theorem ok_Fractions_one(T:Txt K mg t):FnOk Pr w K mg base CX0 1 t.Fractions_one t.d_Fractions_one ["self"] (spNul t.Fractions [] frSR isFr Fr.one):=by
  refine T.F_Fractions_one.ok sc_Fractions_one (fun vs H Q E h=>?_) (fun cdv A outer s H vs Q E hr h=>?_)
  · obtain⟨x,rfl,_⟩:=h
    rfl
  · obtain⟨x,rfl,_,k⟩:=h
    refine⟨_,(pss_one (ps_ret (pe_tup (pa_cons pe_int (pa_cons pe_int pa_nil))))),?_⟩
    exact⟨(by show 2≤sizeLine;decide),fun p hp=>k _ _ (same_upd hp) IsF.new⟩
theorem ok_Residues_one(T:Txt K mg t)(p:Int)(hp:2≤p):FnOk Pr w K mg base CX0 1 t.Residues_one t.d_Residues_one ["self"] (spNul t.Residues (pfs p) (resSR p hp) (isRe p) (resSR p hp).one):=by
  refine T.F_Residues_one.ok sc_Residues_one (fun vs H Q E h=>?_) (fun cdv A outer s H vs Q E hr h=>?_)
  · obtain⟨x,rfl,_⟩:=h
    rfl
  · obtain⟨x,rfl,_,k⟩:=h
    refine⟨_,(pss_one (ps_ret pe_int)),?_⟩
    exact k _ _ (Same.refl _) rfl
theorem ok_Costs_one(T:Txt K mg t):FnOk Pr w K mg base CX0 1 t.Costs_one t.d_Costs_one ["self"] (spNul t.Costs [] costSR isCo costSR.one):=by
  refine T.F_Costs_one.ok sc_Costs_one (fun vs H Q E h=>?_) (fun cdv A outer s H vs Q E hr h=>?_)
  · obtain⟨x,rfl,_⟩:=h
    rfl
  · obtain⟨x,rfl,_,k⟩:=h
    refine⟨_,(pss_one (ps_ret pe_int)),?_⟩
    exact k _ _ (Same.refl _) rfl
theorem ok_Truths_one(T:Txt K mg t):FnOk Pr w K mg base CX0 1 t.Truths_one t.d_Truths_one ["self"] (spNul t.Truths [] truthSR isTr truthSR.one):=by
  refine T.F_Truths_one.ok sc_Truths_one (fun vs H Q E h=>?_) (fun cdv A outer s H vs Q E hr h=>?_)
  · obtain⟨x,rfl,_⟩:=h
    rfl
  · obtain⟨x,rfl,_,k⟩:=h
    refine⟨_,(pss_one (ps_ret pe_bl)),?_⟩
    exact k _ _ (Same.refl _) rfl
def R_fr(T:Txt K mg t):KindR Pr w K mg base where
  S:=frSR
  C:=t.Fractions
  fs:=[]
  cl:=T.C_Fractions
  is:=isFr
  same e h:=IsF.same e h
  isd h:=IsF.is h
  f_plus:=_
  d_plus:=_
  t_plus:=T.t_Fractions_plus
  b_plus:=T.b_Fractions_plus
  l_plus:=rfl
  G_plus:=(ok_Fractions_plus T).mono (by decide)
  f_times:=_
  d_times:=_
  t_times:=T.t_Fractions_times
  b_times:=T.b_Fractions_times
  l_times:=rfl
  G_times:=(ok_Fractions_times T).mono (by decide)
  f_nought:=_
  d_nought:=_
  t_nought:=T.t_Fractions_nought
  b_nought:=T.b_Fractions_nought
  l_nought:=rfl
  G_nought:=(ok_Fractions_nought T).mono (by decide)
  f_one:=_
  d_one:=_
  t_one:=T.t_Fractions_one
  b_one:=T.b_Fractions_one
  l_one:=rfl
  G_one:=(ok_Fractions_one T).mono (by decide)
def R_re(T:Txt K mg t)(p:Int)(hp:2≤p)(hq:p≤1000000):KindR Pr w K mg base where
  S:=resSR p hp
  C:=t.Residues
  fs:=pfs p
  cl:=T.C_Residues
  is:=isRe p
  same _ h:=h
  isd {H v x} h:=by cases (show v=.int x.x from h);exact .int _
  f_plus:=_
  d_plus:=_
  t_plus:=T.t_Residues_plus
  b_plus:=T.b_Residues_plus
  l_plus:=pfs_no p (by decide +kernel)
  G_plus:=(ok_Residues_plus T p hp).mono (by decide)
  f_times:=_
  d_times:=_
  t_times:=T.t_Residues_times
  b_times:=T.b_Residues_times
  l_times:=pfs_no p (by decide +kernel)
  G_times:=(ok_Residues_times T p hp hq).mono (by decide)
  f_nought:=_
  d_nought:=_
  t_nought:=T.t_Residues_nought
  b_nought:=T.b_Residues_nought
  l_nought:=pfs_no p (by decide +kernel)
  G_nought:=(ok_Residues_nought T p hp).mono (by decide)
  f_one:=_
  d_one:=_
  t_one:=T.t_Residues_one
  b_one:=T.b_Residues_one
  l_one:=pfs_no p (by decide +kernel)
  G_one:=(ok_Residues_one T p hp).mono (by decide)
def R_co(T:Txt K mg t):KindR Pr w K mg base where
  S:=costSR
  C:=t.Costs
  fs:=[]
  cl:=T.C_Costs
  is:=isCo
  same _ h:=h
  isd {H v x} h:=by
    cases (show v=cV x from h)
    cases x with
    | none=>exact .non
    | some i=>exact .int i
  f_plus:=_
  d_plus:=_
  t_plus:=T.t_Costs_plus
  b_plus:=T.b_Costs_plus
  l_plus:=rfl
  G_plus:=(ok_Costs_plus T).mono (by decide)
  f_times:=_
  d_times:=_
  t_times:=T.t_Costs_times
  b_times:=T.b_Costs_times
  l_times:=rfl
  G_times:=(ok_Costs_times T).mono (by decide)
  f_nought:=_
  d_nought:=_
  t_nought:=T.t_Costs_nought
  b_nought:=T.b_Costs_nought
  l_nought:=rfl
  G_nought:=(ok_Costs_nought T).mono (by decide)
  f_one:=_
  d_one:=_
  t_one:=T.t_Costs_one
  b_one:=T.b_Costs_one
  l_one:=rfl
  G_one:=(ok_Costs_one T).mono (by decide)
def R_tr(T:Txt K mg t):KindR Pr w K mg base where
  S:=truthSR
  C:=t.Truths
  fs:=[]
  cl:=T.C_Truths
  is:=isTr
  same _ h:=h
  isd {H v x} h:=by cases (show v=.bl x from h);exact .bl x
  f_plus:=_
  d_plus:=_
  t_plus:=T.t_Truths_plus
  b_plus:=T.b_Truths_plus
  l_plus:=rfl
  G_plus:=(ok_Truths_plus T).mono (by decide)
  f_times:=_
  d_times:=_
  t_times:=T.t_Truths_times
  b_times:=T.b_Truths_times
  l_times:=rfl
  G_times:=(ok_Truths_times T).mono (by decide)
  f_nought:=_
  d_nought:=_
  t_nought:=T.t_Truths_nought
  b_nought:=T.b_Truths_nought
  l_nought:=rfl
  G_nought:=(ok_Truths_nought T).mono (by decide)
  f_one:=_
  d_one:=_
  t_one:=T.t_Truths_one
  b_one:=T.b_Truths_one
  l_one:=rfl
  G_one:=(ok_Truths_one T).mono (by decide)
inductive So(T:Txt K mg t):KindR Pr w K mg base→Str→Int→Prop
  | fr:So T (R_fr T) "fractions" 0
  | re (p:Int) (hp:2≤p) (hq:p≤1000000) (hi:isP p=true):So T (R_re T p hp hq) "residues" p
  | co:So T (R_co T) "costs" 0
  | tr:So T (R_tr T) "truths" 0
def SortAt(H:Hp)(v:V)(nm:Str)(p:Int):Prop:=∃q,v=.ref q∧H q=some (.tup [.str nm,.int p])
theorem SortAt.same{H H':Hp}{v:V}{nm:Str}{p:Int}(s:SameT H H')(h:SortAt H v nm p):SortAt H' v nm p:=by
  obtain⟨q,rfl,e⟩:=h
  exact⟨q,rfl,s _ _ e⟩
def sp_column_at(w:World)(K:PySem.W.Frag)(mg:Str→Option Value)(base:Heap):Sp:=fun vs H Q _=>∃(R:KindR Pr w K mg base),∃tb,∃(z:Int),∃(i:Nat),∃h n x m,vs=[tb,.int z]∧(R.Tab h n x m tb H∧i < n∧h≤1000∧z=i)∧
  ∀v H',Same H H'→R.Row h (fun j=>x j i) m v H'→Q v H'
theorem ok_column_at(T:Txt K mg t):FnOk Pr w K mg base CX0 1 t.column_at t.d_column_at ["table","place"] (sp_column_at w K mg base):=by
  refine T.F_column_at.ok sc_column_at (fun vs H Q E h=>?_) (fun cdv A outer s H vs Q E hr h=>?_)
  · obtain⟨R,tb,z,i,h,n,x,m,rfl,_⟩:=h
    rfl
  · obtain⟨R,tb,z,i,h,n,x,m,rfl,⟨⟨p,rows,rfl,hp,ent⟩,hi,hh,rfl⟩,k⟩:=h
    refine⟨_,(pss_one (ps_ret (pe_callTy call_tuple_of (by rfl) T.z_tuple boot_tuple (pa_cons (pe_comp (xs:=["row"]) rfl (show CompOk ["table","place"] (defScope s_column_at) _ from⟨rfl,by decide +kernel,by decide +kernel,by decide +kernel,by decide +kernel,by decide +kernel⟩) (pi_tup (pv 0)) (fun _ _ _ _ _=>(pg_name (i:=2) (by show List.Nodup (["table","place","row"]:List Str);decide +kernel) rfl (Or.inl rfl))) (fun _ _ _ _ _=>(pe_ix (show IxR _ (rIxT K)from ix_tup) (pv 2) (pv 1) (fun _ _=>rfl)))) pa_nil)))),?_⟩
    refine⟨_,rfl,p,rfl,⟨_,SqT.of hp⟩,comp_go (n:=h) (fun j ys H2=>Ents (R.Wt (fun j=>x j i) m) ys j H∧H2=H) hh ⟨Ents.nil,rfl⟩ (fun j ys H2 q=>q.1.1) ?_ ?_ ?_⟩
    · rintro j ys H2 hj ⟨e,rfl⟩
      obtain⟨u,eu,pu⟩:=ent.2 j hj
      refine⟨⟨_,_,SqT.of hp,eu⟩,fun y H' hy=>?_⟩
      obtain⟨rfl,hy⟩:=hy
      have:=hy _ (SqT.of hp)
      rw[eu]at this
      cases this
      obtain⟨q,cs,rfl,hq,ec⟩:=pu
      obtain⟨z,ez,pz⟩:=ec.2 i hi
      refine⟨⟨[some (.ref q)],rfl,rfl⟩,_,rfl,_,rfl,_,_,_,_,rfl,rfl,SqT.of hq,atI_nat ez,?_⟩
      exact⟨e.snoc pz,rfl⟩
    · rintro ys H2 ⟨e,rfl⟩
      exact⟨_,SqT.of hp,by rw[ent.1];exact Nat.le_refl _⟩
    · rintro ys H2 l ⟨e,rfl⟩ nl
      have s1:=same_upd (o:=.lst ys) nl
      refine⟨l,ys,rfl,.inl ⟨SqL.of upd_same,fun l2 n2=>?_⟩⟩
      have s2:=same_upd (o:=.tup ys) n2
      exact k _ _ (s1.trans s2) ⟨l2,ys,rfl,upd_same,e.mono fun _ _ _ q=>KindR.Wt.same (s1.trans s2).t q⟩
def sp_columns_of(w:World)(K:PySem.W.Frag)(mg:Str→Option Value)(base:Heap):Sp:=fun vs H Q _=>∃(R:KindR Pr w K mg base),∃tb h n x m,vs=[tb]∧(R.Tab h n x m tb H∧h≤1000∧n≤1000)∧
  ∀v H',Same H H'→R.Tab (if h=0 then 0 else n) h (fun j i=>x i j) m v H'→Q v H'
theorem ok_columns_of(T:Txt K mg t):FnOk Pr w K mg base CX0 2 t.columns_of t.d_columns_of ["table"] (sp_columns_of w K mg base):=by
  refine T.F_columns_of.ok sc_columns_of (fun vs H Q E h=>?_) (fun cdv A outer s H vs Q E hr h=>?_)
  · obtain⟨R,tb,h,n,x,m,rfl,_⟩:=h
    rfl
  · obtain⟨R,tb,h,n,x,m,rfl,⟨ht,hh,hn⟩,k⟩:=h
    refine⟨_,(pss_cons (ps_if (pt_cmpR op_eq (pe_callB call_len (by rfl) T.z_len PySem.boot_len (pa_cons (pv 0) pa_nil)) pe_int (nomark _)) (pss_one (ps_ret (pe_tup pa_nil))) pss_nil) (pss_one (ps_ret (pe_callTy call_tuple_of (by rfl) T.z_tuple boot_tuple (pa_cons (pe_comp (xs:=["place"]) rfl (show CompOk ["table"] (defScope s_columns_of) _ from⟨rfl,by decide +kernel,by decide +kernel,by decide +kernel,by decide +kernel,by decide +kernel⟩) (pi_range1 rfl T.z_range (pa_cons (pe_callB call_len (by rfl) T.z_len PySem.boot_len (pa_cons (pe_ix ix_tup (pv 0) pe_int (fun _ _=>rfl)) pa_nil)) pa_nil)) (fun _ _ _ _ _=>(pg_name (i:=1) (by show List.Nodup (["table","place"]:List Str);decide +kernel) rfl (Or.inl rfl))) (fun _ _ _ _ _=>(pe_call (ok_column_at (w:=w) (base:=base) T) (hr.mono (by decide)) rfl T.m_column_at T.F_column_at.kp T.b_column_at .nil pass0 (pa_cons (pv 0) (pa_cons (pv 1) pa_nil))))) pa_nil))))),?_⟩
    refine⟨_,rfl,_,_,rfl,ht.len,rfl,_,rfl,?_⟩
    refine iteI (fun e0=>?_) (fun e0=>?_)
    · have e:h=0:=by omega
      subst e
      refine⟨(by show 0≤sizeLine;decide),fun p np=>k _ _ (same_upd np) ⟨p,[],rfl,upd_same,Ents.nil⟩⟩
    · obtain⟨p,rows,rfl,hp,ent⟩:=ht
      obtain⟨u,eu,pu⟩:=ent.2 0 (by omega)
      have e0:h≠0:=by omega
      rw[if_neg e0]at k
      refine⟨_,rfl,_,_,_,_,rfl,rfl,SqT.of hp,atI_nat (j:=0) eu,_,_,rfl,pu.len,_,rfl,(by omega),(by omega),comp_go (n:=n) (fun j ys H2=>Same H H2∧Ents (fun j u H=>R.Row h (fun i=>x i j) m u H) ys j H2) hn ⟨Same.refl _,Ents.nil⟩ (fun j ys H2 q=>q.2.1) ?_ ?_ ?_⟩
      · rintro j ys H2 hj ⟨q,e⟩
        refine⟨(show j < (n:Int).toNat by omega),fun y H' hy=>?_⟩
        obtain⟨rfl,rfl⟩:=hy
        refine⟨⟨[some (.int (0+(j:Int)))],rfl,rfl⟩,_,rfl,_,rfl,R,_,_,j,h,n,x,m,rfl,⟨KindR.Tab.same q.t ⟨p,rows,rfl,hp,ent⟩,hj,hh,by omega⟩,fun v H3 s3 r3=>?_⟩
        exact⟨q.trans s3,(e.mono fun _ _ _ z=>KindR.Row.same s3.t z).snoc r3⟩
      · rintro ys H2 ⟨q,e⟩
        show(n:Int).toNat≤n
        omega
      · rintro ys H2 l ⟨q,e⟩ nl
        have s1:=same_upd (o:=.lst ys) nl
        refine⟨l,ys,rfl,.inl ⟨SqL.of upd_same,fun l2 n2=>?_⟩⟩
        have s2:=same_upd (o:=.tup ys) n2
        exact k _ _ (q.trans (s1.trans s2)) ⟨l2,ys,rfl,upd_same,e.mono fun _ _ _ z=>KindR.Row.same (s1.trans s2).t z⟩
def dotW(S:SR)(x y:Nat→S.W)(n:Nat):S.W:=sm S (fun i=>S.mul (x i) (y i)) n
theorem sm_lv{S:SR}{f:Nat→S.W}{k:Nat}:∀{n:Nat},(∀i,i < n→S.lv k 1 (f i))→S.lv k n (sm S f n)
  | 0,_=>S.lv_zero k
  | n+1,h=>S.lv_add _ _ _ _ _ (sm_lv fun i hi=>h i (Nat.lt_succ_of_lt hi)) (h n (Nat.lt_succ_self n))
theorem dot_sz{S:SR}{x y:Nat→S.W}{m m' n:Nat}(hx:∀i,i < n→S.lv m 32 (x i))(hy:∀i,i < n→S.lv m' 32 (y i)):S.lv (m+m') n (dotW S x y n):=sm_lv fun i hi=>S.lv_mul _ _ _ _ (hx i hi) (hy i hi)
theorem wt_sz{R:KindR Pr w K mg base}{x:Nat→R.S.W}{m n:Nat}{ys:List V}{H:Hp}(e:Ents (R.Wt x m) ys n H):∀i,i < n→R.S.lv m 32 (x i):=fun i hi=>by
  obtain⟨_,_,q⟩:=e.2 i hi
  exact q.2
def sp_dot(w:World)(K:PySem.W.Frag)(mg:Str→Option Value)(base:Heap):Sp:=fun vs H Q _=>∃(R:KindR Pr w K mg base),∃kv row col n x y m m',vs=[kv,row,col]∧(KAt R.C R.fs H kv∧R.Seq n x m row H∧R.Seq n y m' col H∧n≤32∧m+m'≤100000)∧
  ∀v H',Same H H'→R.is H' v (dotW R.S x y n)→R.S.lv (m+m') 32 (dotW R.S x y n)→Q v H'
theorem ok_dot(T:Txt K mg t):FnOk Pr w K mg base CX0 41 t.dot t.d_dot ["kind","row","column"] (sp_dot w K mg base):=by
  refine T.F_dot.ok sc_dot (fun vs H Q E h=>?_) (fun cdv A outer s H vs Q E hr h=>?_)
  · obtain⟨R,kv,row,col,n,x,y,m,m',rfl,_⟩:=h
    rfl
  · obtain⟨R,kv,row,col,n,x,y,m,m',rfl,⟨⟨kp,dx,rfl,hk⟩,⟨S1,xs,o1,v1,w1,e1⟩,⟨S2,ys,o2,v2,w2,e2⟩,hz⟩,k⟩:=h
    refine⟨_,(pss_cons (ps_set (i:=3) sc_dot.nd rfl (Or.inl rfl) (pe_meth0 (pv 0) R.cl R.t_nought R.G_nought (hr.mono (by decide)) R.b_nought .nil pass0)) (pss_cons (ps_for PassesOwn.never rfl (pi_zip rfl T.z_zip (pa_cons (pv 1) (pa_cons (pv 2) pa_nil))) (pg_tup rfl (pgs_cons (pg_name (i:=4) sc_dot.nd rfl (Or.inl rfl)) (pgs_cons (pg_name (i:=5) sc_dot.nd rfl (Or.inl rfl)) pgs_nil))) (pss_one (ps_set (i:=3) sc_dot.nd rfl (Or.inl rfl) (pe_meth (pv 0) R.cl R.t_plus R.G_plus (hr.mono (by decide)) R.b_plus .nil pass0 (pa_cons (pv 3) (pa_cons (pe_meth (pv 0) R.cl R.t_times R.G_times (hr.mono (by decide)) R.b_times .nil pass0 (pa_cons (pv 4) (pa_cons (pv 5) pa_nil))) pa_nil)))))) (pss_one (ps_ret (pv 3))))),?_⟩
    refine⟨_,rfl,_,_,_,rfl,hk,R.l_nought,_,rfl,⟨_,_,rfl,hk⟩,fun z H1 s1 f1=>?_⟩
    refine⟨_,rfl,_,rfl,S1,S2,_,_,xs,ys,rfl,o1,o2,(w1 _ s1).1,(w2 _ s1).1,for_zip (K:=K) (xs:=xs) (ys:=ys) (fun i σ H2=>∃tot v4 v5,σ=[some (.ref kp),some row,some col,some tot,v4,v5]∧Same H H2∧R.is H2 tot (dotW R.S x y i)) (by rw[e1.1,e2.1]) ⟨_,_,_,rfl,s1,f1⟩ (fun i σ H2 _ ⟨_,_,_,_,q,_⟩=>⟨(w1 _ q).1,(w2 _ q).1⟩) ?_ ?_⟩
    · rintro i u v p σ H2 hu hv np ⟨tot,v4,v5,rfl,q,f⟩
      obtain⟨hi,pu⟩:=e1.at hu
      obtain⟨_,pv⟩:=e2.at hv
      have sp:=same_upd (o:=.tup [u,v]) np
      have q2:=q.trans sp
      refine⟨p,_,rfl,SqT.of upd_same,rfl,_,_,rfl,_,_,rfl,rfl,?_⟩
      refine⟨_,rfl,_,_,_,rfl,q2 _ _ hk,R.l_plus,_,rfl,_,rfl,_,_,_,rfl,q2 _ _ hk,R.l_times,_,rfl,_,rfl,_,_,_,_,_,100 * m,100 * m',rfl,⟨⟨_,_,rfl,q2 _ _ hk⟩,R.same q2.t pu.1,R.same q2.t pv.1,R.S.lv_sz _ _ _ (by decide) pu.2,R.S.lv_sz _ _ _ (by decide) pv.2,by omega⟩,fun pr H3 s3 f3=>?_⟩
      have q3:=q2.trans s3
      refine⟨_,_,_,_,_,100 * (m+m'),100 * (m+m'),rfl,⟨⟨_,_,rfl,q3 _ _ hk⟩,R.same (sp.trans s3).t f,f3,R.S.lv_sz _ _ _ (by omega) (dot_sz (fun j hj=>wt_sz e1 j (Nat.lt_trans hj hi)) (fun j hj=>wt_sz e2 j (Nat.lt_trans hj hi))),R.S.lv_sz _ _ _ (by decide) (R.S.lv_mul _ _ _ _ pu.2 pv.2),by omega⟩,fun tt H4 s4 f4=>?_⟩
      exact⟨_,_,_,rfl,q3.trans s4,f4⟩
    · rintro σ H2 ⟨tot,v4,v5,rfl,q,f⟩
      rw[e1.1]at f
      exact⟨_,rfl,k _ _ q f (R.S.lv_mono _ _ _ _ hz.1 (dot_sz (wt_sz e1) (wt_sz e2)))⟩
def sp_row_by(w:World)(K:PySem.W.Frag)(mg:Str→Option Value)(base:Heap):Sp:=fun vs H Q _=>∃(R:KindR Pr w K mg base),∃kv row tb h n x A m m',vs=[kv,row,tb]∧(KAt R.C R.fs H kv∧R.Seq h x m row H∧R.Tab h n A m' tb H∧h≤1000∧n≤1000∧h≤32∧m+m'≤100000)∧
  ∀v H',Same H H'→R.Row (if h=0 then 0 else n) (fun j=>dotW R.S x (fun i=>A i j) h) (m+m') v H'→Q v H'
theorem ok_row_by(T:Txt K mg t):FnOk Pr w K mg base CX0 42 t.row_by t.d_row_by ["kind","row","table"] (sp_row_by w K mg base):=by
  refine T.F_row_by.ok sc_row_by (fun vs H Q E h=>?_) (fun cdv A outer s H vs Q E hr h=>?_)
  · obtain⟨R,kv,row,tb,h,n,x,A,m,m',rfl,_⟩:=h
    rfl
  · obtain⟨R,kv,row,tb,h,n,x,B,m,m',rfl,⟨hk,hx,ht,hh,hn,hz⟩,k⟩:=h
    refine⟨_,(pss_one (ps_ret (pe_callTy call_tuple_of (by rfl) T.z_tuple boot_tuple (pa_cons (pe_comp (xs:=["column"]) rfl (show CompOk ["kind","row","table"] (defScope s_row_by) _ from⟨rfl,by decide +kernel,by decide +kernel,by decide +kernel,by decide +kernel,by decide +kernel⟩) (pi_tup (pe_call (ok_columns_of T) (hr.mono (by decide)) rfl T.m_columns_of T.F_columns_of.kp T.b_columns_of .nil pass0 (pa_cons (pv 2) pa_nil))) (fun _ _ _ _ _=>(pg_name (i:=3) (by show List.Nodup (["kind","row","table","column"]:List Str);decide +kernel) rfl (Or.inl rfl))) (fun _ _ _ _ _=>(pe_call (ok_dot (w:=w) (base:=base) T) (hr.mono (by decide)) rfl T.m_dot T.F_dot.kp T.b_dot .nil pass0 (pa_cons (pv 0) (pa_cons (pv 1) (pa_cons (pv 3) pa_nil)))))) pa_nil)))),?_⟩
    refine⟨_,rfl,R,_,h,n,B,m',rfl,⟨ht,hh,hn⟩,?_⟩
    rintro cv H1 s1 ⟨p,cols,rfl,hp,ent⟩
    refine⟨p,rfl,⟨_,SqT.of hp⟩,comp_go (n:=if h=0 then 0 else n) (fun j ys H2=>Same H1 H2∧Ents (R.Wt (fun j=>dotW R.S x (fun i=>B i j) h) (m+m')) ys j H2) (by split <;>omega) ⟨Same.refl _,Ents.nil⟩ (fun j ys H2 q=>q.2.1) ?_ ?_ ?_⟩
    · rintro j ys H2 hj ⟨q,e⟩
      obtain⟨u,eu,pu⟩:=ent.2 j hj
      refine⟨⟨_,_,SqT.of (q _ _ hp),eu⟩,fun y H' hy=>?_⟩
      obtain⟨rfl,hy⟩:=hy
      have:=hy _ (SqT.of (q _ _ hp))
      rw[eu]at this
      cases this
      refine⟨⟨[some _],rfl,rfl⟩,_,rfl,_,rfl,_,rfl,R,_,_,_,h,x,(fun i=>B i j),m,m',rfl,⟨hk.same (s1.trans q),KindR.Seq.same (s1.trans q) hx,(KindR.Row.same q.t pu).seq,hz⟩,fun v H3 s3 f3 z3=>?_⟩
      exact⟨q.trans s3,(e.mono fun _ _ _ z=>KindR.Wt.same s3.t z).snoc ⟨f3,z3⟩⟩
    · rintro ys H2 ⟨q,e⟩
      exact⟨_,SqT.of (q _ _ hp),by rw[ent.1];exact Nat.le_refl _⟩
    · rintro ys H2 l ⟨q,e⟩ nl
      have s1':=same_upd (o:=.lst ys) nl
      refine⟨l,ys,rfl,.inl ⟨SqL.of upd_same,fun l2 n2=>?_⟩⟩
      have s2:=same_upd (o:=.tup ys) n2
      exact k _ _ ((s1.trans q).trans (s1'.trans s2)) ⟨l2,ys,rfl,upd_same,e.mono fun _ _ _ z=>KindR.Wt.same (s1'.trans s2).t z⟩
def sp_by_column(w:World)(K:PySem.W.Frag)(mg:Str→Option Value)(base:Heap):Sp:=fun vs H Q _=>∃(R:KindR Pr w K mg base),∃kv tb col h n A y m m',vs=[kv,tb,col]∧(KAt R.C R.fs H kv∧R.Tab h n A m tb H∧R.Seq n y m' col H∧h≤1000∧n≤32∧m+m'≤100000)∧
  ∀v H',Same H H'→R.Row h (fun i=>dotW R.S (A i) y n) (m+m') v H'→Q v H'
theorem ok_by_column(T:Txt K mg t):FnOk Pr w K mg base CX0 42 t.by_column t.d_by_column ["kind","table","column"] (sp_by_column w K mg base):=by
  refine T.F_by_column.ok sc_by_column (fun vs H Q E h=>?_) (fun cdv A outer s H vs Q E hr h=>?_)
  · obtain⟨R,kv,tb,col,h,n,A,y,m,m',rfl,_⟩:=h
    rfl
  · obtain⟨R,kv,tb,col,h,n,B,y,m,m',rfl,⟨hk,⟨p,rows,rfl,hp,ent⟩,hy,hh,hz⟩,k⟩:=h
    refine⟨_,(pss_one (ps_ret (pe_callTy call_tuple_of (by rfl) T.z_tuple boot_tuple (pa_cons (pe_comp (xs:=["row"]) rfl (show CompOk ["kind","table","column"] (defScope s_by_column) _ from⟨rfl,by decide +kernel,by decide +kernel,by decide +kernel,by decide +kernel,by decide +kernel⟩) (pi_tup (pv 1)) (fun _ _ _ _ _=>(pg_name (i:=3) (by show List.Nodup (["kind","table","column","row"]:List Str);decide +kernel) rfl (Or.inl rfl))) (fun _ _ _ _ _=>(pe_call (ok_dot (w:=w) (base:=base) T) (hr.mono (by decide)) rfl T.m_dot T.F_dot.kp T.b_dot .nil pass0 (pa_cons (pv 0) (pa_cons (pv 3) (pa_cons (pv 2) pa_nil)))))) pa_nil)))),?_⟩
    refine⟨_,rfl,p,rfl,⟨_,SqT.of hp⟩,comp_go (n:=h) (fun j ys H2=>Same H H2∧Ents (R.Wt (fun i=>dotW R.S (B i) y n) (m+m')) ys j H2) hh ⟨Same.refl _,Ents.nil⟩ (fun j ys H2 q=>q.2.1) ?_ ?_ ?_⟩
    · rintro j ys H2 hj ⟨q,e⟩
      obtain⟨u,eu,pu⟩:=ent.2 j hj
      refine⟨⟨_,_,SqT.of (q _ _ hp),eu⟩,fun y' H' hy'=>?_⟩
      obtain⟨rfl,hy'⟩:=hy'
      have:=hy' _ (SqT.of (q _ _ hp))
      rw[eu]at this
      cases this
      refine⟨⟨[some _],rfl,rfl⟩,_,rfl,_,rfl,_,rfl,R,_,_,_,n,B j,y,m,m',rfl,⟨hk.same q,(KindR.Row.same q.t pu).seq,KindR.Seq.same q hy,hz⟩,fun v H3 s3 f3 z3=>?_⟩
      exact⟨q.trans s3,(e.mono fun _ _ _ z=>KindR.Wt.same s3.t z).snoc ⟨f3,z3⟩⟩
    · rintro ys H2 ⟨q,e⟩
      exact⟨_,SqT.of (q _ _ hp),by rw[ent.1];exact Nat.le_refl _⟩
    · rintro ys H2 l ⟨q,e⟩ nl
      have s1':=same_upd (o:=.lst ys) nl
      refine⟨l,ys,rfl,.inl ⟨SqL.of upd_same,fun l2 n2=>?_⟩⟩
      have s2:=same_upd (o:=.tup ys) n2
      exact k _ _ (q.trans (s1'.trans s2)) ⟨l2,ys,rfl,upd_same,e.mono fun _ _ _ z=>KindR.Wt.same (s1'.trans s2).t z⟩
def Dr(H:Hp)(a:Addr):Prop:=∃x:Int,H a=some (.lst [.int x])∨∃d:Int,H a=some (.lst [.int d,.int x])
def SameX(a:Addr)(H H':Hp):Prop:=∀b o,b≠a→H b=some o→H' b=some o
theorem SameX.refl(a:Addr)(H:Hp):SameX a H H:=fun _ _ _ h=>h
theorem SameX.trans{a:Addr}{H H1 H2:Hp}(x:SameX a H H1)(y:SameX a H1 H2):SameX a H H2:=fun b o n h=>y b o n (x b o n h)
theorem SameX.upd{a:Addr}{H:Hp}{o:HO}:SameX a H (upd H a o):=fun b u n h=>by rw[upd_ne n];exact h
theorem SameX.of{a:Addr}{H H':Hp}(x:Same H H'):SameX a H H':=fun b o _ h=>x b o h
def sp_next:Sp:=fun vs H Q _=>∃(a:Addr) (m:Int),vs=[.ref a,.int m]∧(Dr H a∧0 < m∧m≤1000000000000000)∧∀(r:Int) H',SameX a H H'→Dr H' a→0≤r→r < m→Q (.int r) H'
def sp_state(K:PySem.W.Frag):Sp:=fun vs H Q _=>∃(a:Addr) (ns:List Int),vs=[.ref a]∧SqL K H a (ns.map V.int)∧ns.length≤63∧∀b H',H b=none→Same H H'→Dr H' b→Q (.ref b) H'
theorem small_div{m:Int}(h:0 < m)(h':m≤1000000000000000)(x:Int):CDivB x m:=by
  refine⟨by omega,?_⟩
  have:m.natAbs≤2 ^ 50:=by
    have e:(2:Nat) ^ 50=1125899906842624:=by decide
    omega
  by_cases e:m.natAbs=0
  · rw[e];decide
  · rw[Nat.log2_lt e]
    exact Nat.lt_of_le_of_lt this (Nat.pow_lt_pow_right (by decide) (by decide))
theorem ok_law_next(T:Txt K mg t):FnOk Pr w K mg base CX0 1 t.law_next t.d_law_next ["_law_state_here","_law_many"] sp_next:=by
  refine T.F_law_next.ok sc_law_next (fun vs H Q E h=>?_) (fun cdv A outer s H vs Q E hr h=>?_)
  · obtain⟨a,m,rfl,_⟩:=h
    rfl
  · obtain⟨a,m,rfl,⟨⟨x,hD⟩,m0,m1⟩,k⟩:=h
    refine⟨_,(pss_cons (ps_if (pt_cmpR op_eq (pe_callB call_len (by rfl) T.z_len PySem.boot_len (pa_cons (pv 0) pa_nil)) pe_int (nomark _)) (pss_cons (ps_set (i:=2) sc_law_next.nd rfl (Or.inl rfl) (pe_op op_modN (pe_ix ix_list (pv 0) pe_int (fun _ _=>rfl)) (pv 1))) (pss_cons (ps_asg (pe_op op_fdivB (pe_ix ix_list (pv 0) pe_int (fun _ _=>rfl)) (pv 1)) (pg_sub (pv 0) pe_int set_list)) (pss_cons (ps_if (pt_cmpR op_eq (pe_ix ix_list (pv 0) pe_int (fun _ _=>rfl)) pe_int (nomark _)) (pss_one (ps_expr (pe_bm PySem.F.plainAttrs_list PySem.F.slot_list_pop PySem.F.type_list_pop mt_popAt (pv 0) (pa_cons pe_int pa_nil)))) pss_nil) (pss_one (ps_ret (pv 2)))))) pss_nil) (pss_cons (ps_asg (pe_op op_modN (pe_op op_add (pe_op op_mul (pe_ix ix_list (pv 0) pe_int (fun _ _=>rfl)) pe_int) pe_int) pe_int) (pg_sub (pv 0) pe_int set_list)) (pss_one (ps_ret (pe_op op_modN (pe_op op_fdivB (pe_ix ix_list (pv 0) pe_int (fun _ _=>rfl)) pe_int) (pv 1)))))),?_⟩
    rcases hD with hD | ⟨d,hD⟩
    · have lc:LenV K (.ref a) H 1:=.inl ⟨_,SqL.of hD,rfl⟩
      refine⟨_,rfl,_,_,rfl,lc,rfl,_,rfl,?_⟩
      refine iteI (fun h=>absurd h (by decide)) (fun _=>?_)
      refine⟨_,rfl,_,_,_,_,rfl,rfl,SqL.of hD,rfl,_,_,rfl,rfl,.inr ⟨by decide,by decide⟩,_,_,rfl,rfl,_,_,rfl,rfl,(show(2305843009213693951:Int)≠0 by decide),?_⟩
      refine⟨_,rfl,_,_,_,_,rfl,rfl,hD,rfl,?_⟩
      refine⟨_,rfl,_,_,_,_,rfl,rfl,SqL.of upd_same,rfl,_,_,rfl,rfl,⟨by decide,by decide⟩,_,rfl,_,_,rfl,rfl,(show m≠0 by omega),?_⟩
      exact k _ _ SameX.upd ⟨_,.inl upd_same⟩ (Int.fmod_nonneg_of_pos _ m0) (Int.fmod_lt_of_pos _ m0)
    · have lc:LenV K (.ref a) H 2:=.inl ⟨_,SqL.of hD,rfl⟩
      refine⟨_,rfl,_,_,rfl,lc,rfl,_,rfl,?_⟩
      refine iteI (fun _=>?_) (fun h=>absurd rfl h)
      refine⟨_,rfl,_,_,_,_,rfl,rfl,SqL.of hD,rfl,_,rfl,_,_,rfl,rfl,(show m≠0 by omega),?_⟩
      refine⟨_,rfl,_,_,_,_,rfl,rfl,SqL.of hD,rfl,_,rfl,_,_,rfl,rfl,small_div m0 m1 _,?_⟩
      refine⟨_,rfl,_,_,_,_,rfl,rfl,hD,rfl,?_⟩
      refine⟨_,rfl,_,_,_,_,rfl,rfl,SqL.of upd_same,rfl,rfl,_,rfl,?_⟩
      refine iteI (fun _=>?_) (fun _=>?_)
      · refine⟨_,rfl,.inl ⟨rfl,_,SqL.of upd_same⟩,_,_,_,_,_,rfl,rfl,upd_same,(by decide),(by decide),rfl,rfl,?_⟩
        refine⟨_,rfl,?_⟩
        exact k _ _ (SameX.upd.trans SameX.upd) ⟨x,.inl upd_same⟩ (Int.fmod_nonneg_of_pos _ m0) (Int.fmod_lt_of_pos _ m0)
      · refine⟨_,rfl,?_⟩
        exact k _ _ SameX.upd ⟨x,.inr ⟨_,upd_same⟩⟩ (Int.fmod_nonneg_of_pos _ m0) (Int.fmod_lt_of_pos _ m0)
theorem ok_law_state(T:Txt K mg t):FnOk Pr w K mg base CX0 1 t.law_state t.d_law_state ["_law_script"] (sp_state K):=by
  refine T.F_law_state.ok sc_law_state (fun vs H Q E h=>?_) (fun cdv A outer s H vs Q E hr h=>?_)
  · obtain⟨a,ns,rfl,_⟩:=h
    rfl
  · obtain⟨a,ns,rfl,hS,hlen,k⟩:=h
    refine⟨_,(pss_cons (ps_set (i:=1) sc_law_state.nd rfl (Or.inl rfl) pe_int) (pss_cons (ps_for PassesOwn.never rfl (pi_list (pe_slice sl_list (pv 0) po_none (po_some pe_int))) (pg_name (i:=2) sc_law_state.nd rfl (Or.inl rfl)) (pss_one (ps_set (i:=1) sc_law_state.nd rfl (Or.inl rfl) (pe_op op_modN (pe_op op_add (pe_op op_add (pe_op op_mul (pv 1) pe_int) (pe_op op_modN (pv 2) (pe_op op_pow pe_int pe_int))) pe_int) pe_int)))) (pss_cons (ps_if (PW.pt (pw_and (pt_cmpR op_gt (pe_callB call_len (by rfl) T.z_len PySem.boot_len (pa_cons (pv 0) pa_nil)) pe_int (nomark _)) (pw_and (pt_cmpR op_gt (pe_ix ix_list (pv 0) pe_int (fun _ _=>rfl)) pe_int (nomark _)) (pw_and1 (pt_cmpR op_eq (pe_op op_modN (pe_ix ix_list (pv 0) pe_int (fun _ _=>rfl)) pe_int) pe_int (nomark _)))))) (pss_one (ps_ret (pe_lst (pa_cons (pe_op op_fdivB (pe_ix ix_list (pv 0) pe_int (fun _ _=>rfl)) pe_int) (pa_cons (pv 1) pa_nil))))) pss_nil) (pss_one (ps_ret (pe_lst (pa_cons (pv 1) pa_nil))))))),?_⟩
    refine⟨_,rfl,_,rfl,_,_,rfl,hS,fun c1 hc1=>?_⟩
    have ec:cutV (ns.map V.int) none (some 200)=(ns.take 200).map V.int:=by
      rw[show(200:Int)=((200:Nat):Int)from rfl,cut_take,List.map_take]
    have s1:=same_upd (o:=.lst (cutV (ns.map V.int) none (some 200))) hc1
    have k1:=upd_same (H:=H) (a:=c1) (o:=.lst (cutV (ns.map V.int) none (some 200)))
    have hS1:=s1.seq hS
    clear hc1
    revert s1 k1 hS1
    generalize upd H c1 (.lst (cutV (ns.map V.int) none (some 200)))=H1
    intro s1 k1 hS1
    rw[ec]at k1
    refine⟨c1,rfl,⟨_,SqL.of k1⟩,for_list (K:=K) (a:=c1) (xs:=(ns.take 200).map V.int) (fun i σ H'=>∃(x:Int) (v:Option V),σ=[some (.ref a),some (.int x),v]∧H'=H1) ⟨_,_,rfl,rfl⟩ (fun i σ H' _ ⟨_,_,_,e⟩=>e▸SqL.of k1) ?_ ?_⟩
    · rintro i y σ H' hi ⟨x,v,rfl,rfl⟩
      obtain⟨z,rfl⟩:∃z,y=V.int z:=by
        rw[List.getElem?_map]at hi
        cases e:(ns.take 200)[i]? with
        | none=>rw[e]at hi;cases hi
        | some z=>rw[e]at hi;exact⟨z,(Option.some.inj hi).symm⟩
      refine⟨_,rfl,_,_,rfl,rfl,.inr ⟨by decide,by decide⟩,_,rfl,_,_,rfl,rfl,⟨by decide,by decide,by decide⟩,_,_,rfl,rfl,(show((10:Int) ^ (30:Int).toNat)≠0 by decide),_,_,rfl,rfl,_,_,rfl,rfl,_,_,rfl,rfl,(show(2305843009213693951:Int)≠0 by decide),?_⟩
      exact⟨_,_,rfl,rfl⟩
    · rintro σ H' ⟨x,v,rfl,rfl⟩
      have lc:LenV K (.ref a) H' (ns.map V.int).length:=.inl ⟨_,hS1,rfl⟩
      rw[List.length_map]at lc
      have last:tSeq tNext (tRet (tLst (tCons (tVar 1) tNil))) { nx:=fun _ H''=>Q .non H'',rt:=Q } [some (.ref a),some (.int x),v] H':=by
        refine⟨_,rfl,(by show 1≤sizeLine;decide),fun b hb=>?_⟩
        exact k b _ (s1.free hb) (s1.trans (same_upd hb)) ⟨x,.inl upd_same⟩
      refine⟨_,rfl,_,_,rfl,lc,_,_,rfl,rfl,_,rfl,?_⟩
      refine iteP (fun h0=>?_) (fun _=>?_)
      · obtain⟨n0,g0⟩:∃n,ns[0]? = some n:=⟨ns[0]'(by omega),by simp⟩
        have a0:atI (ns.map V.int) 0=some (V.int n0):=atI_nat (j:=0) (by rw[List.getElem?_map,g0];rfl)
        refine⟨_,rfl,_,_,_,_,rfl,rfl,hS1,a0,_,_,rfl,rfl,_,rfl,?_⟩
        refine iteP (fun _=>?_) (fun _=>?_)
        · refine⟨_,rfl,_,_,_,_,rfl,rfl,hS1,a0,_,_,rfl,rfl,(show(2:Int)≠0 by decide),rfl,_,rfl,?_⟩
          refine iteI (fun _=>?_) (fun _=>?_)
          · refine⟨_,rfl,_,_,_,_,rfl,rfl,hS1,a0,_,_,rfl,rfl,⟨by decide,by decide⟩,_,rfl,(by show 2≤sizeLine;decide),fun b hb=>?_⟩
            exact k b _ (s1.free hb) (s1.trans (same_upd hb)) ⟨x,.inr ⟨_,upd_same⟩⟩
          · exact last
        · exact last
      · exact last
theorem Dr.same{H H':Hp}{a:Addr}(e:Same H H')(h:Dr H a):Dr H' a:=by
  obtain⟨x,h | ⟨d,h⟩⟩:=h
  · exact⟨x,.inl (e _ _ h)⟩
  · exact⟨x,.inr ⟨d,e _ _ h⟩⟩
theorem Dr.lst{H:Hp}{a:Addr}(h:Dr H a):∃xs,H a=some (.lst xs):=by
  obtain⟨x,h | ⟨d,h⟩⟩:=h
  · exact⟨_,h⟩
  · exact⟨_,h⟩
theorem SameX.tt{a:Addr}{H H':Hp}(s:SameX a H H')(d:Dr H a):SameT H H':=fun p vs h=>s p _ (by
  rintro rfl
  obtain⟨xs,e⟩:=d.lst
  rw[h]at e;cases e) h
theorem SameX.tup{a p:Addr}{H:Hp}{o:HO}(n:H p=none)(d:Dr H a):SameX a H (L2.upd H p o)∧Dr (L2.upd H p o) a:=⟨.of (same_upd n),d.same (same_upd n)⟩
def nts(p1:Addr):List (Key × V):=[(Sum.inr "fractions",.ref p1),(Sum.inr "residues",.int 0),(Sum.inr "costs",.non),(Sum.inr "truths",.bl false)]
theorem nts_fr(p1:Addr):valV (mergeK [] (nts p1)) (Sum.inr "fractions")=some (.ref p1):=by kernel_rfl
theorem nts_re(p1:Addr):valV (mergeK [] (nts p1)) (Sum.inr "residues")=some (.int 0):=by kernel_rfl
theorem nts_co(p1:Addr):valV (mergeK [] (nts p1)) (Sum.inr "costs")=some .non:=by kernel_rfl
theorem nts_tr(p1:Addr):valV (mergeK [] (nts p1)) (Sum.inr "truths")=some (.bl false):=by kernel_rfl
def sp_lnought(T:Txt K mg t):Sp:=fun vs H Q _=>∃(R:KindR Pr w K mg base),∃nm p so,So T R nm p∧vs=[so]∧SortAt H so nm p∧∀v H',Same H H'→R.is H' v R.S.zero→Q v H'
theorem ok_law_nought(T:Txt K mg t):FnOk Pr w K mg base CX0 1 t.law_nought t.d_law_nought ["_law_sort_here"] (sp_lnought (w:=w) (base:=base) T):=by
  refine T.F_law_nought.ok sc_law_nought (fun vs H Q E h=>?_) (fun cdv A outer s H vs Q E hr h=>?_)
  · obtain⟨R,nm,p,so,_,rfl,_⟩:=h
    rfl
  · obtain⟨R,nm,p,so,hS,rfl,⟨q,rfl,hq⟩,k⟩:=h
    refine⟨_,(pss_one (ps_ret (pe_dget (hu_of hr) (pe_disp (pps_cons pe_str (pe_tup (pa_cons pe_int (pa_cons pe_int pa_nil))) (pps_cons pe_str pe_int (pps_cons pe_str pe_non (pps_cons pe_str pe_bl pps_nil)))) rfl rfl (fun h=>by cases h) (by decide)) (pe_ix ix_tup (pv 0) pe_int (fun _ _=>rfl)) (fun _ _=>rfl)))),?_⟩
    intro d nd
    refine⟨(by show 2≤sizeLine;decide),fun p1 n1=>?_⟩
    have s1:=same_upd (o:=.dK []) nd
    have s2:=same_upd (o:=.tup [.int 0,.int 1]) n1
    have nd1:p1≠d:=fun e=>by rw[e,upd_same]at n1;cases n1
    have s3:Same H (upd (upd (upd H d (.dK [])) p1 (.tup [.int 0,.int 1])) d (.dK (mergeK [] (nts p1)))):=fun b o e=>by
      rw[upd_ne (ne_of_none e nd)]
      exact(s1.trans s2) _ _ e
    refine⟨s2 _ _ upd_same,nts p1,rfl,(by show 4≤15;decide),?_⟩
    refine⟨_,rfl,_,_,_,_,rfl,rfl,SqT.of (s3 _ _ hq),rfl,?_⟩
    have g:=DGet.k (H:=upd (upd (upd H d (.dK [])) p1 (.tup [.int 0,.int 1])) d (.dK (mergeK [] (nts p1)))) (k:=Sum.inr nm) upd_same
    cases hS with
    | fr=>
      rw[nts_fr]at g
      exact⟨_,_,rfl,g,k _ _ s3 ⟨p1,rfl,by rw[upd_ne nd1,upd_same];rfl⟩⟩
    | re p hp hq' hi=>
      rw[nts_re]at g
      exact⟨_,_,rfl,g,k _ _ s3 rfl⟩
    | co=>
      rw[nts_co]at g
      exact⟨_,_,rfl,g,k _ _ s3 rfl⟩
    | tr=>
      rw[nts_tr]at g
      exact⟨_,_,rfl,g,k _ _ s3 rfl⟩
theorem nine9{r:Int}(h0:0≤r)(h1:r < 9):∃p:Int,atI ([2,3,5,7,11,13,101,65537,999983].map V.int) r=some (V.int p)∧2≤p∧p≤1000000∧isP p=true:=by
  rcases(by omega:r=0∨r=1∨r=2∨r=3∨r=4∨r=5∨r=6∨r=7∨r=8)with rfl | rfl | rfl | rfl | rfl | rfl | rfl | rfl | rfl
  · exact⟨2,rfl,by decide,by decide,p2⟩
  · exact⟨3,rfl,by decide,by decide,p3⟩
  · exact⟨5,rfl,by decide,by decide,p5⟩
  · exact⟨7,rfl,by decide,by decide,p7⟩
  · exact⟨11,rfl,by decide,by decide,p11⟩
  · exact⟨13,rfl,by decide,by decide,p13⟩
  · exact⟨101,rfl,by decide,by decide,p101⟩
  · exact⟨65537,rfl,by decide,by decide,p65537⟩
  · exact⟨999983,rfl,by decide,by decide,p999983⟩
def sp_sort(T:Txt K mg t):Sp:=fun vs H Q _=>∃(a:Addr) (wy:Int),vs=[.ref a,.int wy]∧(Dr H a∧0≤wy∧wy < 4)∧∀(R:KindR Pr w K mg base) nm p v H',So T R nm p→SortAt H' v nm p→SameX a H H'→Dr H' a→Q v H'
theorem ok_law_sort(T:Txt K mg t):FnOk Pr w K mg base CX0 2 t.law_sort t.d_law_sort ["_law_state_here","_law_way"] (sp_sort (w:=w) (base:=base) T):=by
  refine T.F_law_sort.ok sc_law_sort (fun vs H Q E h=>?_) (fun cdv A outer s H vs Q E hr h=>?_)
  · obtain⟨a,wy,rfl,_⟩:=h
    rfl
  · obtain⟨a,wy,rfl,⟨hD,w0,w4⟩,k⟩:=h
    refine⟨_,(pss_cons (ps_set (i:=2) sc_law_sort.nd rfl (Or.inl rfl) (pe_ix ix_list (pe_lst (pa_cons pe_int (pa_cons pe_int (pa_cons pe_int (pa_cons pe_int (pa_cons pe_int (pa_cons pe_int (pa_cons pe_int (pa_cons pe_int (pa_cons pe_int pa_nil)))))))))) (pe_call (ok_law_next T) (hr.mono (by decide)) rfl T.m_law_next T.F_law_next.kp T.b_law_next .nil pass0 (pa_cons (pv 0) (pa_cons pe_int pa_nil))) (fun _ _=>rfl))) (pss_one (ps_ret (pe_ix ix_list (pe_lst (pa_cons (pe_tup (pa_cons pe_str (pa_cons pe_int pa_nil))) (pa_cons (pe_tup (pa_cons pe_str (pa_cons (pv 2) pa_nil))) (pa_cons (pe_tup (pa_cons pe_str (pa_cons pe_int pa_nil))) (pa_cons (pe_tup (pa_cons pe_str (pa_cons pe_int pa_nil))) pa_nil))))) (pv 1) (fun _ _=>rfl))))),?_⟩
    refine⟨(by show 9≤sizeLine;decide),fun l0 h0=>?_⟩
    have e0:=same_upd (o:=.lst ([2,3,5,7,11,13,101,65537,999983].map V.int)) h0
    have la:l0≠a:=fun e=>by obtain⟨xs,z⟩:=hD.lst;rw[← e,h0]at z;cases z
    refine⟨_,rfl,a,9,rfl,⟨hD.same e0,by decide,by decide⟩,fun r H1 s1 d1 r0 r1=>?_⟩
    obtain⟨p,ap,hp⟩:=nine9 r0 r1
    refine⟨_,_,_,_,rfl,rfl,SqL.of (s1 _ _ la upd_same),ap,?_⟩
    have q1:SameX a H H1:=(SameX.of e0).trans s1
    refine⟨(by show 2≤sizeLine;decide),fun p1 n1=>⟨_,rfl,(by show 2≤sizeLine;decide),fun p2 n2=>⟨(by show 2≤sizeLine;decide),fun p3 n3=>⟨(by show 2≤sizeLine;decide),fun p4 n4=>⟨(by show 4≤sizeLine;decide),fun l nl=>?_⟩⟩⟩⟩⟩
    have t1:=same_upd (o:=.tup [.str "fractions",.int 0]) n1
    have t2:=same_upd (o:=.tup [.str "residues",.int p]) n2
    have t3:=same_upd (o:=.tup [.str "costs",.int 0]) n3
    have t4:=same_upd (o:=.tup [.str "truths",.int 0]) n4
    have t5:=same_upd (o:=.lst [V.ref p1,.ref p2,.ref p3,.ref p4]) nl
    have tt:=(((t1.trans t2).trans t3).trans t4).trans t5
    have q2:=q1.trans (.of tt)
    have d2:=d1.same tt
    rcases(by omega:wy=0∨wy=1∨wy=2∨wy=3)with rfl | rfl | rfl | rfl
    · exact⟨_,rfl,_,_,_,_,rfl,rfl,SqL.of upd_same,rfl,k _ _ _ _ _ .fr ⟨p1,rfl,(((t2.trans t3).trans t4).trans t5) _ _ upd_same⟩ q2 d2⟩
    · exact⟨_,rfl,_,_,_,_,rfl,rfl,SqL.of upd_same,rfl,k _ _ _ _ _ (.re p hp.1 hp.2.1 hp.2.2) ⟨p2,rfl,((t3.trans t4).trans t5) _ _ upd_same⟩ q2 d2⟩
    · exact⟨_,rfl,_,_,_,_,rfl,rfl,SqL.of upd_same,rfl,k _ _ _ _ _ .co ⟨p3,rfl,(t4.trans t5) _ _ upd_same⟩ q2 d2⟩
    · exact⟨_,rfl,_,_,_,_,rfl,rfl,SqL.of upd_same,rfl,k _ _ _ _ _ .tr ⟨p4,rfl,t5 _ _ upd_same⟩ q2 d2⟩
def sp_kind(T:Txt K mg t):Sp:=fun vs H Q _=>∃(R:KindR Pr w K mg base),∃nm p so,So T R nm p∧vs=[so]∧SortAt H so nm p∧∀v H',Same H H'→KAt R.C R.fs H' v→Q v H'
theorem ok_law_kind(T:Txt K mg t):FnOk Pr w K mg base CX0 4 t.law_kind t.d_law_kind ["_law_sort_here"] (sp_kind (w:=w) (base:=base) T):=by
  refine T.F_law_kind.ok sc_law_kind (fun vs H Q E h=>?_) (fun cdv A outer s H vs Q E hr h=>?_)
  · obtain⟨R,nm,p,so,_,rfl,_⟩:=h
    rfl
  · obtain⟨R,nm,p,so,hS,rfl,⟨q,rfl,hq⟩,k⟩:=h
    refine⟨_,(pss_cons (ps_if (pt_cmpR op_eq (pe_ix ix_tup (pv 0) pe_int (fun _ _=>rfl)) pe_str (nomark _)) (pss_one (ps_ret (pe_makeO T.M_Fractions rfl T.m_Fractions))) pss_nil) (pss_cons (ps_if (pt_cmpR op_eq (pe_ix ix_tup (pv 0) pe_int (fun _ _=>rfl)) pe_str (nomark _)) (pss_one (ps_ret (pe_make T.M_Residues (ok_Residues___init__ T) (hr.mono (by decide)) rfl T.m_Residues T.b_Residues___init__ .nil pass0 (pa_cons (pe_ix ix_tup (pv 0) pe_int (fun _ _=>rfl)) pa_nil)))) pss_nil) (pss_cons (ps_if (pt_cmpR op_eq (pe_ix ix_tup (pv 0) pe_int (fun _ _=>rfl)) pe_str (nomark _)) (pss_one (ps_ret (pe_makeO T.M_Costs rfl T.m_Costs))) pss_nil) (pss_one (ps_ret (pe_makeO T.M_Truths rfl T.m_Truths)))))),?_⟩
    cases hS with
    | fr=>
      refine⟨_,rfl,_,_,_,_,rfl,rfl,SqT.of hq,rfl,rfl,_,rfl,?_⟩
      rw[show decide (V.str ("fractions":Str)=V.str ("fractions":Str))=true by decide +kernel]
      refine iteT ?_
      intro x dx nx ndx nex
      exact k _ _ (same_made nx ndx) ⟨_,_,rfl,upd_same⟩
    | re p hp hq' hi=>
      refine⟨_,rfl,_,_,_,_,rfl,rfl,SqT.of hq,rfl,rfl,_,rfl,?_⟩
      rw[show decide (V.str ("residues":Str)=V.str ("fractions":Str))=false by decide +kernel]
      refine iteF ?_
      refine⟨_,rfl,_,_,_,_,rfl,rfl,SqT.of hq,rfl,rfl,_,rfl,?_⟩
      rw[show decide (V.str ("residues":Str)=V.str ("residues":Str))=true by decide +kernel]
      refine iteT ?_
      refine⟨_,rfl,_,_,_,_,rfl,rfl,SqT.of hq,rfl,fun x dx nx ndx nex=>⟨x,dx,_,rfl,⟨hp,hq',hi⟩,upd_same,rfl,?_⟩⟩
      rw[upd_upd]
      exact k _ _ (same_made nx ndx) ⟨_,_,rfl,upd_same⟩
    | co=>
      refine⟨_,rfl,_,_,_,_,rfl,rfl,SqT.of hq,rfl,rfl,_,rfl,?_⟩
      rw[show decide (V.str ("costs":Str)=V.str ("fractions":Str))=false by decide +kernel]
      refine iteF ?_
      refine⟨_,rfl,_,_,_,_,rfl,rfl,SqT.of hq,rfl,rfl,_,rfl,?_⟩
      rw[show decide (V.str ("costs":Str)=V.str ("residues":Str))=false by decide +kernel]
      refine iteF ?_
      refine⟨_,rfl,_,_,_,_,rfl,rfl,SqT.of hq,rfl,rfl,_,rfl,?_⟩
      rw[show decide (V.str ("costs":Str)=V.str ("costs":Str))=true by decide +kernel]
      refine iteT ?_
      intro x dx nx ndx nex
      exact k _ _ (same_made nx ndx) ⟨_,_,rfl,upd_same⟩
    | tr=>
      refine⟨_,rfl,_,_,_,_,rfl,rfl,SqT.of hq,rfl,rfl,_,rfl,?_⟩
      rw[show decide (V.str ("truths":Str)=V.str ("fractions":Str))=false by decide +kernel]
      refine iteF ?_
      refine⟨_,rfl,_,_,_,_,rfl,rfl,SqT.of hq,rfl,rfl,_,rfl,?_⟩
      rw[show decide (V.str ("truths":Str)=V.str ("residues":Str))=false by decide +kernel]
      refine iteF ?_
      refine⟨_,rfl,_,_,_,_,rfl,rfl,SqT.of hq,rfl,rfl,_,rfl,?_⟩
      rw[show decide (V.str ("truths":Str)=V.str ("costs":Str))=false by decide +kernel]
      refine iteF ?_
      intro x dx nx ndx nex
      exact k _ _ (same_made nx ndx) ⟨_,_,rfl,upd_same⟩
def ots(p1:Addr):List (Key × V):=[(Sum.inr "fractions",.ref p1),(Sum.inr "residues",.int 1),(Sum.inr "costs",.int 0),(Sum.inr "truths",.bl true)]
theorem ots_fr(p1:Addr):valV (mergeK [] (ots p1)) (Sum.inr "fractions")=some (.ref p1):=by kernel_rfl
theorem ots_re(p1:Addr):valV (mergeK [] (ots p1)) (Sum.inr "residues")=some (.int 1):=by kernel_rfl
theorem ots_co(p1:Addr):valV (mergeK [] (ots p1)) (Sum.inr "costs")=some (.int 0):=by kernel_rfl
theorem ots_tr(p1:Addr):valV (mergeK [] (ots p1)) (Sum.inr "truths")=some (.bl true):=by kernel_rfl
def sp_lone(T:Txt K mg t):Sp:=fun vs H Q _=>∃(R:KindR Pr w K mg base),∃nm p so,So T R nm p∧vs=[so]∧SortAt H so nm p∧∀v H',Same H H'→R.is H' v R.S.one→Q v H'
theorem ok_law_one(T:Txt K mg t):FnOk Pr w K mg base CX0 1 t.law_one t.d_law_one ["_law_sort_here"] (sp_lone (w:=w) (base:=base) T):=by
  refine T.F_law_one.ok sc_law_one (fun vs H Q E h=>?_) (fun cdv A outer s H vs Q E hr h=>?_)
  · obtain⟨R,nm,p,so,_,rfl,_⟩:=h
    rfl
  · obtain⟨R,nm,p,so,hS,rfl,⟨q,rfl,hq⟩,k⟩:=h
    refine⟨_,(pss_one (ps_ret (pe_dget (hu_of hr) (pe_disp (pps_cons pe_str (pe_tup (pa_cons pe_int (pa_cons pe_int pa_nil))) (pps_cons pe_str pe_int (pps_cons pe_str pe_int (pps_cons pe_str pe_bl pps_nil)))) rfl rfl (fun h=>by cases h) (by decide)) (pe_ix ix_tup (pv 0) pe_int (fun _ _=>rfl)) (fun _ _=>rfl)))),?_⟩
    intro d nd
    refine⟨(by show 2≤sizeLine;decide),fun p1 n1=>?_⟩
    have s1:=same_upd (o:=.dK []) nd
    have s2:=same_upd (o:=.tup [.int 1,.int 1]) n1
    have nd1:p1≠d:=fun e=>by rw[e,upd_same]at n1;cases n1
    have s3:Same H (upd (upd (upd H d (.dK [])) p1 (.tup [.int 1,.int 1])) d (.dK (mergeK [] (ots p1)))):=fun b o e=>by
      rw[upd_ne (ne_of_none e nd)]
      exact(s1.trans s2) _ _ e
    refine⟨s2 _ _ upd_same,ots p1,rfl,(by show 4≤15;decide),?_⟩
    refine⟨_,rfl,_,_,_,_,rfl,rfl,SqT.of (s3 _ _ hq),rfl,?_⟩
    have g:=DGet.k (H:=upd (upd (upd H d (.dK [])) p1 (.tup [.int 1,.int 1])) d (.dK (mergeK [] (ots p1)))) (k:=Sum.inr nm) upd_same
    cases hS with
    | fr=>
      rw[ots_fr]at g
      exact⟨_,_,rfl,g,k _ _ s3 ⟨p1,rfl,by rw[upd_ne nd1,upd_same];rfl⟩⟩
    | re p hp hq' hi=>
      rw[ots_re]at g
      exact⟨_,_,rfl,g,k _ _ s3 rfl⟩
    | co=>
      rw[ots_co]at g
      exact⟨_,_,rfl,g,k _ _ s3 rfl⟩
    | tr=>
      rw[ots_tr]at g
      exact⟨_,_,rfl,g,k _ _ s3 rfl⟩
def tx(l:List Nat):Str:=⟨l.toArray⟩
def vT(l:List Nat):V:=.str (tx l)
theorem tx_app(a b:List Nat):tx a++tx b=tx (a++b):=by
  show(⟨a.toArray++b.toArray⟩:Str)=⟨(a++b).toArray⟩
  simp
theorem tx_len(a:List Nat):(tx a).length=a.length:=by
  show a.toArray.size=a.length
  simp
theorem three{l:List Nat}(h1:1≤l.length)(h3:l.length≤3):(∃a,l=[a])∨(∃a b,l=[a,b])∨∃a b c,l=[a,b,c]:=by
  match l,h1,h3 with
  | [a],_,_=>exact .inl ⟨a,rfl⟩
  | [a,b],_,_=>exact .inr (.inl ⟨a,b,rfl⟩)
  | [a,b,c],_,_=>exact .inr (.inr ⟨a,b,c,rfl⟩)
theorem occ1(a x:Nat)(h:x=a):Builtin.Str.occurrences (tx [a]) (tx [x]) 0 (tx [a]).length 1=[0]:=by
  subst h
  simp[Builtin.Str.occurrences,Builtin.Str.subAt,tx,Str.length,List.range']
theorem occ2(a b x:Nat)(n:a≠b)(h:x=a∨x=b):Builtin.Str.occurrences (tx [a,b]) (tx [x]) 0 (tx [a,b]).length 1=[List.idxOf x [a,b]]:=by
  rcases h with rfl | rfl
  · simp[Builtin.Str.occurrences,Builtin.Str.subAt,tx,Str.length,List.range',List.idxOf_cons]
  · simp[Builtin.Str.occurrences,Builtin.Str.subAt,tx,Str.length,List.range',List.idxOf_cons,n,beq_false_of_ne n]
theorem occ3(a b c x:Nat)(n:(a≠b∧a≠c)∧b≠c)(h:x=a∨x=b∨x=c):Builtin.Str.occurrences (tx [a,b,c]) (tx [x]) 0 (tx [a,b,c]).length 1=[List.idxOf x [a,b,c]]:=by
  rcases h with rfl | rfl | rfl
  · simp[Builtin.Str.occurrences,Builtin.Str.subAt,tx,Str.length,List.range',List.idxOf_cons]
  · simp[Builtin.Str.occurrences,Builtin.Str.subAt,tx,Str.length,List.range',List.idxOf_cons,n.1.1,beq_false_of_ne n.1.1]
  · simp[Builtin.Str.occurrences,Builtin.Str.subAt,tx,Str.length,List.range',List.idxOf_cons,n.1.2,n.2,beq_false_of_ne n.1.2,beq_false_of_ne n.2]
structure LOk(l:List Nat):Prop where
  h1:1≤l.length
  h3:l.length≤3
  nd:l.Nodup
  as:∀c∈l,c < 128
theorem occ_of{l:List Nat}(h:LOk l){x:Nat}(hx:x∈l):Builtin.Str.occurrences (tx l) (tx [x]) 0 (tx l).length 1=[l.idxOf x]:=by
  have nd:=h.nd
  rcases three h.h1 h.h3 with ⟨a,rfl⟩ | ⟨a,b,rfl⟩ | ⟨a,b,c,rfl⟩
  · have:x=a:=by simpa using hx
    rw[occ1 a x this,this];simp
  · exact occ2 a b x (by simpa using nd) (by simpa using hx)
  · exact occ3 a b c x (by simpa [not_or] using nd) (by simpa using hx)
structure Pool(p l:List Nat)(i:Nat):Prop where
  nd:(p++l).Nodup
  pl:p.length=26 - i
  ll:l.length=i
  az:∀c∈p++l,97≤c∧c≤122
def azs:List Nat:=[97,98,99,100,101,102,103,104,105,106,107,108,109,110,111,112,113,114,115,116,117,118,119,120,121,122]
theorem az_is:(Str.ofString "abcdefghijklmnopqrstuvwxyz")=tx azs:=by decide +kernel
theorem em_is:(Str.ofString "")=tx []:=by decide +kernel
theorem Pool.start:Pool azs [] 0:=⟨by decide,by decide,rfl,by decide⟩
theorem Pool.turn{p l:List Nat}{i j:Nat}{c:Nat}(h:Pool p l i)(hi:i≤20)(hc:p[j]? = some c):Pool (p.take j++p.drop (j+1)) (l++[c]) (i+1):=by
  have hj:j < p.length:=(List.getElem?_eq_some_iff.mp hc).1
  have e:p=p.take j++c::p.drop (j+1):=by
    have:p[j]=c:=(List.getElem?_eq_some_iff.mp hc).2
    rw[← this,List.getElem_cons_drop_succ_eq_drop hj,List.take_append_drop]
  have pm:((p.take j++p.drop (j+1))++(l++[c])).Perm (p++l):=by
    conv=>rhs;rw[e]
    have h1:((p.take j++p.drop (j+1))++(l++[c])).Perm ((l++[c])++(p.take j++p.drop (j+1))):=List.perm_append_comm
    have h2:(p.take j++c::p.drop (j+1)).Perm (c::(p.take j++p.drop (j+1))):=List.perm_middle
    have h3:(p.take j++c::p.drop (j+1)++l).Perm (c::(p.take j++p.drop (j+1))++l):=h2.append_right l
    have h4:(c::(p.take j++p.drop (j+1))++l).Perm (l++c::(p.take j++p.drop (j+1))):=List.perm_append_comm
    have h5:(l++[c])++(p.take j++p.drop (j+1))=l++c::(p.take j++p.drop (j+1)):=by simp
    rw[h5]at h1
    exact h1.trans (h4.symm.trans h3.symm)
  refine⟨pm.nodup_iff.mpr h.nd,?_,?_,fun x hx=>h.az x (pm.mem_iff.mp hx)⟩
  · rw[List.length_append,List.length_take,List.length_drop]
    have:=h.pl
    omega
  · rw[List.length_append,h.ll];rfl
theorem sl_to{p:List Nat}{q:Int}(h0:0≤q)(h1:q≤p.length):Txt.slice (tx p) none (some q)=tx (p.take q.toNat):=by
  have e:=PyProof.Rows.slice_closes_toL (x:=tx p) (j:=q) h0 (by rw[tx_len];exact h1)
  rw[beq_iff_eq]at e
  rw[e]
  show(⟨_⟩:Str)=⟨_⟩
  simp[tx]
theorem sl_from{p:List Nat}{q:Int}(h0:0≤q)(h1:q≤p.length):Txt.slice (tx p) (some q) none=tx (p.drop q.toNat):=by
  rw[PyProof.Rows.slice_from_eq (x:=tx p) (b:=p.length) h0 (by rw[tx_len];exact h1) (by rw[tx_len])]
  show(⟨_⟩:Str)=⟨_⟩
  have e:((p.drop q.toNat).take ((p.length:Int) - q).toNat)=p.drop q.toNat:=List.take_of_length_le (by rw[List.length_drop];omega)
  simp only[tx,List.toList_toArray,e]
def sp_letters:Sp:=fun vs H Q _=>∃(a:Addr),vs=[.ref a]∧Dr H a∧∀(p l:List Nat) (i:Nat) H',SameX a H H'→Dr H' a→Pool p l i→1≤i→i≤3→Q (vT l) H'
theorem ok_law_letters(T:Txt K mg t):FnOk Pr w K mg base CX0 2 t.law_letters t.d_law_letters ["_law_state_here"] sp_letters:=by
  refine T.F_law_letters.ok sc_law_letters (fun vs H Q E h=>?_) (fun cdv A outer s H vs Q E hr h=>?_)
  · obtain⟨a,rfl,_⟩:=h
    rfl
  · obtain⟨a,rfl,hD,k⟩:=h
    have szl:(1000:Nat) < sizeLine:=small1000 (Nat.le_refl _)
    refine⟨_,(pss_cons (ps_set (i:=1) sc_law_letters.nd rfl (Or.inl rfl) pe_str) (pss_cons (ps_set (i:=2) sc_law_letters.nd rfl (Or.inl rfl) pe_str) (pss_cons (ps_for PassesOwn.never rfl (pi_range1 rfl T.z_range (pa_cons (pe_op op_add pe_int (pe_call (ok_law_next T) (hr.mono (by decide)) rfl T.m_law_next T.F_law_next.kp T.b_law_next .nil pass0 (pa_cons (pv 0) (pa_cons pe_int pa_nil)))) pa_nil)) (pg_name (i:=3) sc_law_letters.nd rfl (Or.inl rfl)) (pss_cons (ps_set (i:=4) sc_law_letters.nd rfl (Or.inl rfl) (pe_call (ok_law_next T) (hr.mono (by decide)) rfl T.m_law_next T.F_law_next.kp T.b_law_next .nil pass0 (pa_cons (pv 0) (pa_cons (pe_callB call_len (by rfl) T.z_len PySem.boot_len (pa_cons (pv 1) pa_nil)) pa_nil)))) (pss_cons (ps_set (i:=2) sc_law_letters.nd rfl (Or.inl rfl) (pe_op op_add_str (pv 2) (pe_ix ix_str (pv 1) (pv 4) (fun _ _=>rfl)))) (pss_one (ps_set (i:=1) sc_law_letters.nd rfl (Or.inl rfl) (pe_op op_add_str (pe_slice sl_str (pv 1) po_none (po_some (pv 4))) (pe_slice sl_str (pv 1) (po_some (pe_op op_add (pv 4) pe_int)) po_none))))))) (pss_one (ps_ret (pv 2)))))),?_⟩
    refine⟨_,rfl,_,_,rfl,⟨hD,by decide,by decide⟩,fun r H1 s1 D1 r0 r3=>?_⟩
    refine⟨_,_,rfl,rfl,_,rfl,(by omega),(by omega),for_range (lo:=0) (n:=(1+r).toNat)
      (fun i σ H'=>∃p l v3 v4,σ=[some (.ref a),some (vT p),some (vT l),v3,v4]∧SameX a H H'∧Dr H' a∧Pool p l i)
      ⟨azs,[],_,_,(by rw[vT,vT,← az_is,← em_is];rfl),s1,D1,Pool.start⟩ ?_ ?_⟩
    · rintro i σ H' hi ⟨p,l,v3,v4,rfl,q,D,G⟩
      have hp:=G.pl
      have hll:=G.ll
      have lp:LenV K (vT p) H' (tx p).length:=⟨by rw[tx_len];omega,rfl⟩
      rw[tx_len]at lp
      refine⟨_,rfl,_,rfl,_,_,rfl,lp,_,_,rfl,⟨D,by omega,by omega⟩,fun z H2 s2 D2 z0 z1=>?_⟩
      obtain⟨c,hc⟩:∃c,p[z.toNat]? = some c:=⟨p[z.toNat]'(by omega),by simp⟩
      have ac:atI (tx p).cps.toList z=some c:=by
        have e:z=((z.toNat:Nat):Int):=by omega
        rw[e]
        exact atI_nat (by show p.toArray.toList[z.toNat]? = some c;simpa using hc)
      refine⟨_,rfl,_,rfl,_,rfl,_,_,_,rfl,rfl,(by rw[tx_len];omega),ac,_,_,rfl,rfl,(by show(tx l).length+1≤_;rw[tx_len];omega),?_⟩
      refine⟨_,rfl,_,rfl,_,rfl,_,rfl,(by rw[tx_len];omega),_,rfl,_,rfl,_,_,rfl,rfl,_,rfl,_,rfl,(by rw[tx_len];omega),_,_,rfl,rfl,?_,?_⟩
      · rw[sl_to z0 (by omega),sl_from (by omega) (by omega),tx_len,tx_len,List.length_take,List.length_drop];omega
      · have e1:tx l++(⟨#[c]⟩:Str)=tx (l++[c]):=tx_app l [c]
        have e2:(z+1).toNat=z.toNat+1:=by omega
        rw[sl_to z0 (by omega),sl_from (by omega) (by omega),tx_app,e2]
        exact⟨_,_,_,_,(by rw[e1];rfl),q.trans s2,D2,G.turn (by omega) hc⟩
    · rintro σ H' ⟨p,l,v3,v4,rfl,q,D,G⟩
      refine⟨_,rfl,?_⟩
      exact k p l _ H' q D G (by omega) (by omega)
theorem Pool.ok{p l:List Nat}{i:Nat}(G:Pool p l i)(h1:1≤i)(h3:i≤3):LOk l:=by
  have e:=G.ll
  refine⟨by omega,by omega,(List.nodup_append.mp G.nd).2.1,fun c hc=>?_⟩
  have:=(G.az c (List.mem_append_right _ hc)).2
  omega
def Mach(R:KindR Pr w K mg base)(l:List Nat)(n:Nat)(st:Nat→R.S.W)(tb:Nat→Nat→Nat→R.S.W)(en:Nat→R.S.W)(m:Nat)(v:V)(H:Hp):Prop:=
  ∃p sv tv ev,v=.ref p∧H p=some (.tup [vT l,sv,tv,ev])∧R.Row n st m sv H∧TupOf (fun j u H=>R.Tab n n (tb j) m u H) l.length tv H∧R.Row n en m ev H
theorem Mach.same{R:KindR Pr w K mg base}{l:List Nat}{n:Nat}{st:Nat→R.S.W}{tb:Nat→Nat→Nat→R.S.W}{en:Nat→R.S.W}{m:Nat}{v:V}{H H':Hp}(s:SameT H H')(h:Mach R l n st tb en m v H):Mach R l n st tb en m v H':=by
  obtain⟨p,sv,tv,ev,rfl,hp,h1,h2,h3⟩:=h
  exact⟨p,sv,tv,ev,rfl,s _ _ hp,KindR.Row.same s h1,h2.mono s fun _ _ _ q=>KindR.Tab.same s q,KindR.Row.same s h3⟩
def wdx(l ws:List Nat)(k:Nat):Nat:=l.idxOf (ws.getD k 0)
theorem wdx_at{l ws:List Nat}{k c:Nat}(h:ws[k]? = some c):wdx l ws k=l.idxOf c:=by
  unfold wdx
  rw[List.getD_eq_getElem?_getD,h];rfl
structure WOk(l ws:List Nat)(z:Nat):Prop where
  lo:LOk l
  al:∀c∈ws,c∈l
  le:ws.length≤z
theorem WOk.asc{l ws:List Nat}{z:Nat}(W:WOk l ws z):(tx ws).cps.all (· < 128)=true:=by
  show ws.toArray.all (· < 128)=true
  simp only[List.all_toArray,List.all_eq_true,decide_eq_true_eq]
  exact fun c hc=>W.lo.as c (W.al c hc)
theorem WOk.mem{l ws:List Nat}{z k c:Nat}(W:WOk l ws z)(h:ws[k]? = some c):c∈l:=W.al c (List.mem_of_getElem? h)
theorem tx_get{ws:List Nat}{k c:Nat}(h:(tx ws).cps[k]? = some c):ws[k]? = some c:=by
  have:ws.toArray[k]? = some c:=h
  simpa using this
theorem idx_lt{l:List Nat}{c:Nat}(h:c∈l):l.idxOf c < l.length:=List.idxOf_lt_length_iff.mpr h
theorem sameT_lst{H:Hp}{a:Addr}{xs:List V}{o:HO}(h:H a=some (.lst xs)):SameT H (upd H a o):=fun b vs hb=>by
  rw[upd_ne (by rintro rfl;rw[h]at hb;cases hb)];exact hb
theorem same_at{H H1:Hp}{a:Addr}{o:HO}(s:Same H H1)(n:H a=none):Same H (upd H1 a o):=fun b u hb=>by
  rw[upd_ne (ne_of_none hb n)];exact s _ _ hb
def NoStr(K:PySem.W.Frag)(v:V)(H:Hp):Prop:=∃ty,TyOf K H v ty∧PySem.W.kitOne K ty (.type "str")=some false
theorem in_let(l:List Nat)(c:Nat):(!(Builtin.Str.occurrences (tx l) ⟨#[c]⟩ 0 (tx l).length 1).isEmpty)=decide (c∈l):=by
  rw[PySem.StrLaws.found_one]
  rw[Bool.eq_iff_iff,decide_eq_true_eq,decide_eq_true_eq]
  show c∈l.toArray.toList↔_
  rw[List.toList_toArray]
theorem asc_of{ws:List Nat}(h:∀c∈ws,c < 128):(tx ws).cps.all (· < 128)=true:=by
  show ws.toArray.all (· < 128)=true
  simp only[List.all_toArray,List.all_eq_true,decide_eq_true_eq]
  exact h
def sp_is_wordG(K:PySem.W.Frag):Sp:=fun vs H Q _=>∃l v,vs=[vT l,v]∧((∃ws,v=vT ws∧((∀c∈ws,c < 128)∧ws.length≤1000)∧∀H',Same H H'→Q (.bl (ws.all fun c=>decide (c∈l))) H')∨(NoStr K v H∧Q (.bl false) H))
theorem ok_is_word(T:Txt K mg t):FnOk Pr w K mg base CX0 1 t.is_word t.d_is_word ["letters","thing"] (sp_is_wordG K):=by
  refine T.F_is_word.ok sc_is_word (fun vs H Q E h=>?_) (fun cdv A outer s H vs Q E hr h=>?_)
  · obtain⟨l,v,rfl,_⟩:=h
    rfl
  · obtain⟨l,v,rfl,h⟩:=h
    refine⟨_,(pss_one (ps_ret (pe_and (pe_callB call_isi (by rfl) T.z_isinstance boot_isinstance (pa_cons (pv 1) (pa_cons (pe_bltn (v:=.ty "str") rfl T.z_str boot_str rfl) pa_nil))) (pe_one (pe_callB (call_all rfl) (by rfl) T.z_all boot_all (pa_cons (pe_comp (xs:=["sign"]) rfl (show CompOk ["letters","thing"] (defScope s_is_word) _ from⟨rfl,by decide +kernel,by decide +kernel,by decide +kernel,by decide +kernel,by decide +kernel⟩) (pi_str (pv 1)) (fun _ _ _ _ _=>(pg_name (i:=2) (by show List.Nodup (["letters","thing","sign"]:List Str);decide +kernel) rfl (Or.inl rfl))) (fun _ _ _ _ _=>(pe_cmpR op_in_str (pv 2) (pv 0) (by with_unfolding_all rfl)))) pa_nil)))))),?_⟩
    rcases h with ⟨ws,rfl,⟨ha,hz⟩,k⟩ | ⟨⟨ty,y1,y2⟩,k⟩
    case inr=>
      refine⟨_,rfl,_,_,_,_,rfl,y1,y2,_,rfl,iteF ?_⟩
      exact k
    refine⟨_,rfl,_,_,_,_,rfl,TyOf.str _,T.k_ss,_,rfl,?_⟩
    refine iteT ?_
    refine⟨_,rfl,_,rfl,asc_of ha,comp_go (n:=ws.length) (fun j ys H2=>(ys=((ws.take j).map fun c=>decide (c∈l)).map V.bl∧H2=H)∧ys.length=j) (by omega) ⟨⟨rfl,rfl⟩,rfl⟩ (fun j ys H2 q=>q.2) ?_ ?_ ?_⟩
    · rintro j ys H2 hj ⟨⟨rfl,rfl⟩,ly⟩
      refine⟨(by show j < ws.toArray.size;simpa using hj),fun y H' hy=>?_⟩
      obtain⟨rfl,c,hc,rfl⟩:=hy
      have hc:ws[j]? = some c:=by simpa [tx] using hc
      refine⟨⟨[some _],rfl,rfl⟩,_,rfl,_,rfl,_,_,rfl,rfl,⟨?_,rfl⟩,by rw[List.length_append,ly];rfl⟩
      show _++[V.bl (!(Builtin.Str.occurrences (tx l) ⟨#[c]⟩ 0 (tx l).length 1).isEmpty)]=_
      rw[in_let,List.take_succ,hc,List.map_append,List.map_append];rfl
    · rintro ys H2 ⟨⟨rfl,rfl⟩,_⟩
      show ws.toArray.size≤_
      simp
    · rintro ys H2 p ⟨⟨rfl,rfl⟩,_⟩ np
      refine⟨p,_,rfl,SqL.of upd_same,?_⟩
      have e:((ws.take ws.length).map fun c=>decide (c∈l)).all id=ws.all fun c=>decide (c∈l):=by rw[List.take_length,List.all_map];rfl
      show Q (.bl (((ws.take ws.length).map fun c=>decide (c∈l)).all id)) _
      rw[e]
      exact k _ (same_upd np)
def spx_word(K:PySem.W.Frag)(t:Adr):Sp:=fun vs H Q E=>∃l v,vs=[vT l,v]∧((∃ws,v=vT ws∧((∀c∈ws,c < 128)∧ws.length≤1000)∧((∀c∈ws,c∈l)→∀H',Same H H'→Q .non H')∧((¬∀c∈ws,c∈l)→∀H',Same H H'→E (.ref t.NoWord) none H'))∨(NoStr K v H∧E (.ref t.NoWord) none H))
theorem okx_need_word(T:Txt K mg t):FnOk Pr w K mg base (CX1 Pr w) 2 t.need_word t.d_need_word ["letters","thing"] (spx_word K t):=by
  refine T.F_need_word.okx sc_need_word (fun vs H Q E h=>?_) (fun cdv A outer s H vs Q E hr h=>?_)
  · obtain⟨l,v,rfl,_⟩:=h
    rfl
  · obtain⟨l,v,rfl,h⟩:=h
    refine⟨_,(pss_one (ps_if (pt_not (pt_val (pe_call (ok_is_word T) (hr.mono (by decide)) rfl T.m_is_word T.F_is_word.kp T.b_is_word .nil pass0 (pa_cons (pv 0) (pa_cons (pv 1) pa_nil))))) (pss_one (ps_raise thru_cx rfl T.x_NoWord.ex rfl T.m_NoWord (pa_cons pe_str pa_nil))) pss_nil)),?_⟩
    rcases h with ⟨ws,rfl,W,k0,k1⟩ | ⟨hn,k⟩
    · refine⟨_,rfl,_,rfl,l,_,rfl,.inl ⟨ws,rfl,W,fun H' s'=>⟨_,rfl,?_⟩⟩⟩
      cases hb:(ws.all fun c=>decide (c∈l))with
      | true=>
        (try refine iteF ?_)
        exact k0 (fun c hc=>of_decide_eq_true (List.all_eq_true.mp hb c hc)) _ s'
      | false=>
        (try refine iteT ?_)
        refine⟨(by show 1≤sizeLine;decide),k1 (fun z=>?_) _ s'⟩
        rw[List.all_eq_true.mpr fun c hc=>decide_eq_true (z c hc)]at hb
        cases hb
    · refine⟨_,rfl,_,rfl,l,_,rfl,.inr ⟨hn,_,rfl,?_⟩⟩
      (try refine iteT ?_)
      exact⟨(by show 1≤sizeLine;decide),k⟩
def sp_need_word:Sp:=fun vs H Q _=>∃l ws z,vs=[vT l,vT ws]∧(WOk l ws z∧z≤1000)∧∀H',Same H H'→Q .non H'
theorem ok_need_word(T:Txt K mg t):FnOk Pr w K mg base CX0 2 t.need_word t.d_need_word ["letters","thing"] sp_need_word:=
  (okx_need_word T).quiet.imp fun vs H Q E h=>by
    obtain⟨l,ws,z,rfl,⟨W,hz⟩,k⟩:=h
    have:=W.le
    exact⟨l,_,rfl,.inl ⟨ws,rfl,⟨fun c hc=>W.lo.as c (W.al c hc),by omega⟩,fun _=>k,fun z=>absurd W.al z⟩⟩
theorem LOk.asc'{l:List Nat}(L:LOk l):(tx l).cps.all (· < 128)=true:=by
  show l.toArray.all (· < 128)=true
  simp only[List.all_toArray,List.all_eq_true,decide_eq_true_eq]
  exact fun c hc=>L.as c hc
structure AZ(l:List Nat):Prop where
  lo:LOk l
  az:∀c∈l,97≤c∧c≤122
def MachM(R:KindR Pr w K mg base)(l:List Nat)(n:Nat)(st:Nat→R.S.W)(tb:Nat→Nat→Nat→R.S.W)(en:Nat→R.S.W)(_:Nat)(v:V)(H:Hp):Prop:=
  ∃p sv tv ev m1 m2 m3,v=.ref p∧H p=some (.tup [vT l,sv,tv,ev])∧R.Row n st m1 sv H∧TupOf (fun j u H=>R.Tab n n (tb j) m2 u H) l.length tv H∧R.Row n en m3 ev H
theorem Ents.app{Pd:Nat→V→Hp→Prop}{xs ys:List V}{n k:Nat}{H:Hp}(h1:Ents Pd xs n H)(h2:Ents (fun j=>Pd (n+j)) ys k H):Ents Pd (xs++ys) (n+k) H:=
  ⟨by rw[List.length_append,h1.1,h2.1],fun j hj=>by
    by_cases hn:j < n
    · obtain⟨u,e,q⟩:=h1.2 j hn
      exact⟨u,by rw[List.getElem?_append_left (by rw[h1.1];exact hn)];exact e,q⟩
    · obtain⟨u,e,q⟩:=h2.2 (j - n) (by omega)
      rw[show n+(j - n)=j by omega]at q
      exact⟨u,by rw[List.getElem?_append_right (by rw[h1.1];omega),h1.1];exact e,q⟩⟩
theorem lv_ups{S:SR}{c:Nat}{x:S.W}{k:Nat}:∀{d:Nat},S.lv k c x→S.lv (k+d) c x
  | 0,h=>h
  | d+1,h=>S.lv_up _ _ _ (lv_ups h)
theorem Row.up{R:KindR Pr w K mg base}{n m m':Nat}{x:Nat→R.S.W}{v:V}{H:Hp}(h:m≤m')(r:R.Row n x m v H):R.Row n x m' v H:=by
  obtain⟨d,rfl⟩:∃d,m'=m+d:=⟨m' - m,by omega⟩
  exact r.mono (SameT.refl _) fun _ _ _ q=>⟨q.1,lv_ups q.2⟩
theorem Tab.up{R:KindR Pr w K mg base}{k n m m':Nat}{x:Nat→Nat→R.S.W}{v:V}{H:Hp}(h:m≤m')(r:R.Tab k n x m v H):R.Tab k n x m' v H:=r.mono (SameT.refl _) fun _ _ _ q=>Row.up h q
theorem Row.congr{R:KindR Pr w K mg base}{n m:Nat}{x y:Nat→R.S.W}{v:V}{H:Hp}(h:∀i,i < n→x i=y i)(r:R.Row n x m v H):R.Row n y m v H:=
  r.mono (SameT.refl _) fun j _ hj q=>⟨by rw[← h j hj];exact q.1,by rw[← h j hj];exact q.2⟩
def sp_noughts(w:World)(K:PySem.W.Frag)(mg:Str→Option Value)(base:Heap):Sp:=fun vs H Q _=>∃(R:KindR Pr w K mg base),∃kv,∃(z:Int),∃(n m:Nat),vs=[kv,.int z]∧(KAt R.C R.fs H kv∧n≤1000∧z=n)∧
  ∀v H',Same H H'→R.Row n (fun _=>R.S.zero) m v H'→Q v H'
theorem ok_noughts(T:Txt K mg t):FnOk Pr w K mg base CX0 41 t.noughts t.d_noughts ["kind","size"] (sp_noughts w K mg base):=by
  refine T.F_noughts.ok sc_noughts (fun vs H Q E h=>?_) (fun cdv A outer s H vs Q E hr h=>?_)
  · obtain⟨R,kv,z,n,m,rfl,_⟩:=h
    rfl
  · obtain⟨R,kv,z,n,m,rfl,⟨⟨kp,dx,rfl,hk⟩,hn,rfl⟩,k⟩:=h
    refine⟨_,(pss_one (ps_ret (pe_callTy call_tuple_of (by rfl) T.z_tuple boot_tuple (pa_cons (pe_comp (xs:=["place"]) rfl (show CompOk ["kind","size"] (defScope s_noughts) _ from⟨rfl,by decide +kernel,by decide +kernel,by decide +kernel,by decide +kernel,by decide +kernel⟩) (pi_range1 rfl T.z_range (pa_cons (pv 1) pa_nil)) (fun _ _ _ _ _=>(pg_name (i:=2) (by show List.Nodup (["kind","size","place"]:List Str);decide +kernel) rfl (Or.inl rfl))) (fun _ _ _ _ _=>(pe_meth0 (pv 0) R.cl R.t_nought R.G_nought (hr.mono (by decide)) R.b_nought .nil pass0))) pa_nil)))),?_⟩
    refine⟨_,rfl,_,rfl,(by omega),(by omega),comp_go (n:=n) (fun j ys H2=>Same H H2∧Ents (R.Wt (fun _=>R.S.zero) m) ys j H2) hn ⟨Same.refl _,Ents.nil⟩ (fun j ys H2 q=>q.2.1) ?_ ?_ ?_⟩
    · rintro j ys H2 hj ⟨q,e⟩
      refine⟨(show j < (n:Int).toNat by omega),fun y H' hy=>?_⟩
      obtain⟨rfl,rfl⟩:=hy
      refine⟨⟨[some _],rfl,rfl⟩,_,rfl,_,_,_,rfl,q _ _ hk,R.l_nought,_,rfl,⟨_,_,rfl,q _ _ hk⟩,fun v H3 s3 f3=>?_⟩
      exact⟨q.trans s3,(e.mono fun _ _ _ z=>KindR.Wt.same s3.t z).snoc ⟨f3,R.S.lv_mono _ _ _ _ (by decide) (R.S.lv_zero _)⟩⟩
    · rintro ys H2 ⟨q,e⟩
      show(n:Int).toNat≤n
      omega
    · rintro ys H2 l ⟨q,e⟩ nl
      have s1':=same_upd (o:=.lst ys) nl
      refine⟨l,ys,rfl,.inl ⟨SqL.of upd_same,fun l2 n2=>?_⟩⟩
      have s2:=same_upd (o:=.tup ys) n2
      exact k _ _ (q.trans (s1'.trans s2)) ⟨l2,ys,rfl,upd_same,e.mono fun _ _ _ z=>KindR.Wt.same (s1'.trans s2).t z⟩
def sp_times_row(w:World)(K:PySem.W.Frag)(mg:Str→Option Value)(base:Heap):Sp:=fun vs H Q _=>∃(R:KindR Pr w K mg base),∃kv bv row n b x j m,vs=[kv,bv,row]∧(KAt R.C R.fs H kv∧R.is H bv b∧R.S.lv j 32 b∧R.Row n x m row H∧n≤1000∧j+m≤100000)∧
  ∀v H',Same H H'→R.Row n (fun i=>R.S.mul b (x i)) (j+m) v H'→Q v H'
theorem ok_times_row(T:Txt K mg t):FnOk Pr w K mg base CX0 41 t.times_row t.d_times_row ["kind","by","row"] (sp_times_row w K mg base):=by
  refine T.F_times_row.ok sc_times_row (fun vs H Q E h=>?_) (fun cdv A outer s H vs Q E hr h=>?_)
  · obtain⟨R,kv,bv,row,n,b,x,j,m,rfl,_⟩:=h
    rfl
  · obtain⟨R,kv,bv,row,n,b,x,jl,m,rfl,⟨⟨kp,dx,rfl,hk⟩,hb,lb,⟨p,us,rfl,hp,ent⟩,hn,hz⟩,k⟩:=h
    refine⟨_,(pss_one (ps_ret (pe_callTy call_tuple_of (by rfl) T.z_tuple boot_tuple (pa_cons (pe_comp (xs:=["x"]) rfl (show CompOk ["kind","by","row"] (defScope s_times_row) _ from⟨rfl,by decide +kernel,by decide +kernel,by decide +kernel,by decide +kernel,by decide +kernel⟩) (pi_tup (pv 2)) (fun _ _ _ _ _=>(pg_name (i:=3) (by show List.Nodup (["kind","by","row","x"]:List Str);decide +kernel) rfl (Or.inl rfl))) (fun _ _ _ _ _=>(pe_meth (pv 0) R.cl R.t_times R.G_times (hr.mono (by decide)) R.b_times .nil pass0 (pa_cons (pv 1) (pa_cons (pv 3) pa_nil))))) pa_nil)))),?_⟩
    refine⟨_,rfl,p,rfl,⟨_,SqT.of hp⟩,comp_go (n:=n) (fun j ys H2=>Same H H2∧Ents (R.Wt (fun i=>R.S.mul b (x i)) (jl+m)) ys j H2) hn ⟨Same.refl _,Ents.nil⟩ (fun j ys H2 q=>q.2.1) ?_ ?_ ?_⟩
    · rintro j ys H2 hj ⟨q,e⟩
      obtain⟨u,eu,pu⟩:=ent.2 j hj
      refine⟨⟨_,_,SqT.of (q _ _ hp),eu⟩,fun y H' hy=>?_⟩
      obtain⟨rfl,hy⟩:=hy
      have:=hy _ (SqT.of (q _ _ hp))
      rw[eu]at this
      cases this
      refine⟨⟨[some _],rfl,rfl⟩,_,rfl,_,_,_,rfl,q _ _ hk,R.l_times,_,rfl,_,rfl,_,_,_,_,_,100 * jl,100 * m,rfl,⟨⟨_,_,rfl,q _ _ hk⟩,R.same q.t hb,R.same q.t pu.1,R.S.lv_sz _ _ _ (by decide) lb,R.S.lv_sz _ _ _ (by decide) pu.2,by omega⟩,fun v H3 s3 f3=>?_⟩
      exact⟨q.trans s3,(e.mono fun _ _ _ z=>KindR.Wt.same s3.t z).snoc ⟨f3,R.S.lv_mono _ _ _ _ (by decide) (R.S.lv_mul _ _ _ _ lb pu.2)⟩⟩
    · rintro ys H2 ⟨q,e⟩
      exact⟨_,SqT.of (q _ _ hp),by rw[ent.1];exact Nat.le_refl _⟩
    · rintro ys H2 l ⟨q,e⟩ nl
      have s1':=same_upd (o:=.lst ys) nl
      refine⟨l,ys,rfl,.inl ⟨SqL.of upd_same,fun l2 n2=>?_⟩⟩
      have s2:=same_upd (o:=.tup ys) n2
      exact k _ _ (q.trans (s1'.trans s2)) ⟨l2,ys,rfl,upd_same,e.mono fun _ _ _ z=>KindR.Wt.same (s1'.trans s2).t z⟩
def MachG(R:KindR Pr w K mg base)(l:List Nat)(n:Nat)(st:Nat→R.S.W)(tb:Nat→Nat→Nat→R.S.W)(en:Nat→R.S.W)(m1 m2 m3:Nat)(v:V)(H:Hp):Prop:=
  ∃p sv tv ev,v=.ref p∧H p=some (.tup [vT l,sv,tv,ev])∧R.Row n st m1 sv H∧TupOf (fun j u H=>R.Tab n n (tb j) m2 u H) l.length tv H∧R.Row n en m3 ev H
theorem MachG.same{R:KindR Pr w K mg base}{l:List Nat}{n:Nat}{st:Nat→R.S.W}{tb:Nat→Nat→Nat→R.S.W}{en:Nat→R.S.W}{m1 m2 m3:Nat}{v:V}{H H':Hp}(s:SameT H H')(h:MachG R l n st tb en m1 m2 m3 v H):MachG R l n st tb en m1 m2 m3 v H':=by
  obtain⟨p,sv,tv,ev,rfl,hp,h1,h2,h3⟩:=h
  exact⟨p,sv,tv,ev,rfl,s _ _ hp,KindR.Row.same s h1,h2.mono s fun _ _ _ q=>KindR.Tab.same s q,KindR.Row.same s h3⟩
theorem MachG.m{R:KindR Pr w K mg base}{l:List Nat}{n:Nat}{st:Nat→R.S.W}{tb:Nat→Nat→Nat→R.S.W}{en:Nat→R.S.W}{m1 m2 m3:Nat}{v:V}{H:Hp}(h:MachG R l n st tb en m1 m2 m3 v H):MachM R l n st tb en 0 v H:=by
  obtain⟨p,sv,tv,ev,a,b,c,d,e⟩:=h
  exact⟨p,sv,tv,ev,m1,m2,m3,a,b,c,d,e⟩
theorem Mach.g{R:KindR Pr w K mg base}{l:List Nat}{n:Nat}{st:Nat→R.S.W}{tb:Nat→Nat→Nat→R.S.W}{en:Nat→R.S.W}{m:Nat}{v:V}{H:Hp}(h:Mach R l n st tb en m v H):MachG R l n st tb en m m m v H:=h
def wgh(S:SR)(l:List Nat)(n:Nat)(st:Nat→S.W)(tb:Nat→Nat→Nat→S.W)(en:Nat→S.W)(ws:List Nat):S.W:=dotW S (ahd S n st tb (wdx l ws) ws.length) en n
theorem if0(n:Nat):(if n=0 then 0 else n)=n:=by split <;>omega
structure MOk(n:Nat)(l ws:List Nat):Prop where
  W:WOk l ws 100
  nn:n≤32
theorem lv_turn{i m1 m2:Nat}:m1+i * m2+m2=m1+(i+1) * m2:=by rw[Nat.succ_mul,Nat.add_assoc]
theorem lv_le{i m2:Nat}(h:i≤100):i * m2≤100 * m2:=Nat.mul_le_mul_right m2 h
def sp_rooms(w:World)(K:PySem.W.Frag)(mg:Str→Option Value)(base:Heap):Sp:=fun vs H Q _=>∃(R:KindR Pr w K mg base),∃mv l n st tb en m1 m2 m3,vs=[mv]∧MachG R l n st tb en m1 m2 m3 mv H∧Q (.int n) H
theorem ok_rooms(T:Txt K mg t):FnOk Pr w K mg base CX0 1 t.rooms t.d_rooms ["machine"] (sp_rooms w K mg base):=by
  refine T.F_rooms.ok sc_rooms (fun vs H Q E h=>?_) (fun cdv A outer s H vs Q E hr h=>?_)
  · obtain⟨R,mv,l,n,st,tb,en,m1,m2,m3,rfl,_⟩:=h
    rfl
  · obtain⟨R,mv,l,n,st,tb,en,m1,m2,m3,rfl,⟨p,sv,tv,ev,rfl,hp,h1,h2,h3⟩,k⟩:=h
    refine⟨_,(pss_one (ps_ret (pe_callB call_len (by rfl) T.z_len PySem.boot_len (pa_cons (pe_ix ix_tup (pv 0) pe_int (fun _ _=>rfl)) pa_nil)))),?_⟩
    exact⟨_,rfl,_,_,_,_,rfl,rfl,SqT.of hp,rfl,_,_,rfl,h1.len,k⟩
def sp_table_of(w:World)(K:PySem.W.Frag)(mg:Str→Option Value)(base:Heap):Sp:=fun vs H Q _=>∃(R:KindR Pr w K mg base),∃mv l n st tb en m1 m2 m3 c,vs=[mv,vT [c]]∧(MachG R l n st tb en m1 m2 m3 mv H∧LOk l∧c∈l)∧∀v,R.Tab n n (tb (l.idxOf c)) m2 v H→Q v H
theorem ok_table_of(T:Txt K mg t):FnOk Pr w K mg base CX0 1 t.table_of t.d_table_of ["machine","letter"] (sp_table_of w K mg base):=by
  refine T.F_table_of.ok sc_table_of (fun vs H Q E h=>?_) (fun cdv A outer s H vs Q E hr h=>?_)
  · obtain⟨R,mv,l,n,st,tb,en,m1,m2,m3,c,rfl,_⟩:=h
    rfl
  · obtain⟨R,mv,l,n,st,tb,en,m1,m2,m3,c,rfl,⟨⟨p,sv,tv,ev,rfl,hp,h1,⟨q,ts,rfl,hq,et⟩,h3⟩,L,hc⟩,k⟩:=h
    obtain⟨u,eu,pu⟩:=et.2 _ (idx_lt hc)
    refine⟨_,(pss_one (ps_ret (pe_ix ix_tup (pe_ix ix_tup (pv 0) pe_int (fun _ _=>rfl)) (pe_bm PySem.F.plainAttrs_str PySem.F.slot_str_index PySem.F.type_str_index mt_indexS (pe_ix ix_tup (pv 0) pe_int (fun _ _=>rfl)) (pa_cons (pv 1) pa_nil)) (fun _ _=>rfl)))),?_⟩
    exact⟨_,rfl,_,_,_,_,rfl,rfl,SqT.of hp,rfl,_,rfl,_,_,_,_,rfl,rfl,SqT.of hp,rfl,rfl,_,rfl,_,_,_,_,rfl,rfl,occ_of L hc,_,_,_,_,rfl,rfl,SqT.of hq,atI_nat eu,k _ pu⟩
def sp_ahead(w:World)(K:PySem.W.Frag)(mg:Str→Option Value)(base:Heap):Sp:=fun vs H Q _=>∃(R:KindR Pr w K mg base),∃kv mv l n st tb en ws m1 m2 m3,vs=[kv,mv,vT ws]∧(KAt R.C R.fs H kv∧MachG R l n st tb en m1 m2 m3 mv H∧MOk n l ws∧m1+100 * m2+m3≤50000)∧
  ∀v H',Same H H'→R.Row n (ahd R.S n st tb (wdx l ws) ws.length) (m1+ws.length * m2) v H'→Q v H'
theorem ok_ahead(T:Txt K mg t):FnOk Pr w K mg base CX0 43 t.ahead t.d_ahead ["kind","machine","word"] (sp_ahead w K mg base):=by
  refine T.F_ahead.ok sc_ahead (fun vs H Q E h=>?_) (fun cdv A outer s H vs Q E hr h=>?_)
  · obtain⟨R,kv,mv,l,n,st,tb,en,ws,m1,m2,m3,rfl,_⟩:=h
    rfl
  · obtain⟨R,kv,mv,l,n,st,tb,en,ws,m1,m2,m3,rfl,⟨hk,hm,M,hz⟩,k⟩:=h
    have W:=M.W
    have wz:=W.le
    have hn:=M.nn
    obtain⟨p,sv,tv,ev,rfl,hp,h1,h2,h3⟩:=id hm
    refine⟨_,(pss_cons (ps_expr (pe_call (ok_need_word T) (hr.mono (by decide)) rfl T.m_need_word T.F_need_word.kp T.b_need_word .nil pass0 (pa_cons (pe_ix ix_tup (pv 1) pe_int (fun _ _=>rfl)) (pa_cons (pv 2) pa_nil)))) (pss_cons (ps_set (i:=3) sc_ahead.nd rfl (Or.inl rfl) (pe_ix ix_tup (pv 1) pe_int (fun _ _=>rfl))) (pss_cons (ps_for PassesOwn.never rfl (pi_str (pv 2)) (pg_name (i:=4) sc_ahead.nd rfl (Or.inl rfl)) (pss_one (ps_set (i:=3) sc_ahead.nd rfl (Or.inl rfl) (pe_call (ok_row_by T) (hr.mono (by decide)) rfl T.m_row_by T.F_row_by.kp T.b_row_by .nil pass0 (pa_cons (pv 0) (pa_cons (pv 3) (pa_cons (pe_call (ok_table_of T) (hr.mono (by decide)) rfl T.m_table_of T.F_table_of.kp T.b_table_of .nil pass0 (pa_cons (pv 1) (pa_cons (pv 4) pa_nil))) pa_nil))))))) (pss_one (ps_ret (pv 3)))))),?_⟩
    refine⟨_,rfl,_,_,_,_,rfl,rfl,SqT.of hp,rfl,_,rfl,l,ws,100,rfl,⟨W,by decide⟩,fun H1 s1=>?_⟩
    refine⟨_,rfl,_,_,_,_,rfl,rfl,SqT.of (s1 _ _ hp),rfl,?_⟩
    refine⟨_,rfl,_,rfl,W.asc,for_it (n:=ws.length) (fun i σ H2=>∃rv v4,σ=[some kv,some (.ref p),some (vT ws),some rv,v4]∧Same H H2∧R.Row n (ahd R.S n st tb (wdx l ws) i) (m1+i * m2) rv H2) ⟨_,_,rfl,s1,by rw[Nat.zero_mul];exact KindR.Row.same s1.t h1⟩ ?_ ?_⟩
    · rintro i σ H2 hi ⟨rv,v4,rfl,q,hrow⟩
      refine⟨(by show i < ws.toArray.size;simpa using hi),fun x H' hy=>?_⟩
      obtain⟨rfl,c,hc,rfl⟩:=hy
      have hc:=tx_get hc
      have li:=lv_le (i:=i) (m2:=m2) (by omega)
      refine⟨_,rfl,_,rfl,_,rfl,_,rfl,R,_,l,n,st,tb,en,m1,m2,m3,c,rfl,⟨hm.same q.t,W.lo,W.mem hc⟩,fun tbv htb=>?_⟩
      refine⟨R,_,_,_,n,n,_,_,m1+i * m2,m2,rfl,⟨hk.same q,hrow.seq,htb,by omega,by omega,by omega,by omega⟩,fun v H3 s3 r3=>?_⟩
      rw[if0]at r3
      refine⟨_,_,rfl,q.trans s3,?_⟩
      have r4:=r3
      rw[lv_turn,← wdx_at hc]at r4
      exact r4
    · rintro σ H2 ⟨rv,v4,rfl,q,hrow⟩
      exact⟨(by show ws.toArray.size≤_;simp),_,rfl,k _ _ q hrow⟩
def sp_weight(w:World)(K:PySem.W.Frag)(mg:Str→Option Value)(base:Heap):Sp:=fun vs H Q _=>∃(R:KindR Pr w K mg base),∃kv mv l n st tb en ws m1 m2 m3,vs=[kv,mv,vT ws]∧(KAt R.C R.fs H kv∧MachG R l n st tb en m1 m2 m3 mv H∧MOk n l ws∧m1+100 * m2+m3≤50000)∧
  ∀v H',Same H H'→R.is H' v (wgh R.S l n st tb en ws)→R.S.lv (m1+ws.length * m2+m3) 32 (wgh R.S l n st tb en ws)→Q v H'
theorem ok_weight(T:Txt K mg t):FnOk Pr w K mg base CX0 44 t.weight t.d_weight ["kind","machine","word"] (sp_weight w K mg base):=by
  refine T.F_weight.ok sc_weight (fun vs H Q E h=>?_) (fun cdv A outer s H vs Q E hr h=>?_)
  · obtain⟨R,kv,mv,l,n,st,tb,en,ws,m1,m2,m3,rfl,_⟩:=h
    rfl
  · obtain⟨R,kv,mv,l,n,st,tb,en,ws,m1,m2,m3,rfl,⟨hk,hm,M,hz⟩,k⟩:=h
    obtain⟨p,sv,tv,ev,rfl,hp,h1,h2,h3⟩:=id hm
    have wz:=M.W.le
    have hn:=M.nn
    have li:=lv_le (m2:=m2) wz
    refine⟨_,(pss_one (ps_ret (pe_call (ok_dot T) (hr.mono (by decide)) rfl T.m_dot T.F_dot.kp T.b_dot .nil pass0 (pa_cons (pv 0) (pa_cons (pe_call (ok_ahead T) (hr.mono (by decide)) rfl T.m_ahead T.F_ahead.kp T.b_ahead .nil pass0 (pa_cons (pv 0) (pa_cons (pv 1) (pa_cons (pv 2) pa_nil)))) (pa_cons (pe_ix ix_tup (pv 1) pe_int (fun _ _=>rfl)) pa_nil)))))),?_⟩
    refine⟨_,rfl,_,rfl,_,rfl,_,rfl,R,_,_,l,n,st,tb,en,ws,m1,m2,m3,rfl,⟨hk,hm,M,hz⟩,fun v H1 s1 r1=>?_⟩
    refine⟨_,rfl,_,_,_,_,rfl,rfl,SqT.of (s1 _ _ hp),rfl,R,_,_,_,n,_,en,m1+ws.length * m2,m3,rfl,⟨hk.same s1,r1.seq,(KindR.Row.same s1.t h3).seq,by omega,by omega⟩,fun v2 H2 s2 f2 z2=>?_⟩
    exact k _ _ (s1.trans s2) f2 z2
theorem FnOk.or{P:Program}{w:World}{K:PySem.W.Frag}{mg:Str→Option Value}{base:Heap}{CX:CXT}{k:Nat}{f:Addr}{fd:FuncData}{ps:List Str}{sp sp':Sp}(F:FnOk P w K mg base CX k f fd ps sp)(G:FnOk P w K mg base CX k f fd ps sp') :
    FnOk P w K mg base CX k f fd ps (fun vs H Q E=>sp vs H Q E∨sp' vs H Q E):=
  ⟨fun vs H Q E h=>h.elim (F.len vs H Q E) (G.len vs H Q E),fun A outer s H args us vs Q E hr e0 hb r h=>h.elim (F.run A outer s H args us vs Q E hr e0 hb r) (G.run A outer s H args us vs Q E hr e0 hb r)⟩
def spx_few(t:Adr):Sp:=fun vs H Q E=>∃(z:Int),vs=[.int z]∧(z≤20→Q .non H)∧(20 < z→E (.ref t.TooGreat) none H)
theorem okx_need_few_rooms(T:Txt K mg t):FnOk Pr w K mg base (CX1 Pr w) 1 t.need_few_rooms t.d_need_few_rooms ["count"] (spx_few t):=by
  refine T.F_need_few_rooms.okx sc_need_few_rooms (fun vs H Q E h=>?_) (fun cdv A outer s H vs Q E hr h=>?_)
  · obtain⟨z,rfl,_⟩:=h
    rfl
  · obtain⟨z,rfl,k0,k1⟩:=h
    refine⟨_,(pss_one (ps_if (pt_cmpR op_gt (pv 0) (pe_glob (v:=.int 20) rfl T.c_MOST_ROOMS.choose_spec ⟨_,rfl⟩) (nomark _)) (pss_one (ps_raise thru_cx rfl T.x_TooGreat.ex rfl T.m_TooGreat (pa_cons pe_str pa_nil))) pss_nil)),?_⟩
    refine⟨_,rfl,_,_,rfl,rfl,_,rfl,?_⟩
    refine iteP (fun h0=>⟨(by show 1≤sizeLine;decide),k1 (by omega)⟩) (fun h0=>?_)
    exact k0 (by omega)
def sp_few:Sp:=fun vs H Q _=>∃(z:Int),vs=[.int z]∧z≤20∧Q .non H
theorem ok_need_few_rooms(T:Txt K mg t):FnOk Pr w K mg base CX0 1 t.need_few_rooms t.d_need_few_rooms ["count"] sp_few:=
  (okx_need_few_rooms T).quiet.imp fun vs H Q E h=>by
    obtain⟨z,rfl,hz,k⟩:=h
    exact⟨z,rfl,fun _=>k,fun z'=>absurd z' (by omega)⟩
theorem iteVT{l l':List Nat}{A B:Prop}(h1:l≠l'→A)(h2:l=l'→B):if(!decide (vT l=vT l'))=true then A else B:=by
  by_cases h:l=l'
  · rw[if_neg (by rw[h];simp)];exact h2 h
  · rw[if_pos]
    · exact h1 h
    · rw[decide_eq_false (fun e=>h (by
        have:=congrArg (fun z:Str=>z.cps.toList) (V.str.inj e)
        simpa [tx] using this))]
      rfl
def spx_samel(t:Adr):Sp:=fun vs H Q E=>∃(l l':List Nat),∃p q s1 t1 e1 s2 t2 e2,vs=[.ref p,.ref q]∧(H p=some (.tup [vT l,s1,t1,e1])∧H q=some (.tup [vT l',s2,t2,e2]))∧(l=l'→Q .non H)∧(l≠l'→E (.ref t.Unlike) none H)
theorem okx_need_same_letters(T:Txt K mg t):FnOk Pr w K mg base (CX1 Pr w) 1 t.need_same_letters t.d_need_same_letters ["one","other"] (spx_samel t):=by
  refine T.F_need_same_letters.okx sc_need_same_letters (fun vs H Q E h=>?_) (fun cdv A outer s H vs Q E hr h=>?_)
  · obtain⟨l,l',p,q,s1,t1,e1,s2,t2,e2,rfl,_⟩:=h
    rfl
  · obtain⟨l,l',p,q,s1,t1,e1,s2,t2,e2,rfl,⟨hp,hq⟩,k0,k1⟩:=h
    refine⟨_,(pss_one (ps_if (pt_cmpR op_ne (pe_ix ix_tup (pv 0) pe_int (fun _ _=>rfl)) (pe_ix ix_tup (pv 1) pe_int (fun _ _=>rfl)) (nomark _)) (pss_one (ps_raise thru_cx rfl T.x_Unlike.ex rfl T.m_Unlike (pa_cons pe_str pa_nil))) pss_nil)),?_⟩
    refine⟨_,rfl,_,_,_,_,rfl,rfl,SqT.of hp,rfl,_,rfl,_,_,_,_,rfl,rfl,SqT.of hq,rfl,rfl,_,rfl,?_⟩
    refine iteVT (fun h=>⟨(by show 1≤sizeLine;decide),k1 h⟩) (fun h=>?_)
    exact k0 h
def sp_samel(w:World)(K:PySem.W.Frag)(mg:Str→Option Value)(base:Heap):Sp:=fun vs H Q _=>∃(l:List Nat),∃p q s1 t1 e1 s2 t2 e2,vs=[.ref p,.ref q]∧(H p=some (.tup [vT l,s1,t1,e1])∧H q=some (.tup [vT l,s2,t2,e2]))∧Q .non H
theorem ok_need_same_letters(T:Txt K mg t):FnOk Pr w K mg base CX0 1 t.need_same_letters t.d_need_same_letters ["one","other"] (sp_samel w K mg base):=
  (okx_need_same_letters T).quiet.imp fun vs H Q E h=>by
    obtain⟨l,p,q,s1,t1,e1,s2,t2,e2,rfl,hh,k⟩:=h
    exact⟨l,l,p,q,s1,t1,e1,s2,t2,e2,rfl,hh,fun _=>k,fun z=>absurd rfl z⟩
def cat(S:SR)(n:Nat)(x y:Nat→S.W):Nat→S.W:=fun i=>if i < n then x i else y (i - n)
theorem cat_lt{S:SR}{n i:Nat}{x y:Nat→S.W}(h:i < n):cat S n x y i=x i:=if_pos h
theorem cat_ge{S:SR}{n i:Nat}{x y:Nat→S.W}:cat S n x y (n+i)=y i:=by
  unfold cat
  rw[if_neg (by omega),Nat.add_sub_cancel_left]
def blk(S:SR)(n:Nat)(A C B:Nat→Nat→S.W):Nat→Nat→S.W:=fun i=>if i < n then cat S n (A i) (C i)else cat S n (fun _=>S.zero) (B (i - n))
theorem blk_lt{S:SR}{n i:Nat}{A C B:Nat→Nat→S.W}(h:i < n):blk S n A C B i=cat S n (A i) (C i):=if_pos h
theorem blk_ge{S:SR}{n i:Nat}{A C B:Nat→Nat→S.W}:blk S n A C B (n+i)=cat S n (fun _=>S.zero) (B i):=by
  unfold blk
  rw[if_neg (by omega),Nat.add_sub_cancel_left]
theorem ents_cat{R:KindR Pr w K mg base}{n l m:Nat}{x y:Nat→R.S.W}{xs ys:List V}{H:Hp}(a:Ents (R.Wt x m) xs n H)(b:Ents (R.Wt y m) ys l H):Ents (R.Wt (cat R.S n x y) m) (xs++ys) (n+l) H:=
  Ents.app (a.mono fun j _ hj q=>by show R.is _ _ (cat R.S n x y j)∧R.S.lv m 32 (cat R.S n x y j);rw[cat_lt hj];exact q) (b.mono fun j _ _ q=>by show R.is _ _ (cat R.S n x y (n+j))∧R.S.lv m 32 (cat R.S n x y (n+j));rw[cat_ge];exact q)
def sp_beside(w:World)(K:PySem.W.Frag)(mg:Str→Option Value)(base:Heap):Sp:=fun vs H Q _=>∃(R:KindR Pr w K mg base),∃kv fv sv tv n l A B C m,vs=[kv,fv,sv,tv]∧(KAt R.C R.fs H kv∧R.Tab n n A m fv H∧R.Tab l l B m sv H∧SeqOf K (fun j u H=>R.Row l (C j) m u H) n tv H∧n≤500∧l≤500)∧
  ∀v H',Same H H'→R.Tab (n+l) (n+l) (blk R.S n A C B) m v H'→Q v H'
theorem ok_beside(T:Txt K mg t):FnOk Pr w K mg base CX0 43 t.beside t.d_beside ["kind","first","second","step"] (sp_beside w K mg base):=by
  refine T.F_beside.ok sc_beside (fun vs H Q E h=>?_) (fun cdv A outer s H vs Q E hr h=>?_)
  · obtain⟨R,kv,fv,sv,tv,n,l,A,B,C,m,rfl,_⟩:=h
    rfl
  · obtain⟨R,kv,fv,sv,tv,n,l,A0,B,C,m,rfl,⟨hk,⟨fp,fs,rfl,hf,ef⟩,⟨sp,ss,rfl,hs,es⟩,⟨S2,ts,o2,v2,w2,et⟩,hn,hl⟩,k⟩:=h
    have sl:1000 < sizeLine:=by decide
    have hlen:∀H',Same H H'→LenV K (.ref fp) H' n:=fun H' s'=>.inr ⟨_,SqT.of (s' _ _ hf),ef.1.symm⟩
    refine⟨_,(pss_cons (ps_setC (i₀:=4) (xs:=["row","extra"]) sc_beside.nd rfl (Or.inl rfl) rfl (show CompOk ["kind","first","second","step","upper","lower"] (defScope s_beside) _ from⟨rfl,by decide +kernel,by decide +kernel,by decide +kernel,by decide +kernel,by decide +kernel⟩) (pi_zip rfl T.z_zip (pa_cons (pv 1) (pa_cons (pv 3) pa_nil))) (fun _ _ _ _ _=>(show PG _ _ (gTup K 2 _)from(pg_tup rfl (pgs_cons (pg_name (i:=6) (by show List.Nodup (["kind","first","second","step","upper","lower","row","extra"]:List Str);decide +kernel) rfl (Or.inl rfl)) (pgs_cons (pg_name (i:=7) (by show List.Nodup (["kind","first","second","step","upper","lower","row","extra"]:List Str);decide +kernel) rfl (Or.inl rfl)) pgs_nil))))) (fun _ _ _ _ _=>(pe_op op_catA (pv 6) (pv 7)))) (pss_cons (ps_setC (i₀:=5) (xs:=["row"]) sc_beside.nd rfl (Or.inl rfl) rfl (show CompOk ["kind","first","second","step","upper","lower"] (defScope s_beside) _ from⟨rfl,by decide +kernel,by decide +kernel,by decide +kernel,by decide +kernel,by decide +kernel⟩) (pi_tup (pv 2)) (fun _ _ _ _ _=>(pg_name (i:=6) (by show List.Nodup (["kind","first","second","step","upper","lower","row"]:List Str);decide +kernel) rfl (Or.inl rfl))) (fun _ _ _ _ _=>(pe_op op_catA (pe_call (ok_noughts (w:=w) (base:=base) T) (hr.mono (by decide)) rfl T.m_noughts T.F_noughts.kp T.b_noughts .nil pass0 (pa_cons (pv 0) (pa_cons (pe_callB (show CallR _ (.builtin "len") (fun xs H Q=>∃x n,xs=[x]∧LenV K x H n∧Q (V.int (n:Nat)) H)from call_len) (by rfl) T.z_len PySem.boot_len (pa_cons (pv 1) pa_nil)) pa_nil))) (pv 6)))) (pss_one (ps_ret (pe_callTy call_tuple_of (by rfl) T.z_tuple boot_tuple (pa_cons (pe_op op_cat (pv 4) (pv 5)) pa_nil)))))),?_⟩
    refine⟨_,rfl,_,rfl,.tup fp,S2,_,_,fs,ts,rfl,rfl,o2,SqT.of hf,v2,comp_go (n:=n) (fun j ys H2=>Same H H2∧Ents (fun i u H=>R.Row (n+l) (cat R.S n (A0 i) (C i)) m u H) ys j H2) (by omega) ⟨Same.refl _,Ents.nil⟩ (fun j ys H2 q=>q.2.1) ?_ ?_ ?_⟩
    · rintro j ys H2 hj ⟨q,e⟩
      obtain⟨u,eu,pu⟩:=ef.2 j hj
      obtain⟨v,ev,pv⟩:=et.2 j hj
      refine⟨⟨fs,ts,u,v,SqT.of (q _ _ hf),(w2 _ q).1,eu,ev⟩,fun y H' hy=>?_⟩
      obtain⟨pp,x',y',rfl,np,rfl,f1,f2⟩:=hy
      have e1:=f1 _ (SqT.of (q _ _ hf))
      rw[eu]at e1
      cases e1
      have e2:=f2 _ (w2 _ q).1
      rw[ev]at e2
      cases e2
      have s3:=same_upd (o:=.tup [u,v]) np
      have q3:=q.trans s3
      obtain⟨a,as,rfl,ha,ea⟩:=KindR.Row.same q3.t pu
      obtain⟨b,bs,rfl,hb,eb⟩:=KindR.Row.same q3.t pv
      refine⟨pp,_,rfl,SqT.of upd_same,rfl,_,_,rfl,_,_,rfl,rfl,⟨[some _,some _],rfl,rfl⟩,_,rfl,_,rfl,_,_,as,bs,rfl,rfl,ha,hb,(by rw[ea.1,eb.1];omega),fun p4 H4 s4 h4=>?_⟩
      exact⟨q3.trans s4,(e.mono fun _ _ _ z=>KindR.Row.same (s3.trans s4).t z).snoc ⟨p4,_,rfl,h4,(ents_cat ea eb).mono fun _ _ _ z=>KindR.Wt.same s4.t z⟩⟩
    · rintro ys H2 ⟨q,e⟩
      exact⟨fs,ts,SqT.of (q _ _ hf),(w2 _ q).1,.inl ef.1.symm⟩
    · rintro us H2 up ⟨q,eU⟩ nu
      have s3:=same_upd (o:=.lst us) nu
      have q3:=q.trans s3
      have hu:upd H2 up (.lst us) up=some (.lst us):=upd_same
      have eU:=eU.mono fun _ _ _ z=>KindR.Row.same s3.t z
      revert hu q3 eU
      clear s3 nu q
      generalize upd H2 up (.lst us)=H3
      intro q3 hu eU
      show gName 4 (.ref up) [some kv,some (.ref fp),some (.ref sp),some tv,none,none] H3 _
      refine⟨_,rfl,sp,rfl,⟨_,SqT.of (q3 _ _ hs)⟩,comp_go (n:=l) (fun j ys H2=>Same H3 H2∧Ents (fun i u H=>R.Row (n+l) (cat R.S n (fun _=>R.S.zero) (B i)) m u H) ys j H2) (by omega) ⟨Same.refl _,Ents.nil⟩ (fun j ys H2 q=>q.2.1) ?_ ?_ ?_⟩
      · rintro j ys H4 hj ⟨q,e⟩
        have q4:=q3.trans q
        obtain⟨u,eu,pu⟩:=es.2 j hj
        refine⟨⟨_,_,SqT.of (q4 _ _ hs),eu⟩,fun y H' hy=>?_⟩
        obtain⟨rfl,hy⟩:=hy
        have:=hy _ (SqT.of (q4 _ _ hs))
        rw[eu]at this
        cases this
        refine⟨⟨[some _],rfl,rfl⟩,_,rfl,_,rfl,_,n,rfl,hlen _ q4,R,_,_,n,m,rfl,⟨hk.same q4,by omega,rfl⟩,fun v H5 s5 r5=>?_⟩
        have q5:=q4.trans s5
        obtain⟨a,as,rfl,ha,ea⟩:=r5
        obtain⟨b,bs,rfl,hb,eb⟩:=KindR.Row.same q5.t pu
        refine⟨_,rfl,_,_,as,bs,rfl,rfl,ha,hb,(by rw[ea.1,eb.1];omega),fun p6 H6 s6 h6=>?_⟩
        exact⟨q.trans (s5.trans s6),(e.mono fun _ _ _ z=>KindR.Row.same (s5.trans s6).t z).snoc ⟨p6,_,rfl,h6,(ents_cat ea eb).mono fun _ _ _ z=>KindR.Wt.same s6.t z⟩⟩
      · rintro ys H4 ⟨q,e⟩
        exact⟨_,SqT.of (q3.trans q _ _ hs),by rw[es.1];exact Nat.le_refl _⟩
      · rintro ls H4 lp ⟨q,eL⟩ nl
        have s5:=same_upd (o:=.lst ls) nl
        have q5:=q.trans s5
        show gName 5 (.ref lp) [some kv,some (.ref fp),some (.ref sp),some tv,some (.ref up),none] _ _
        refine⟨_,rfl,_,rfl,_,_,us,ls,rfl,rfl,q5 _ _ hu,upd_same,(by rw[eU.1,eL.1];omega),fun cp nc=>?_⟩
        have s6:=same_upd (o:=.lst (us++ls)) nc
        refine⟨cp,us++ls,rfl,.inl ⟨SqL.of upd_same,fun l2 n2=>?_⟩⟩
        have s7:=same_upd (o:=.tup (us++ls)) n2
        have s67:=s6.trans s7
        have s57:=s5.trans s67
        have s37:=q.trans s57
        refine k _ _ (q3.trans s37) ⟨l2,us++ls,rfl,upd_same,Ents.app (eU.mono fun i _ hi z=>?_) (eL.mono fun i _ hi z=>?_)⟩
        · show R.Row (n+l) (blk R.S n A0 C B i) m _ _
          rw[blk_lt hi]
          exact KindR.Row.same s37.t z
        · show R.Row (n+l) (blk R.S n A0 C B (n+i)) m _ _
          rw[blk_ge]
          exact KindR.Row.same s57.t z
def sp_put_beside(w:World)(K:PySem.W.Frag)(mg:Str→Option Value)(base:Heap):Sp:=fun vs H Q _=>∃(R:KindR Pr w K mg base),∃kv ov hv l n k st1 tb1 en1 st2 tb2 en2 m1 m2 m3,vs=[kv,ov,hv]∧(KAt R.C R.fs H kv∧MachG R l n st1 tb1 en1 m1 m2 m3 ov H∧MachG R l k st2 tb2 en2 m1 m2 m3 hv H∧LOk l∧n+k≤20)∧
  ∀v H',Same H H'→MachG R l (n+k) (cat R.S n st1 st2) (fun c=>blk R.S n (tb1 c) (fun _ _=>R.S.zero) (tb2 c)) (cat R.S n en1 en2) m1 m2 m3 v H'→Q v H'
theorem ok_put_beside(T:Txt K mg t):FnOk Pr w K mg base CX0 44 t.put_beside t.d_put_beside ["kind","one","other"] (sp_put_beside w K mg base):=by
  refine T.F_put_beside.ok sc_put_beside (fun vs H Q E h=>?_) (fun cdv A outer s H vs Q E hr h=>?_)
  · obtain⟨R,kv,ov,hv,l,n,k,st1,tb1,en1,st2,tb2,en2,m1,m2,m3,rfl,_⟩:=h
    rfl
  · obtain⟨R,kv,ov,hv,l,n,j,st1,tb1,en1,st2,tb2,en2,m1,m2,m3,rfl,⟨hk,ho,hh,L,hz⟩,k⟩:=h
    have sl:1000 < sizeLine:=by decide
    have l3:=L.h3
    refine⟨_,(pss_cons (ps_set (i:=3) sc_put_beside.nd rfl (Or.inr rfl) (pe_comp (xs:=["room"]) rfl (show CompOk ["kind","one","other","no_step","tables"] (defScope s_put_beside) _ from⟨rfl,by decide +kernel,by decide +kernel,by decide +kernel,by decide +kernel,by decide +kernel⟩) (pi_range1 rfl T.z_range (pa_cons (pe_call (ok_rooms T) (hr.mono (by decide)) rfl T.m_rooms T.F_rooms.kp T.b_rooms .nil pass0 (pa_cons (pv 1) pa_nil)) pa_nil)) (fun _ _ _ _ _=>(pg_name (i:=5) (by show List.Nodup (["kind","one","other","no_step","tables","room"]:List Str);decide +kernel) rfl (Or.inl rfl))) (fun _ _ _ _ _=>(pe_call (ok_noughts (w:=w) (base:=base) T) (hr.mono (by decide)) rfl T.m_noughts T.F_noughts.kp T.b_noughts .nil pass0 (pa_cons (pv 0) (pa_cons (pe_call (ok_rooms (w:=w) (base:=base) T) (hr.mono (by decide)) rfl T.m_rooms T.F_rooms.kp T.b_rooms .nil pass0 (pa_cons (pv 2) pa_nil)) pa_nil)))))) (pss_cons (ps_setC (i₀:=4) (xs:=["first","second"]) sc_put_beside.nd rfl (Or.inl rfl) rfl (show CompOk ["kind","one","other","no_step","tables"] (defScope s_put_beside) _ from⟨rfl,by decide +kernel,by decide +kernel,by decide +kernel,by decide +kernel,by decide +kernel⟩) (pi_zip rfl T.z_zip (pa_cons (pe_ix ix_tup (pv 1) pe_int (fun _ _=>rfl)) (pa_cons (pe_ix ix_tup (pv 2) pe_int (fun _ _=>rfl)) pa_nil))) (fun _ _ _ _ _=>(show PG _ _ (gTup K 2 _)from(pg_tup rfl (pgs_cons (pg_name (i:=5) (by show List.Nodup (["kind","one","other","no_step","tables","first","second"]:List Str);decide +kernel) rfl (Or.inl rfl)) (pgs_cons (pg_name (i:=6) (by show List.Nodup (["kind","one","other","no_step","tables","first","second"]:List Str);decide +kernel) rfl (Or.inl rfl)) pgs_nil))))) (fun _ _ _ _ _=>(pe_call (ok_beside (w:=w) (base:=base) T) (hr.mono (by decide)) rfl T.m_beside T.F_beside.kp T.b_beside .nil pass0 (pa_cons (pv 0) (pa_cons (pv 5) (pa_cons (pv 6) (pa_cons (pv 3) pa_nil))))))) (pss_one (ps_ret (pe_tup (pa_cons (pe_ix ix_tup (pv 1) pe_int (fun _ _=>rfl)) (pa_cons (pe_op op_catA (pe_ix ix_tup (pv 1) pe_int (fun _ _=>rfl)) (pe_ix ix_tup (pv 2) pe_int (fun _ _=>rfl))) (pa_cons (pe_callTy call_tuple_of (by rfl) T.z_tuple boot_tuple (pa_cons (pv 4) pa_nil)) (pa_cons (pe_op op_catA (pe_ix ix_tup (pv 1) pe_int (fun _ _=>rfl)) (pe_ix ix_tup (pv 2) pe_int (fun _ _=>rfl))) pa_nil))))))))),?_⟩
    refine⟨_,rfl,R,_,l,n,st1,tb1,en1,m1,m2,m3,rfl,ho,_,rfl,(by omega),(by omega),comp_go (n:=n) (fun i ys H2=>Same H H2∧Ents (fun _ u H=>R.Row j (fun _=>R.S.zero) m2 u H) ys i H2) (by omega) ⟨Same.refl _,Ents.nil⟩ (fun j ys H2 q=>q.2.1) ?_ ?_ ?_⟩
    · rintro i ys H2 hi ⟨q,e⟩
      refine⟨(show i < (n:Int).toNat by omega),fun y H' hy=>?_⟩
      obtain⟨rfl,rfl⟩:=hy
      refine⟨⟨[some _],rfl,rfl⟩,_,rfl,_,rfl,R,_,l,j,st2,tb2,en2,m1,m2,m3,rfl,hh.same q.t,R,_,_,j,m2,rfl,⟨hk.same q,by omega,rfl⟩,fun v H3 s3 r3=>?_⟩
      exact⟨q.trans s3,(e.mono fun _ _ _ z=>KindR.Row.same s3.t z).snoc r3⟩
    · rintro ys H2 ⟨q,e⟩
      show(n:Int).toNat≤n
      omega
    · rintro ns H2 np ⟨q,eN⟩ nn
      have s3:=same_upd (o:=.lst ns) nn
      have q3:=q.trans s3
      have hN:upd H2 np (.lst ns) np=some (.lst ns):=upd_same
      have eN:=eN.mono fun _ _ _ z=>KindR.Row.same s3.t z
      revert q3 hN eN
      clear s3 nn q
      generalize upd H2 np (.lst ns)=H3
      intro q3 hN eN
      show gName 3 (.ref np) [some kv,some ov,some hv,none,none] H3 _
      obtain⟨p1,sv1,tv1,ev1,rfl,hp1,a1,⟨t1,ts1,rfl,ht1,et1⟩,c1⟩:=ho.same q3.t
      obtain⟨p2,sv2,tv2,ev2,rfl,hp2,a2,⟨t2,ts2,rfl,ht2,et2⟩,c2⟩:=hh.same q3.t
      refine⟨_,rfl,_,_,_,_,rfl,rfl,SqT.of hp1,rfl,_,rfl,_,_,_,_,rfl,rfl,SqT.of hp2,rfl,.tup t1,.tup t2,_,_,ts1,ts2,rfl,rfl,rfl,SqT.of ht1,SqT.of ht2,comp_go (n:=l.length) (fun i ys H2=>Same H3 H2∧Ents (fun c u H=>R.Tab (n+j) (n+j) (blk R.S n (tb1 c) (fun _ _=>R.S.zero) (tb2 c)) m2 u H) ys i H2) (by omega) ⟨Same.refl _,Ents.nil⟩ (fun j ys H2 q=>q.2.1) ?_ ?_ ?_⟩
      · rintro i ys H4 hi ⟨q,e⟩
        obtain⟨u,eu,pu⟩:=et1.2 i hi
        obtain⟨v,ev,pv⟩:=et2.2 i hi
        refine⟨⟨ts1,ts2,u,v,SqT.of (q _ _ ht1),SqT.of (q _ _ ht2),eu,ev⟩,fun y H' hy=>?_⟩
        obtain⟨pp,x',y',rfl,np',rfl,f1,f2⟩:=hy
        have e1:=f1 _ (SqT.of (q _ _ ht1))
        rw[eu]at e1
        cases e1
        have e2:=f2 _ (SqT.of (q _ _ ht2))
        rw[ev]at e2
        cases e2
        have s5:=same_upd (o:=.tup [u,v]) np'
        have q5:=q.trans s5
        refine⟨pp,_,rfl,SqT.of upd_same,rfl,_,_,rfl,_,_,rfl,rfl,⟨[some _,some _],rfl,rfl⟩,_,rfl,_,rfl,_,rfl,_,rfl,R,_,_,_,_,n,j,tb1 i,tb2 i,(fun _ _=>R.S.zero),m2,rfl,⟨(hk.same q3).same q5,KindR.Tab.same q5.t pu,KindR.Tab.same q5.t pv,SeqOf.list (q5 _ _ hN) (eN.mono fun _ _ _ z=>KindR.Row.same q5.t z),by omega,by omega⟩,fun w6 H6 s6 r6=>?_⟩
        exact⟨q5.trans s6,(e.mono fun _ _ _ z=>KindR.Tab.same (s5.trans s6).t z).snoc r6⟩
      · rintro ys H4 ⟨q,e⟩
        exact⟨ts1,ts2,SqT.of (q _ _ ht1),SqT.of (q _ _ ht2),.inl et1.1.symm⟩
      · rintro us H4 up ⟨q,eU⟩ nu
        have s5:=same_upd (o:=.lst us) nu
        have q5:=q.trans s5
        have hU:upd H4 up (.lst us) up=some (.lst us):=upd_same
        have eU:=eU.mono fun _ _ _ z=>KindR.Tab.same s5.t z
        revert q5 hU eU
        clear s5 nu q
        generalize upd H4 up (.lst us)=H5
        intro q5 hU eU
        show gName 4 (.ref up) [some kv,some (.ref p1),some (.ref p2),some (.ref np),none] H5 _
        obtain⟨b1,bs1,rfl,hb1,eb1⟩:=KindR.Row.same q5.t a1
        obtain⟨b2,bs2,rfl,hb2,eb2⟩:=KindR.Row.same q5.t a2
        refine⟨_,rfl,_,_,_,_,rfl,rfl,SqT.of (q5 _ _ hp1),rfl,_,rfl,_,_,_,_,rfl,rfl,SqT.of (q5 _ _ hp1),rfl,_,rfl,_,_,_,_,rfl,rfl,SqT.of (q5 _ _ hp2),rfl,_,_,bs1,bs2,rfl,rfl,hb1,hb2,(by rw[eb1.1,eb2.1];omega),fun p6 H6 s6 h6=>?_⟩
        refine⟨_,rfl,up,us,rfl,.inl ⟨SqL.of (s6 _ _ hU),fun p7 n7=>?_⟩⟩
        have s7:=same_upd (o:=.tup us) n7
        have s67:=s6.trans s7
        have q7:=q5.trans s67
        obtain⟨d1,ds1,rfl,hd1,ed1⟩:=KindR.Row.same q7.t c1
        obtain⟨d2,ds2,rfl,hd2,ed2⟩:=KindR.Row.same q7.t c2
        refine⟨_,rfl,_,_,_,_,rfl,rfl,SqT.of (q7 _ _ hp1),rfl,_,rfl,_,_,_,_,rfl,rfl,SqT.of (q7 _ _ hp2),rfl,_,_,ds1,ds2,rfl,rfl,hd1,hd2,(by rw[ed1.1,ed2.1];omega),fun p8 H8 s8 h8=>?_⟩
        refine⟨(by show 4≤sizeLine;decide),fun p9 n9=>?_⟩
        have s9:=same_upd (o:=.tup [vT l,V.ref p6,V.ref p7,V.ref p8]) n9
        have s89:=s8.trans s9
        have s79:=s7.trans s89
        have hp7:upd H6 p7 (.tup us) p7=some (.tup us):=upd_same
        exact k _ _ (q3.trans (q7.trans s89)) ⟨p9,_,_,_,rfl,upd_same,
          ⟨p6,_,rfl,s79 _ _ h6,(ents_cat eb1 eb2).mono fun _ _ _ z=>KindR.Wt.same (s6.trans s79).t z⟩,
          ⟨p7,us,rfl,s89 _ _ hp7,eU.mono fun _ _ _ z=>KindR.Tab.same (s67.trans s89).t z⟩,
          ⟨p8,_,rfl,s9 _ _ h8,(ents_cat ed1 ed2).mono fun _ _ _ z=>KindR.Wt.same s89.t z⟩⟩
def sp_added(w:World)(K:PySem.W.Frag)(mg:Str→Option Value)(base:Heap):Sp:=sp_put_beside w K mg base
theorem ok_added(T:Txt K mg t):FnOk Pr w K mg base CX0 45 t.added t.d_added ["kind","one","other"] (sp_added w K mg base):=by
  refine T.F_added.ok sc_added (fun vs H Q E h=>?_) (fun cdv A outer s H vs Q E hr h=>?_)
  · obtain⟨R,kv,ov,hv,l,n,k,st1,tb1,en1,st2,tb2,en2,m1,m2,m3,rfl,_⟩:=h
    rfl
  · obtain⟨R,kv,ov,hv,l,n,j,st1,tb1,en1,st2,tb2,en2,m1,m2,m3,rfl,⟨hk,ho,hh,L,hz⟩,k⟩:=h
    obtain⟨p1,sv1,tv1,ev1,rfl,hp1,_⟩:=id ho
    obtain⟨p2,sv2,tv2,ev2,rfl,hp2,_⟩:=id hh
    refine⟨_,(pss_cons (ps_expr (pe_call (ok_need_same_letters T) (hr.mono (by decide)) rfl T.m_need_same_letters T.F_need_same_letters.kp T.b_need_same_letters .nil pass0 (pa_cons (pv 1) (pa_cons (pv 2) pa_nil)))) (pss_cons (ps_expr (pe_call (ok_need_few_rooms T) (hr.mono (by decide)) rfl T.m_need_few_rooms T.F_need_few_rooms.kp T.b_need_few_rooms .nil pass0 (pa_cons (pe_op op_add (pe_call (ok_rooms T) (hr.mono (by decide)) rfl T.m_rooms T.F_rooms.kp T.b_rooms .nil pass0 (pa_cons (pv 1) pa_nil)) (pe_call (ok_rooms T) (hr.mono (by decide)) rfl T.m_rooms T.F_rooms.kp T.b_rooms .nil pass0 (pa_cons (pv 2) pa_nil))) pa_nil))) (pss_one (ps_ret (pe_call (ok_put_beside T) (hr.mono (by decide)) rfl T.m_put_beside T.F_put_beside.kp T.b_put_beside .nil pass0 (pa_cons (pv 0) (pa_cons (pv 1) (pa_cons (pv 2) pa_nil)))))))),?_⟩
    refine⟨_,rfl,_,rfl,l,p1,p2,_,_,_,_,_,_,rfl,⟨hp1,hp2⟩,?_⟩
    refine⟨_,rfl,R,_,l,n,st1,tb1,en1,m1,m2,m3,rfl,ho,_,rfl,R,_,l,j,st2,tb2,en2,m1,m2,m3,rfl,hh,_,_,rfl,rfl,_,rfl,(by omega),?_⟩
    exact⟨_,rfl,_,rfl,_,rfl,R,_,_,_,l,n,j,st1,tb1,en1,st2,tb2,en2,m1,m2,m3,rfl,⟨hk,ho,hh,L,hz⟩,k⟩
def unitW(S:SR)(p:Nat):Nat→S.W:=fun i=>if i=p then S.one else S.zero
theorem unitW_lv{S:SR}{p i:Nat}:S.lv 1 32 (unitW S p i):=by
  unfold unitW
  split
  · exact S.lv_mono _ _ _ _ (by decide) S.lv_one
  · exact S.lv_mono _ _ _ _ (by decide) (S.lv_zero _)
def sp_unit(w:World)(K:PySem.W.Frag)(mg:Str→Option Value)(base:Heap):Sp:=fun vs H Q _=>∃(R:KindR Pr w K mg base),∃kv,∃(z zp:Int),∃(n p:Nat),vs=[kv,.int z,.int zp]∧(KAt R.C R.fs H kv∧n≤1000∧z=n∧zp=p)∧
  ∀v H',Same H H'→R.Row n (unitW R.S p) 1 v H'→Q v H'
theorem ok_unit(T:Txt K mg t):FnOk Pr w K mg base CX0 41 t.unit t.d_unit ["kind","size","place"] (sp_unit w K mg base):=by
  refine T.F_unit.ok sc_unit (fun vs H Q E h=>?_) (fun cdv A outer s H vs Q E hr h=>?_)
  · obtain⟨R,kv,z,zp,n,p,rfl,_⟩:=h
    rfl
  · obtain⟨R,kv,z,zp,n,p,rfl,⟨⟨kp,dx,rfl,hk⟩,hn,rfl,rfl⟩,k⟩:=h
    refine⟨_,(pss_one (ps_ret (pe_callTy call_tuple_of (by rfl) T.z_tuple boot_tuple (pa_cons (pe_comp (xs:=["other"]) rfl (show CompOk ["kind","size","place"] (defScope s_unit) _ from⟨rfl,by decide +kernel,by decide +kernel,by decide +kernel,by decide +kernel,by decide +kernel⟩) (pi_range1 rfl T.z_range (pa_cons (pv 1) pa_nil)) (fun _ _ _ _ _=>(pg_name (i:=3) (by show List.Nodup (["kind","size","place","other"]:List Str);decide +kernel) rfl (Or.inl rfl))) (fun _ _ _ _ _=>(pe_ifExp (pt_cmpR op_eq (pv 3) (pv 2) (nomark _)) (pe_meth0 (pv 0) R.cl R.t_one R.G_one (hr.mono (by decide)) R.b_one .nil pass0) (pe_meth0 (pv 0) R.cl R.t_nought R.G_nought (hr.mono (by decide)) R.b_nought .nil pass0)))) pa_nil)))),?_⟩
    refine⟨_,rfl,_,rfl,(by omega),(by omega),comp_go (n:=n) (fun j ys H2=>Same H H2∧Ents (R.Wt (unitW R.S p) 1) ys j H2) hn ⟨Same.refl _,Ents.nil⟩ (fun j ys H2 q=>q.2.1) ?_ ?_ ?_⟩
    · rintro j ys H2 hj ⟨q,e⟩
      refine⟨(show j < (n:Int).toNat by omega),fun y H' hy=>?_⟩
      obtain⟨rfl,rfl⟩:=hy
      have lv:R.S.lv 1 32 (unitW R.S p j):=unitW_lv
      refine⟨⟨[some _],rfl,rfl⟩,_,rfl,_,rfl,rfl,_,rfl,?_⟩
      refine iteI (fun e0=>?_) (fun e0=>?_)
      · have e1:unitW R.S p j=R.S.one:=if_pos (by omega)
        refine⟨_,rfl,_,_,_,rfl,q _ _ hk,R.l_one,_,rfl,⟨_,_,rfl,q _ _ hk⟩,fun v H3 s3 f3=>?_⟩
        exact⟨q.trans s3,(e.mono fun _ _ _ z=>KindR.Wt.same s3.t z).snoc ⟨by rw[e1];exact f3,lv⟩⟩
      · have e1:unitW R.S p j=R.S.zero:=if_neg (by omega)
        refine⟨_,rfl,_,_,_,rfl,q _ _ hk,R.l_nought,_,rfl,⟨_,_,rfl,q _ _ hk⟩,fun v H3 s3 f3=>?_⟩
        exact⟨q.trans s3,(e.mono fun _ _ _ z=>KindR.Wt.same s3.t z).snoc ⟨by rw[e1];exact f3,lv⟩⟩
    · rintro ys H2 ⟨q,e⟩
      show(n:Int).toNat≤n
      omega
    · rintro ys H2 l ⟨q,e⟩ nl
      have s1':=same_upd (o:=.lst ys) nl
      refine⟨l,ys,rfl,.inl ⟨SqL.of upd_same,fun l2 n2=>?_⟩⟩
      have s2:=same_upd (o:=.tup ys) n2
      exact k _ _ (q.trans (s1'.trans s2)) ⟨l2,ys,rfl,upd_same,e.mono fun _ _ _ z=>KindR.Wt.same (s1'.trans s2).t z⟩
def sp_outer(w:World)(K:PySem.W.Frag)(mg:Str→Option Value)(base:Heap):Sp:=fun vs H Q _=>∃(R:KindR Pr w K mg base),∃kv col row h n x y m m',vs=[kv,col,row]∧(KAt R.C R.fs H kv∧R.Row h x m col H∧R.Row n y m' row H∧h≤1000∧n≤1000∧m+m'≤100000)∧
  ∀v H',Same H H'→R.Tab h n (fun i j=>R.S.mul (x i) (y j)) (m+m') v H'→Q v H'
theorem ok_outer(T:Txt K mg t):FnOk Pr w K mg base CX0 42 t.outer t.d_outer ["kind","column","row"] (sp_outer w K mg base):=by
  refine T.F_outer.ok sc_outer (fun vs H Q E h=>?_) (fun cdv A outer s H vs Q E hr h=>?_)
  · obtain⟨R,kv,col,row,h,n,x,y,m,m',rfl,_⟩:=h
    rfl
  · obtain⟨R,kv,col,row,h,n,x,y,m,m',rfl,⟨hk,⟨p,us,rfl,hp,ent⟩,hy,hh,hn,hz⟩,k⟩:=h
    refine⟨_,(pss_one (ps_ret (pe_callTy call_tuple_of (by rfl) T.z_tuple boot_tuple (pa_cons (pe_comp (xs:=["x"]) rfl (show CompOk ["kind","column","row"] (defScope s_outer) _ from⟨rfl,by decide +kernel,by decide +kernel,by decide +kernel,by decide +kernel,by decide +kernel⟩) (pi_tup (pv 1)) (fun _ _ _ _ _=>(pg_name (i:=3) (by show List.Nodup (["kind","column","row","x"]:List Str);decide +kernel) rfl (Or.inl rfl))) (fun _ _ _ _ _=>(pe_call (ok_times_row (w:=w) (base:=base) T) (hr.mono (by decide)) rfl T.m_times_row T.F_times_row.kp T.b_times_row .nil pass0 (pa_cons (pv 0) (pa_cons (pv 3) (pa_cons (pv 2) pa_nil)))))) pa_nil)))),?_⟩
    refine⟨_,rfl,p,rfl,⟨_,SqT.of hp⟩,comp_go (n:=h) (fun j ys H2=>Same H H2∧Ents (fun i u H=>R.Row n (fun j=>R.S.mul (x i) (y j)) (m+m') u H) ys j H2) hh ⟨Same.refl _,Ents.nil⟩ (fun j ys H2 q=>q.2.1) ?_ ?_ ?_⟩
    · rintro j ys H2 hj ⟨q,e⟩
      obtain⟨u,eu,pu⟩:=ent.2 j hj
      refine⟨⟨_,_,SqT.of (q _ _ hp),eu⟩,fun z H' hz'=>?_⟩
      obtain⟨rfl,hz'⟩:=hz'
      have:=hz' _ (SqT.of (q _ _ hp))
      rw[eu]at this
      cases this
      refine⟨⟨[some _],rfl,rfl⟩,_,rfl,_,rfl,_,rfl,R,_,_,_,n,x j,y,m,m',rfl,⟨hk.same q,R.same q.t pu.1,pu.2,KindR.Row.same q.t hy,hn,hz⟩,fun v H3 s3 r3=>?_⟩
      exact⟨q.trans s3,(e.mono fun _ _ _ z=>KindR.Row.same s3.t z).snoc r3⟩
    · rintro ys H2 ⟨q,e⟩
      exact⟨_,SqT.of (q _ _ hp),by rw[ent.1];exact Nat.le_refl _⟩
    · rintro ys H2 l ⟨q,e⟩ nl
      have s1':=same_upd (o:=.lst ys) nl
      refine⟨l,ys,rfl,.inl ⟨SqL.of upd_same,fun l2 n2=>?_⟩⟩
      have s2:=same_upd (o:=.tup ys) n2
      exact k _ _ (q.trans (s1'.trans s2)) ⟨l2,ys,rfl,upd_same,e.mono fun _ _ _ z=>KindR.Row.same (s1'.trans s2).t z⟩
def sp_joined(w:World)(K:PySem.W.Frag)(mg:Str→Option Value)(base:Heap):Sp:=fun vs H Q _=>∃(R:KindR Pr w K mg base),∃kv ov hv l n k st1 tb1 en1 st2 tb2 en2,vs=[kv,ov,hv]∧(KAt R.C R.fs H kv∧MachG R l n st1 tb1 en1 1 1 1 ov H∧MachG R l k st2 tb2 en2 1 1 1 hv H∧LOk l∧n+k≤20)∧
  ∀v H',Same H H'→MachG R l (n+k) (cat R.S n st1 fun j=>R.S.mul (dotW R.S st1 en1 n) (st2 j)) (fun c=>blk R.S n (tb1 c) (fun i j=>R.S.mul (dotW R.S (tb1 c i) en1 n) (st2 j)) (tb2 c)) (cat R.S n (fun _=>R.S.zero) en2) 3 3 1 v H'→Q v H'
theorem ok_joined(T:Txt K mg t):FnOk Pr w K mg base CX0 45 t.joined t.d_joined ["kind","one","other"] (sp_joined w K mg base):=by
  refine T.F_joined.ok sc_joined (fun vs H Q E h=>?_) (fun cdv A outer s H vs Q E hr h=>?_)
  · obtain⟨R,kv,ov,hv,l,n,k,st1,tb1,en1,st2,tb2,en2,rfl,_⟩:=h
    rfl
  · obtain⟨R,kv,ov,hv,l,n,j,st1,tb1,en1,st2,tb2,en2,rfl,⟨hk,ho,hh,L,hz⟩,k⟩:=h
    have sl:1000 < sizeLine:=by decide
    have l3:=L.h3
    obtain⟨p1,sv1,tv1,ev1,rfl,hp1,a1,⟨t1,ts1,rfl,ht1,et1⟩,c1⟩:=id ho
    obtain⟨p2,sv2,tv2,ev2,rfl,hp2,a2,⟨t2,ts2,rfl,ht2,et2⟩,c2⟩:=id hh
    have M0:MOk n l []:=⟨⟨L,by simp,by simp⟩,by omega⟩
    have em:V.str (Str.ofString "")=vT []:=by rw[em_is];rfl
    refine⟨_,(pss_cons (ps_expr (pe_call (ok_need_same_letters T) (hr.mono (by decide)) rfl T.m_need_same_letters T.F_need_same_letters.kp T.b_need_same_letters .nil pass0 (pa_cons (pv 1) (pa_cons (pv 2) pa_nil)))) (pss_cons (ps_expr (pe_call (ok_need_few_rooms T) (hr.mono (by decide)) rfl T.m_need_few_rooms T.F_need_few_rooms.kp T.b_need_few_rooms .nil pass0 (pa_cons (pe_op op_add (pe_call (ok_rooms T) (hr.mono (by decide)) rfl T.m_rooms T.F_rooms.kp T.b_rooms .nil pass0 (pa_cons (pv 1) pa_nil)) (pe_call (ok_rooms T) (hr.mono (by decide)) rfl T.m_rooms T.F_rooms.kp T.b_rooms .nil pass0 (pa_cons (pv 2) pa_nil))) pa_nil))) (pss_cons (ps_set (i:=3) sc_joined.nd rfl (Or.inl rfl) (pe_op op_catA (pe_ix ix_tup (pv 1) pe_int (fun _ _=>rfl)) (pe_call (ok_times_row T) (hr.mono (by decide)) rfl T.m_times_row T.F_times_row.kp T.b_times_row .nil pass0 (pa_cons (pv 0) (pa_cons (pe_call (ok_weight T) (hr.mono (by decide)) rfl T.m_weight T.F_weight.kp T.b_weight .nil pass0 (pa_cons (pv 0) (pa_cons (pv 1) (pa_cons pe_str pa_nil)))) (pa_cons (pe_ix ix_tup (pv 2) pe_int (fun _ _=>rfl)) pa_nil)))))) (pss_cons (ps_set (i:=4) sc_joined.nd rfl (Or.inl rfl) (pe_lst pa_nil)) (pss_cons (ps_for PassesOwn.never rfl (pi_zip rfl T.z_zip (pa_cons (pe_ix ix_tup (pv 1) pe_int (fun _ _=>rfl)) (pa_cons (pe_ix ix_tup (pv 2) pe_int (fun _ _=>rfl)) pa_nil))) (pg_tup rfl (pgs_cons (pg_name (i:=5) sc_joined.nd rfl (Or.inl rfl)) (pgs_cons (pg_name (i:=6) sc_joined.nd rfl (Or.inl rfl)) pgs_nil))) (pss_cons (ps_set (i:=7) sc_joined.nd rfl (Or.inl rfl) (pe_call (ok_outer T) (hr.mono (by decide)) rfl T.m_outer T.F_outer.kp T.b_outer .nil pass0 (pa_cons (pv 0) (pa_cons (pe_call (ok_by_column T) (hr.mono (by decide)) rfl T.m_by_column T.F_by_column.kp T.b_by_column .nil pass0 (pa_cons (pv 0) (pa_cons (pv 5) (pa_cons (pe_ix ix_tup (pv 1) pe_int (fun _ _=>rfl)) pa_nil)))) (pa_cons (pe_ix ix_tup (pv 2) pe_int (fun _ _=>rfl)) pa_nil))))) (pss_one (ps_expr (pe_bm PySem.F.plainAttrs_list PySem.F.slot_list_append PySem.F.type_list_append mt_append (pv 4) (pa_cons (pe_call (ok_beside T) (hr.mono (by decide)) rfl T.m_beside T.F_beside.kp T.b_beside .nil pass0 (pa_cons (pv 0) (pa_cons (pv 5) (pa_cons (pv 6) (pa_cons (pv 7) pa_nil))))) pa_nil)))))) (pss_one (ps_ret (pe_tup (pa_cons (pe_ix ix_tup (pv 1) pe_int (fun _ _=>rfl)) (pa_cons (pv 3) (pa_cons (pe_callTy call_tuple_of (by rfl) T.z_tuple boot_tuple (pa_cons (pv 4) pa_nil)) (pa_cons (pe_op op_catA (pe_call (ok_noughts T) (hr.mono (by decide)) rfl T.m_noughts T.F_noughts.kp T.b_noughts .nil pass0 (pa_cons (pv 0) (pa_cons (pe_call (ok_rooms T) (hr.mono (by decide)) rfl T.m_rooms T.F_rooms.kp T.b_rooms .nil pass0 (pa_cons (pv 1) pa_nil)) pa_nil))) (pe_ix ix_tup (pv 2) pe_int (fun _ _=>rfl))) pa_nil)))))))))))),?_⟩
    refine⟨_,rfl,_,rfl,l,p1,p2,_,_,_,_,_,_,rfl,⟨hp1,hp2⟩,?_⟩
    refine⟨_,rfl,R,_,l,n,st1,tb1,en1,1,1,1,rfl,ho,_,rfl,R,_,l,j,st2,tb2,en2,1,1,1,rfl,hh,_,_,rfl,rfl,_,rfl,(by omega),?_⟩
    refine⟨_,rfl,_,_,_,_,rfl,rfl,SqT.of hp1,rfl,_,rfl,_,rfl,_,rfl,?_⟩
    rw[em]
    refine⟨R,_,_,l,n,st1,tb1,en1,[],1,1,1,rfl,⟨hk,ho,M0,by decide⟩,fun wv H1 s1 f1 z1=>?_⟩
    refine⟨_,rfl,_,_,_,_,rfl,rfl,SqT.of (s1 _ _ hp2),rfl,R,_,_,_,j,_,st2,2,1,rfl,⟨hk.same s1,f1,z1,KindR.Row.same s1.t a2,by omega,by decide⟩,fun rv H2 s2 r2=>?_⟩
    have s2':=s1.trans s2
    obtain⟨b1,bs1,rfl,hb1,eb1⟩:=Row.up (m':=3) (by decide) (KindR.Row.same s2'.t a1)
    obtain⟨b2,bs2,rfl,hb2,eb2⟩:=r2
    refine⟨_,_,bs1,bs2,rfl,rfl,hb1,hb2,(by rw[eb1.1,eb2.1];omega),fun p3 H3 s3 h3=>?_⟩
    have s3':=s2'.trans s3
    have hst:R.Row (n+j) (cat R.S n st1 fun i=>R.S.mul (dotW R.S st1 en1 n) (st2 i)) 3 (.ref p3) H3:=⟨p3,_,rfl,h3,(ents_cat eb1 eb2).mono fun _ _ _ z=>KindR.Wt.same s3.t z⟩
    show gName 3 (.ref p3) [some kv,some (.ref p1),some (.ref p2),none,none,none,none,none] H3 _
    refine⟨(by show 0≤sizeLine;decide),fun fl nf=>?_⟩
    have s4:=same_upd (o:=.lst []) nf
    have s4':=s3'.trans s4
    refine⟨_,rfl,_,_,_,_,rfl,rfl,SqT.of (s4' _ _ hp1),rfl,_,rfl,_,_,_,_,rfl,rfl,SqT.of (s4' _ _ hp2),rfl,.tup t1,.tup t2,_,_,ts1,ts2,rfl,rfl,rfl,SqT.of (s4' _ _ ht1),SqT.of (s4' _ _ ht2),for_zip (K:=K) (xs:=ts1) (ys:=ts2) (fun i σ H2=>∃v5 v6 v7 ys,σ=[some kv,some (.ref p1),some (.ref p2),some (.ref p3),some (.ref fl),v5,v6,v7]∧Same H3 H2∧H2 fl=some (.lst ys)∧Ents (fun c u H=>R.Tab (n+j) (n+j) (blk R.S n (tb1 c) (fun i j=>R.S.mul (dotW R.S (tb1 c i) en1 n) (st2 j)) (tb2 c)) 3 u H) ys i H2) (by rw[et1.1,et2.1]) ⟨_,_,_,[],rfl,s4,upd_same,Ents.nil⟩ (fun i σ H2 _ ⟨_,_,_,_,_,q,_⟩=>⟨SqT.of ((s3'.trans q) _ _ ht1),SqT.of ((s3'.trans q) _ _ ht2)⟩) ?_ ?_⟩
    · rintro i u v pp σ H5 hu hv np ⟨v5,v6,v7,ys,rfl,q,hf,e⟩
      obtain⟨hi,pu⟩:=et1.at hu
      obtain⟨_,pv⟩:=et2.at hv
      have s6:=same_upd (o:=.tup [u,v]) np
      have q6:=(s3'.trans q).trans s6
      refine⟨pp,_,rfl,SqT.of upd_same,rfl,_,_,rfl,_,_,rfl,rfl,?_⟩
      refine⟨_,rfl,_,rfl,_,rfl,_,rfl,_,_,_,_,rfl,rfl,SqT.of (q6 _ _ hp1),rfl,R,_,_,_,n,n,tb1 i,en1,1,1,rfl,⟨hk.same q6,KindR.Tab.same q6.t pu,(KindR.Row.same q6.t c1).seq,by omega,by omega,by decide⟩,fun cv H7 s7 r7=>?_⟩
      have q7:=q6.trans s7
      refine⟨_,rfl,_,_,_,_,rfl,rfl,SqT.of (q7 _ _ hp2),rfl,R,_,_,_,n,j,_,st2,2,1,rfl,⟨hk.same q7,r7,KindR.Row.same q7.t a2,by omega,by omega,by decide⟩,fun ov H8 s8 r8=>?_⟩
      have q8:=q7.trans s8
      show gName 7 ov [some kv,some (.ref p1),some (.ref p2),some (.ref p3),some (.ref fl),some u,some v,v7] H8 _
      have s58:=s6.trans (s7.trans s8)
      refine⟨_,rfl,.inl ⟨rfl,_,SqL.of (s58 _ _ hf)⟩,_,rfl,_,rfl,_,rfl,_,rfl,R,_,_,_,_,n,j,tb1 i,tb2 i,_,3,rfl,⟨hk.same q8,Tab.up (by decide) (KindR.Tab.same q8.t pu),Tab.up (by decide) (KindR.Tab.same q8.t pv),r8.seq,by omega,by omega⟩,fun bv H9 s9 r9=>?_⟩
      have s59:=s58.trans s9
      have hf9:=s59 _ _ hf
      refine⟨_,_,_,rfl,rfl,hf9,(by rw[e.1];omega),?_⟩
      have st:=sameT_lst (o:=.lst (ys++[bv])) hf9
      exact⟨_,_,_,_,rfl,same_at (q.trans s59) nf,upd_same,((e.mono fun _ _ _ w'=>KindR.Tab.same s59.t w').snoc r9).mono fun _ _ _ w'=>KindR.Tab.same st w'⟩
    · rintro σ H5 ⟨v5,v6,v7,ys,rfl,q,hf,e⟩
      rw[et1.1]at e
      have q5:=s3'.trans q
      refine⟨_,rfl,_,_,_,_,rfl,rfl,SqT.of (q5 _ _ hp1),rfl,_,rfl,_,rfl,fl,ys,rfl,.inl ⟨SqL.of hf,fun p6 n6=>?_⟩⟩
      have s6:=same_upd (o:=.tup ys) n6
      have q6:=q5.trans s6
      refine⟨_,rfl,_,rfl,R,_,l,n,st1,tb1,en1,1,1,1,rfl,ho.same q6.t,R,_,_,n,1,rfl,⟨hk.same q6,by omega,rfl⟩,fun nv H7 s7 r7=>?_⟩
      have q7:=q6.trans s7
      obtain⟨d1,ds1,rfl,hd1,ed1⟩:=r7
      obtain⟨d2,ds2,rfl,hd2,ed2⟩:=KindR.Row.same q7.t c2
      refine⟨_,rfl,_,_,_,_,rfl,rfl,SqT.of (q7 _ _ hp2),rfl,_,_,ds1,ds2,rfl,rfl,hd1,hd2,(by rw[ed1.1,ed2.1];omega),fun p8 H8 s8 h8=>?_⟩
      refine⟨(by show 4≤sizeLine;decide),fun p9 n9=>?_⟩
      have s9:=same_upd (o:=.tup [vT l,V.ref p3,V.ref p6,V.ref p8]) n9
      have s89:=s8.trans s9
      have s79:=s7.trans s89
      have hp6:upd H5 p6 (.tup ys) p6=some (.tup ys):=upd_same
      exact k _ _ (q7.trans s89) ⟨p9,_,_,_,rfl,upd_same,KindR.Row.same (q.trans (s6.trans s79)).t hst,
        ⟨p6,ys,rfl,s79 _ _ hp6,e.mono fun _ _ _ z=>KindR.Tab.same (s6.trans s79).t z⟩,
        ⟨p8,_,rfl,s9 _ _ h8,(ents_cat ed1 ed2).mono fun _ _ _ z=>KindR.Wt.same s89.t z⟩⟩
def crs(S:SR)(k:Nat)(x y:Nat→S.W):Nat→S.W:=fun a=>S.mul (x (a / k)) (y (a % k))
def crsT(S:SR)(k:Nat)(A B:Nat→Nat→S.W):Nat→Nat→S.W:=fun a=>crs S k (A (a / k)) (B (a % k))
theorem div_at{i j k:Nat}(h:j < k):(i * k+j) / k=i:=by
  rw[Nat.add_comm,Nat.add_mul_div_right _ _ (by omega),Nat.div_eq_of_lt h,Nat.zero_add]
theorem mod_at{i j k:Nat}(h:j < k):(i * k+j) % k=j:=by
  rw[Nat.add_comm,Nat.add_mul_mod_self_right,Nat.mod_eq_of_lt h]
theorem crs_at{S:SR}{i j k:Nat}{x y:Nat→S.W}(h:j < k):crs S k x y (i * k+j)=S.mul (x i) (y j):=by
  unfold crs
  rw[div_at h,mod_at h]
theorem crsT_at{S:SR}{i j k:Nat}{A B:Nat→Nat→S.W}(h:j < k):crsT S k A B (i * k+j)=crs S k (A i) (B j):=by
  unfold crsT
  rw[div_at h,mod_at h]
theorem mul_lt{i n k:Nat}(h:i < n):i * k+k≤n * k:=by
  rw[← Nat.succ_mul]
  exact Nat.mul_le_mul_right k h
def sp_cross_row(w:World)(K:PySem.W.Frag)(mg:Str→Option Value)(base:Heap):Sp:=fun vs H Q _=>∃(R:KindR Pr w K mg base),∃kv ov hv n k x y m m',vs=[kv,ov,hv]∧(KAt R.C R.fs H kv∧R.Row n x m ov H∧R.Row k y m' hv H∧n≤500∧k≤500∧n * k≤500∧m+m'≤100000)∧
  ∀v H',Same H H'→R.Row (n * k) (crs R.S k x y) (m+m') v H'→Q v H'
theorem ok_cross_row(T:Txt K mg t):FnOk Pr w K mg base CX0 42 t.cross_row t.d_cross_row ["kind","one","other"] (sp_cross_row w K mg base):=by
  refine T.F_cross_row.ok sc_cross_row (fun vs H Q E h=>?_) (fun cdv A outer s H vs Q E hr h=>?_)
  · obtain⟨R,kv,ov,hv,n,k,x,y,m,m',rfl,_⟩:=h
    rfl
  · obtain⟨R,kv,ov,hv,n,j,x,y,m,m',rfl,⟨hk,⟨p,us,rfl,hp,ent⟩,hy,hn,hj,hz,hm⟩,k⟩:=h
    have sl:1000 < sizeLine:=by decide
    refine⟨_,(pss_cons (ps_set (i:=3) sc_cross_row.nd rfl (Or.inl rfl) (pe_tup pa_nil)) (pss_cons (ps_for PassesOwn.never rfl (pi_tup (pv 1)) (pg_name (i:=4) sc_cross_row.nd rfl (Or.inl rfl)) (pss_one (ps_set (i:=3) sc_cross_row.nd rfl (Or.inl rfl) (pe_op op_catA (pv 3) (pe_call (ok_times_row T) (hr.mono (by decide)) rfl T.m_times_row T.F_times_row.kp T.b_times_row .nil pass0 (pa_cons (pv 0) (pa_cons (pv 4) (pa_cons (pv 2) pa_nil)))))))) (pss_one (ps_ret (pv 3))))),?_⟩
    refine⟨(by show 0≤sizeLine;decide),fun p0 n0=>?_⟩
    have s0:=same_upd (o:=.tup []) n0
    refine⟨_,rfl,p,rfl,⟨_,SqT.of (s0 _ _ hp)⟩,for_it (n:=n) (fun i σ H2=>∃tv v4,σ=[some kv,some (.ref p),some hv,some tv,v4]∧Same H H2∧R.Row (i * j) (crs R.S j x y) (m+m') tv H2) ⟨_,_,rfl,s0,⟨p0,[],rfl,upd_same,by rw[Nat.zero_mul];exact Ents.nil⟩⟩ ?_ ?_⟩
    · rintro i σ H2 hi ⟨tv,v4,rfl,q,⟨tp,as,rfl,ha,ea⟩⟩
      obtain⟨u,eu,pu⟩:=ent.2 i hi
      refine⟨⟨_,_,SqT.of (q _ _ hp),eu⟩,fun z H' hz'=>?_⟩
      obtain⟨rfl,hz'⟩:=hz'
      have:=hz' _ (SqT.of (q _ _ hp))
      rw[eu]at this
      cases this
      have ml:=mul_lt (k:=j) hi
      refine⟨_,rfl,_,rfl,_,rfl,_,rfl,R,_,_,_,j,x i,y,m,m',rfl,⟨hk.same q,R.same q.t pu.1,pu.2,KindR.Row.same q.t hy,by omega,hm⟩,fun v H3 s3 r3=>?_⟩
      obtain⟨b,bs,rfl,hb,eb⟩:=r3
      refine⟨_,_,as,bs,rfl,rfl,s3 _ _ ha,hb,(by rw[ea.1,eb.1];omega),fun p4 H4 s4 h4=>?_⟩
      refine⟨_,_,rfl,q.trans (s3.trans s4),⟨p4,_,rfl,h4,?_⟩⟩
      rw[Nat.succ_mul]
      refine Ents.app (ea.mono fun _ _ _ z=>KindR.Wt.same (s3.trans s4).t z) (eb.mono fun b _ hb' z=>?_)
      show R.is _ _ (crs R.S j x y (i * j+b))∧R.S.lv (m+m') 32 (crs R.S j x y (i * j+b))
      rw[crs_at hb']
      exact KindR.Wt.same s4.t z
    · rintro σ H2 ⟨tv,v4,rfl,q,r⟩
      exact⟨⟨_,SqT.of (q _ _ hp),by rw[ent.1];exact Nat.le_refl _⟩,_,rfl,k _ _ q r⟩
def sp_cross_table(w:World)(K:PySem.W.Frag)(mg:Str→Option Value)(base:Heap):Sp:=fun vs H Q _=>∃(R:KindR Pr w K mg base),∃kv ov hv n k A B m m',vs=[kv,ov,hv]∧(KAt R.C R.fs H kv∧R.Tab n n A m ov H∧R.Tab k k B m' hv H∧n≤500∧k≤500∧n * k≤500∧m+m'≤100000)∧
  ∀v H',Same H H'→R.Tab (n * k) (n * k) (crsT R.S k A B) (m+m') v H'→Q v H'
theorem ok_cross_table(T:Txt K mg t):FnOk Pr w K mg base CX0 43 t.cross_table t.d_cross_table ["kind","one","other"] (sp_cross_table w K mg base):=by
  refine T.F_cross_table.ok sc_cross_table (fun vs H Q E h=>?_) (fun cdv A outer s H vs Q E hr h=>?_)
  · obtain⟨R,kv,ov,hv,n,k,A,B,m,m',rfl,_⟩:=h
    rfl
  · obtain⟨R,kv,ov,hv,n,j,A0,B,m,m',rfl,⟨hk,⟨p,us,rfl,hp,ent⟩,⟨p',us',rfl,hp',ent'⟩,hn,hj,hz,hm⟩,k⟩:=h
    have sl:1000 < sizeLine:=by decide
    refine⟨_,(pss_cons (ps_set (i:=3) sc_cross_table.nd rfl (Or.inl rfl) (pe_lst pa_nil)) (pss_cons (ps_for PassesOwn.never rfl (pi_tup (pv 1)) (pg_name (i:=4) sc_cross_table.nd rfl (Or.inr rfl)) (pss_one (ps_expr (pe_bm PySem.F.plainAttrs_list PySem.F.slot_list_extend PySem.F.type_list_extend mt_extend (pv 3) (pa_cons (pe_comp (xs:=["second"]) rfl (show CompOk ["kind","one","other","told","row"] (defScope s_cross_table) _ from⟨rfl,by decide +kernel,by decide +kernel,by decide +kernel,by decide +kernel,by decide +kernel⟩) (pi_tup (pv 2)) (fun _ _ _ _ _=>(pg_name (i:=5) (by show List.Nodup (["kind","one","other","told","row","second"]:List Str);decide +kernel) rfl (Or.inl rfl))) (fun _ _ _ _ _=>(pe_call (ok_cross_row (w:=w) (base:=base) T) (hr.mono (by decide)) rfl T.m_cross_row T.F_cross_row.kp T.b_cross_row .nil pass0 (pa_cons (pv 0) (pa_cons (pv 4) (pa_cons (pv 5) pa_nil)))))) pa_nil))))) (pss_one (ps_ret (pe_callTy call_tuple_of (by rfl) T.z_tuple boot_tuple (pa_cons (pv 3) pa_nil)))))),?_⟩
    refine⟨(by show 0≤sizeLine;decide),fun fl nf=>?_⟩
    have s0:=same_upd (o:=.lst []) nf
    refine⟨_,rfl,p,rfl,⟨_,SqT.of (s0 _ _ hp)⟩,for_it (n:=n) (fun i σ H2=>∃v4 ys,σ=[some kv,some (.ref p),some (.ref p'),some (.ref fl),v4]∧Same H H2∧H2 fl=some (.lst ys)∧Ents (fun a u H=>R.Row (n * j) (crsT R.S j A0 B a) (m+m') u H) ys (i * j) H2) ⟨_,[],rfl,s0,upd_same,by rw[Nat.zero_mul];exact Ents.nil⟩ ?_ ?_⟩
    · rintro i σ H2 hi ⟨v4,ys,rfl,q,hf,e⟩
      obtain⟨u,eu,pu⟩:=ent.2 i hi
      refine⟨⟨_,_,SqT.of (q _ _ hp),eu⟩,fun z H' hz'=>?_⟩
      obtain⟨rfl,hz'⟩:=hz'
      have:=hz' _ (SqT.of (q _ _ hp))
      rw[eu]at this
      cases this
      have ml:=mul_lt (k:=j) hi
      refine⟨_,rfl,.inl ⟨rfl,_,SqL.of hf⟩,_,rfl,p',rfl,⟨_,SqT.of (q _ _ hp')⟩,comp_go (n:=j) (fun b zs H3=>Same H' H3∧Ents (fun b u H=>R.Row (n * j) (crs R.S j (A0 i) (B b)) (m+m') u H) zs b H3) (by omega) ⟨Same.refl _,Ents.nil⟩ (fun b zs H3 c=>c.2.1) ?_ ?_ ?_⟩
      · rintro b zs H3 hb ⟨q3,c⟩
        have q':=q.trans q3
        obtain⟨v,ev,pv⟩:=ent'.2 b hb
        refine⟨⟨_,_,SqT.of (q' _ _ hp'),ev⟩,fun z H' hz'=>?_⟩
        obtain⟨rfl,hz'⟩:=hz'
        have:=hz' _ (SqT.of (q' _ _ hp'))
        rw[ev]at this
        cases this
        refine⟨⟨[some _],rfl,rfl⟩,_,rfl,_,rfl,_,rfl,R,_,_,_,n,j,A0 i,B b,m,m',rfl,⟨hk.same q',KindR.Row.same q'.t pu,KindR.Row.same q'.t pv,hn,hj,hz,hm⟩,fun w4 H4 s4 r4=>?_⟩
        exact⟨q3.trans s4,(c.mono fun _ _ _ z=>KindR.Row.same s4.t z).snoc r4⟩
      · rintro zs H3 ⟨q3,c⟩
        exact⟨_,SqT.of ((q.trans q3) _ _ hp'),by rw[ent'.1];exact Nat.le_refl _⟩
      · rintro zs H3 lp ⟨q3,c⟩ nl
        have s4:=same_upd (o:=.lst zs) nl
        have q4:=q3.trans s4
        have hf4:=q4 _ _ hf
        refine⟨_,_,ys,zs,rfl,rfl,hf4,upd_same,(by rw[e.1,c.1];omega),?_⟩
        have st:=sameT_lst (o:=.lst (ys++zs)) hf4
        refine⟨_,_,rfl,same_at (q.trans q4) nf,upd_same,?_⟩
        rw[Nat.succ_mul]
        refine Ents.app (e.mono fun _ _ _ z=>KindR.Row.same (q4.t.trans st) z) (c.mono fun b _ hb z=>?_)
        show R.Row (n * j) (crsT R.S j A0 B (i * j+b)) (m+m') _ _
        rw[crsT_at hb]
        exact KindR.Row.same (s4.t.trans st) z
    · rintro σ H2 ⟨v4,ys,rfl,q,hf,e⟩
      refine⟨⟨_,SqT.of (q _ _ hp),by rw[ent.1];exact Nat.le_refl _⟩,_,rfl,fl,ys,rfl,.inl ⟨SqL.of hf,fun l2 n2=>?_⟩⟩
      have s2:=same_upd (o:=.tup ys) n2
      exact k _ _ (q.trans s2) ⟨l2,ys,rfl,upd_same,e.mono fun _ _ _ z=>KindR.Row.same s2.t z⟩
def sp_crossed(w:World)(K:PySem.W.Frag)(mg:Str→Option Value)(base:Heap):Sp:=fun vs H Q _=>∃(R:KindR Pr w K mg base),∃kv ov hv l n k st1 tb1 en1 st2 tb2 en2,vs=[kv,ov,hv]∧(KAt R.C R.fs H kv∧MachG R l n st1 tb1 en1 1 1 1 ov H∧MachG R l k st2 tb2 en2 1 1 1 hv H∧LOk l∧n≤100∧k≤100∧n * k≤20)∧
  ∀v H',Same H H'→MachG R l (n * k) (crs R.S k st1 st2) (fun c=>crsT R.S k (tb1 c) (tb2 c)) (crs R.S k en1 en2) 2 2 2 v H'→Q v H'
theorem ok_crossed(T:Txt K mg t):FnOk Pr w K mg base CX0 45 t.crossed t.d_crossed ["kind","one","other"] (sp_crossed w K mg base):=by
  refine T.F_crossed.ok sc_crossed (fun vs H Q E h=>?_) (fun cdv A outer s H vs Q E hr h=>?_)
  · obtain⟨R,kv,ov,hv,l,n,k,st1,tb1,en1,st2,tb2,en2,rfl,_⟩:=h
    rfl
  · obtain⟨R,kv,ov,hv,l,n,j,st1,tb1,en1,st2,tb2,en2,rfl,⟨hk,ho,hh,L,hn,hj,hz⟩,k⟩:=h
    have sl:1000 < sizeLine:=by decide
    have l3:=L.h3
    obtain⟨p1,sv1,tv1,ev1,rfl,hp1,a1,⟨t1,ts1,rfl,ht1,et1⟩,c1⟩:=id ho
    obtain⟨p2,sv2,tv2,ev2,rfl,hp2,a2,⟨t2,ts2,rfl,ht2,et2⟩,c2⟩:=id hh
    have ez:(n:Int) * j=((n * j:Nat):Int):=(Int.natCast_mul n j).symm
    refine⟨_,(pss_cons (ps_expr (pe_call (ok_need_same_letters T) (hr.mono (by decide)) rfl T.m_need_same_letters T.F_need_same_letters.kp T.b_need_same_letters .nil pass0 (pa_cons (pv 1) (pa_cons (pv 2) pa_nil)))) (pss_cons (ps_expr (pe_call (ok_need_few_rooms T) (hr.mono (by decide)) rfl T.m_need_few_rooms T.F_need_few_rooms.kp T.b_need_few_rooms .nil pass0 (pa_cons (pe_op op_mul (pe_call (ok_rooms T) (hr.mono (by decide)) rfl T.m_rooms T.F_rooms.kp T.b_rooms .nil pass0 (pa_cons (pv 1) pa_nil)) (pe_call (ok_rooms T) (hr.mono (by decide)) rfl T.m_rooms T.F_rooms.kp T.b_rooms .nil pass0 (pa_cons (pv 2) pa_nil))) pa_nil))) (pss_cons (ps_set (i:=3) sc_crossed.nd rfl (Or.inl rfl) (pe_call (ok_cross_row T) (hr.mono (by decide)) rfl T.m_cross_row T.F_cross_row.kp T.b_cross_row .nil pass0 (pa_cons (pv 0) (pa_cons (pe_ix ix_tup (pv 1) pe_int (fun _ _=>rfl)) (pa_cons (pe_ix ix_tup (pv 2) pe_int (fun _ _=>rfl)) pa_nil))))) (pss_cons (ps_setC (i₀:=4) (xs:=["first","second"]) sc_crossed.nd rfl (Or.inl rfl) rfl (show CompOk ["kind","one","other","start","tables"] (defScope s_crossed) _ from⟨rfl,by decide +kernel,by decide +kernel,by decide +kernel,by decide +kernel,by decide +kernel⟩) (pi_zip rfl T.z_zip (pa_cons (pe_ix ix_tup (pv 1) pe_int (fun _ _=>rfl)) (pa_cons (pe_ix ix_tup (pv 2) pe_int (fun _ _=>rfl)) pa_nil))) (fun _ _ _ _ _=>(show PG _ _ (gTup K 2 _)from(pg_tup rfl (pgs_cons (pg_name (i:=5) (by show List.Nodup (["kind","one","other","start","tables","first","second"]:List Str);decide +kernel) rfl (Or.inl rfl)) (pgs_cons (pg_name (i:=6) (by show List.Nodup (["kind","one","other","start","tables","first","second"]:List Str);decide +kernel) rfl (Or.inl rfl)) pgs_nil))))) (fun _ _ _ _ _=>(pe_call (ok_cross_table (w:=w) (base:=base) T) (hr.mono (by decide)) rfl T.m_cross_table T.F_cross_table.kp T.b_cross_table .nil pass0 (pa_cons (pv 0) (pa_cons (pv 5) (pa_cons (pv 6) pa_nil)))))) (pss_one (ps_ret (pe_tup (pa_cons (pe_ix ix_tup (pv 1) pe_int (fun _ _=>rfl)) (pa_cons (pv 3) (pa_cons (pe_callTy call_tuple_of (by rfl) T.z_tuple boot_tuple (pa_cons (pv 4) pa_nil)) (pa_cons (pe_call (ok_cross_row T) (hr.mono (by decide)) rfl T.m_cross_row T.F_cross_row.kp T.b_cross_row .nil pass0 (pa_cons (pv 0) (pa_cons (pe_ix ix_tup (pv 1) pe_int (fun _ _=>rfl)) (pa_cons (pe_ix ix_tup (pv 2) pe_int (fun _ _=>rfl)) pa_nil)))) pa_nil))))))))))),?_⟩
    refine⟨_,rfl,_,rfl,l,p1,p2,_,_,_,_,_,_,rfl,⟨hp1,hp2⟩,?_⟩
    refine⟨_,rfl,R,_,l,n,st1,tb1,en1,1,1,1,rfl,ho,_,rfl,R,_,l,j,st2,tb2,en2,1,1,1,rfl,hh,_,_,rfl,rfl,.inl ⟨by omega,by omega⟩,_,rfl,(by rw[ez];omega),?_⟩
    refine⟨_,rfl,_,rfl,_,_,_,_,rfl,rfl,SqT.of hp1,rfl,_,rfl,_,_,_,_,rfl,rfl,SqT.of hp2,rfl,R,_,_,_,n,j,st1,st2,1,1,rfl,⟨hk,a1,a2,by omega,by omega,by omega,by decide⟩,fun sv H1 s1 r1=>?_⟩
    show gName 3 sv [some kv,some (.ref p1),some (.ref p2),none,none] H1 _
    refine⟨_,rfl,_,_,_,_,rfl,rfl,SqT.of (s1 _ _ hp1),rfl,_,rfl,_,_,_,_,rfl,rfl,SqT.of (s1 _ _ hp2),rfl,.tup t1,.tup t2,_,_,ts1,ts2,rfl,rfl,rfl,SqT.of (s1 _ _ ht1),SqT.of (s1 _ _ ht2),comp_go (n:=l.length) (fun i ys H2=>Same H1 H2∧Ents (fun c u H=>R.Tab (n * j) (n * j) (crsT R.S j (tb1 c) (tb2 c)) 2 u H) ys i H2) (by omega) ⟨Same.refl _,Ents.nil⟩ (fun j ys H2 q=>q.2.1) ?_ ?_ ?_⟩
    · rintro i ys H4 hi ⟨q,e⟩
      have q1:=s1.trans q
      obtain⟨u,eu,pu⟩:=et1.2 i hi
      obtain⟨v,ev,pv⟩:=et2.2 i hi
      refine⟨⟨ts1,ts2,u,v,SqT.of (q1 _ _ ht1),SqT.of (q1 _ _ ht2),eu,ev⟩,fun y H' hy=>?_⟩
      obtain⟨pp,x',y',rfl,np',rfl,f1,f2⟩:=hy
      have e1:=f1 _ (SqT.of (q1 _ _ ht1))
      rw[eu]at e1
      cases e1
      have e2:=f2 _ (SqT.of (q1 _ _ ht2))
      rw[ev]at e2
      cases e2
      have s5:=same_upd (o:=.tup [u,v]) np'
      have q5:=q1.trans s5
      refine⟨pp,_,rfl,SqT.of upd_same,rfl,_,_,rfl,_,_,rfl,rfl,⟨[some _,some _],rfl,rfl⟩,_,rfl,_,rfl,_,rfl,R,_,_,_,n,j,tb1 i,tb2 i,1,1,rfl,⟨hk.same q5,KindR.Tab.same q5.t pu,KindR.Tab.same q5.t pv,by omega,by omega,by omega,by decide⟩,fun w6 H6 s6 r6=>?_⟩
      exact⟨q.trans (s5.trans s6),(e.mono fun _ _ _ z=>KindR.Tab.same (s5.trans s6).t z).snoc r6⟩
    · rintro ys H4 ⟨q,e⟩
      exact⟨ts1,ts2,SqT.of ((s1.trans q) _ _ ht1),SqT.of ((s1.trans q) _ _ ht2),.inl et1.1.symm⟩
    · rintro us H4 up ⟨q,eU⟩ nu
      have s5:=same_upd (o:=.lst us) nu
      have q5:=q.trans s5
      have hU:upd H4 up (.lst us) up=some (.lst us):=upd_same
      have eU:=eU.mono fun _ _ _ z=>KindR.Tab.same s5.t z
      revert q5 hU eU
      clear s5 nu q
      generalize upd H4 up (.lst us)=H5
      intro q5 hU eU
      show gName 4 (.ref up) [some kv,some (.ref p1),some (.ref p2),some sv,none] H5 _
      have q5':=s1.trans q5
      refine⟨_,rfl,_,_,_,_,rfl,rfl,SqT.of (q5' _ _ hp1),rfl,_,rfl,_,rfl,up,us,rfl,.inl ⟨SqL.of hU,fun p7 n7=>?_⟩⟩
      have s7:=same_upd (o:=.tup us) n7
      have q7:=q5'.trans s7
      have hp7:upd H5 p7 (.tup us) p7=some (.tup us):=upd_same
      refine⟨_,rfl,_,rfl,_,_,_,_,rfl,rfl,SqT.of (q7 _ _ hp1),rfl,_,rfl,_,_,_,_,rfl,rfl,SqT.of (q7 _ _ hp2),rfl,R,_,_,_,n,j,en1,en2,1,1,rfl,⟨hk.same q7,KindR.Row.same q7.t c1,KindR.Row.same q7.t c2,by omega,by omega,by omega,by decide⟩,fun ev H8 s8 r8=>?_⟩
      refine⟨(by show 4≤sizeLine;decide),fun p9 n9=>?_⟩
      have s9:=same_upd (o:=.tup [vT l,sv,V.ref p7,ev]) n9
      have s89:=s8.trans s9
      have s79:=s7.trans s89
      exact k _ _ (q7.trans s89) ⟨p9,_,_,_,rfl,upd_same,KindR.Row.same (q5.trans s79).t r1,
        ⟨p7,us,rfl,s89 _ _ hp7,eU.mono fun _ _ _ z=>KindR.Tab.same s79.t z⟩,KindR.Row.same s9.t r8⟩
def ctab(S:SR)(n:Nat)(st:Nat→S.W)(A:Nat→Nat→S.W)(en:Nat→S.W):Nat→Nat→S.W:=fun i=>if i < 1 then cat S 1 (fun _=>dotW S st (fun a=>dotW S (A a) en n) n) (fun j=>dotW S st (fun a=>A a j) n)else cat S 1 (fun _=>dotW S (A (i - 1)) en n) (A (i - 1))
theorem ctab_0{S:SR}{n:Nat}{st:Nat→S.W}{A:Nat→Nat→S.W}{en:Nat→S.W}:ctab S n st A en 0=cat S 1 (fun _=>dotW S st (fun a=>dotW S (A a) en n) n) (fun j=>dotW S st (fun a=>A a j) n):=if_pos (by decide)
theorem ctab_s{S:SR}{n i:Nat}{st:Nat→S.W}{A:Nat→Nat→S.W}{en:Nat→S.W}:ctab S n st A en (1+i)=cat S 1 (fun _=>dotW S (A i) en n) (A i):=by
  unfold ctab
  rw[if_neg (by omega),Nat.add_sub_cancel_left]
section
variable{S:SR}{n:Nat}{st en:Nat→S.W}{tb:Nat→Nat→Nat→S.W}{wd:Nat→Nat}
end
theorem ents_one{R:KindR Pr w K mg base}{m:Nat}{v:V}{x:R.S.W}{H:Hp}(h:R.is H v x)(z:R.S.lv m 32 x):Ents (R.Wt (fun _=>x) m) [v] 1 H:=Ents.nil.snoc ⟨h,z⟩
theorem Ents.up{R:KindR Pr w K mg base}{n m m':Nat}{x:Nat→R.S.W}{vs:List V}{H:Hp}(h:m≤m')(r:Ents (R.Wt x m) vs n H):Ents (R.Wt x m') vs n H:=by
  obtain⟨d,rfl⟩:∃d,m'=m+d:=⟨m' - m,by omega⟩
  exact r.mono fun _ _ _ q=>⟨q.1,lv_ups q.2⟩
def sp_closed_table(w:World)(K:PySem.W.Frag)(mg:Str→Option Value)(base:Heap):Sp:=fun vs H Q _=>∃(R:KindR Pr w K mg base),∃kv mv tv l n st tb en A,vs=[kv,mv,tv]∧(KAt R.C R.fs H kv∧MachG R l n st tb en 1 1 1 mv H∧R.Tab n n A 1 tv H∧n≤30)∧
  ∀v H',Same H H'→R.Tab (1+n) (1+n) (ctab R.S n st A en) 3 v H'→Q v H'
theorem ok_closed_table(T:Txt K mg t):FnOk Pr w K mg base CX0 43 t.closed_table t.d_closed_table ["kind","machine","table"] (sp_closed_table w K mg base):=by
  refine T.F_closed_table.ok sc_closed_table (fun vs H Q E h=>?_) (fun cdv A outer s H vs Q E hr h=>?_)
  · obtain⟨R,kv,mv,tv,l,n,st,tb,en,A,rfl,_⟩:=h
    rfl
  · obtain⟨R,kv,mv,tv,l,n,st,tb,en,A0,rfl,⟨hk,⟨p,sv,tvv,ev,rfl,hp,h1,h2,h3⟩,ht,hn⟩,k⟩:=h
    have sl:1000 < sizeLine:=by decide
    refine⟨_,(pss_cons (ps_set (i:=3) sc_closed_table.nd rfl (Or.inl rfl) (pe_call (ok_by_column T) (hr.mono (by decide)) rfl T.m_by_column T.F_by_column.kp T.b_by_column .nil pass0 (pa_cons (pv 0) (pa_cons (pv 2) (pa_cons (pe_ix ix_tup (pv 1) pe_int (fun _ _=>rfl)) pa_nil))))) (pss_cons (ps_set (i:=4) sc_closed_table.nd rfl (Or.inl rfl) (pe_op op_catA (pe_tup (pa_cons (pe_call (ok_dot T) (hr.mono (by decide)) rfl T.m_dot T.F_dot.kp T.b_dot .nil pass0 (pa_cons (pv 0) (pa_cons (pe_ix ix_tup (pv 1) pe_int (fun _ _=>rfl)) (pa_cons (pv 3) pa_nil)))) pa_nil)) (pe_call (ok_row_by T) (hr.mono (by decide)) rfl T.m_row_by T.F_row_by.kp T.b_row_by .nil pass0 (pa_cons (pv 0) (pa_cons (pe_ix ix_tup (pv 1) pe_int (fun _ _=>rfl)) (pa_cons (pv 2) pa_nil)))))) (pss_cons (ps_setC (i₀:=5) (xs:=["x","row"]) sc_closed_table.nd rfl (Or.inl rfl) rfl (show CompOk ["kind","machine","table","back","first","others"] (defScope s_closed_table) _ from⟨rfl,by decide +kernel,by decide +kernel,by decide +kernel,by decide +kernel,by decide +kernel⟩) (pi_zip rfl T.z_zip (pa_cons (pv 3) (pa_cons (pv 2) pa_nil))) (fun _ _ _ _ _=>(show PG _ _ (gTup K 2 _)from(pg_tup rfl (pgs_cons (pg_name (i:=6) (by show List.Nodup (["kind","machine","table","back","first","others","x","row"]:List Str);decide +kernel) rfl (Or.inl rfl)) (pgs_cons (pg_name (i:=7) (by show List.Nodup (["kind","machine","table","back","first","others","x","row"]:List Str);decide +kernel) rfl (Or.inl rfl)) pgs_nil))))) (fun _ _ _ _ _=>(pe_op op_catA (pe_tup (pa_cons (pv 6) pa_nil)) (pv 7)))) (pss_one (ps_ret (pe_callTy call_tuple_of (by rfl) T.z_tuple boot_tuple (pa_cons (pe_op op_cat (pe_lst (pa_cons (pv 4) pa_nil)) (pv 5)) pa_nil))))))),?_⟩
    refine⟨_,rfl,_,rfl,_,rfl,_,_,_,_,rfl,rfl,SqT.of hp,rfl,R,_,_,_,n,n,A0,en,1,1,rfl,⟨hk,ht,h3.seq,by omega,by omega,by decide⟩,fun bv H1 s1 r1=>?_⟩
    show gName 3 bv [some kv,some (.ref p),some tv,none,none,none] H1 _
    refine⟨_,rfl,_,rfl,_,_,_,_,rfl,rfl,SqT.of (s1 _ _ hp),rfl,_,rfl,R,_,_,_,n,st,_,1,2,rfl,⟨hk.same s1,(KindR.Row.same s1.t h1).seq,r1.seq,by omega,by decide⟩,fun dv' H2 s2 f2 z2=>?_⟩
    refine⟨(by show 1≤sizeLine;decide),fun p3 n3=>?_⟩
    have s3:=same_upd (o:=.tup [dv']) n3
    have hp3:upd H2 p3 (.tup [dv']) p3=some (.tup [dv']):=upd_same
    have f3:=R.same s3.t f2
    revert s3 hp3 f3
    generalize upd H2 p3 (.tup [dv'])=H3
    intro s3 hp3 f3
    have q3:=s1.trans (s2.trans s3)
    refine⟨_,rfl,_,rfl,_,_,_,_,rfl,rfl,SqT.of (q3 _ _ hp),rfl,_,rfl,R,_,_,_,n,n,st,A0,1,1,rfl,⟨hk.same q3,(KindR.Row.same q3.t h1).seq,KindR.Tab.same q3.t ht,by omega,by omega,by omega,by decide⟩,fun rv H4 s4 r4=>?_⟩
    rw[if0]at r4
    obtain⟨p4,rs,rfl,h4,e4⟩:=r4
    refine⟨_,_,[dv'],rs,rfl,rfl,s4 _ _ hp3,h4,(by rw[e4.1];show 1+_≤_;omega),fun p5 H5 s5 h5=>?_⟩
    have q45:=s4.trans s5
    have q5:=q3.trans q45
    have hfirst:R.Row (1+n) (ctab R.S n st A0 en 0) 3 (.ref p5) H5:=by
      rw[ctab_0]
      exact⟨p5,_,rfl,h5,ents_cat (ents_one (R.same q45.t f3) z2) (Ents.up (by decide) (e4.mono fun _ _ _ z=>KindR.Wt.same s5.t z))⟩
    show gName 4 (.ref p5) [some kv,some (.ref p),some tv,some bv,none,none] H5 _
    have r1:=KindR.Row.same ((s2.trans s3).trans q45).t r1
    obtain⟨bp,bs,rfl,hb,eb⟩:=r1
    obtain⟨tp,ts,rfl,htp,et⟩:=KindR.Tab.same q5.t ht
    clear h4 e4 f2 f3 hp3 s2 s3 s4 s5 q45 h5
    refine⟨_,rfl,_,rfl,.tup bp,.tup tp,_,_,bs,ts,rfl,rfl,rfl,SqT.of hb,SqT.of htp,comp_go (n:=n) (fun j ys H2=>Same H5 H2∧Ents (fun i u H=>R.Row (1+n) (ctab R.S n st A0 en (1+i)) 3 u H) ys j H2) (by omega) ⟨Same.refl _,Ents.nil⟩ (fun j ys H2 q=>q.2.1) ?_ ?_ ?_⟩
    · rintro j ys H6 hj ⟨q,e⟩
      obtain⟨u,eu,pu⟩:=eb.2 j hj
      obtain⟨v,ev',pv⟩:=et.2 j hj
      refine⟨⟨bs,ts,u,v,SqT.of (q _ _ hb),SqT.of (q _ _ htp),eu,ev'⟩,fun y H' hy=>?_⟩
      obtain⟨pp,x',y',rfl,np,rfl,f1,f2⟩:=hy
      have e1:=f1 _ (SqT.of (q _ _ hb))
      rw[eu]at e1
      cases e1
      have e2:=f2 _ (SqT.of (q _ _ htp))
      rw[ev']at e2
      cases e2
      have s7:=same_upd (o:=.tup [u,v]) np
      refine⟨pp,_,rfl,SqT.of upd_same,rfl,_,_,rfl,_,_,rfl,rfl,⟨[some _,some _],rfl,rfl⟩,_,rfl,(by show 1≤sizeLine;decide),fun p8 n8=>?_⟩
      have s8:=same_upd (o:=.tup [u]) n8
      have hp8:upd (upd H6 pp (.tup [u,v])) p8 (.tup [u]) p8=some (.tup [u]):=upd_same
      have s78:=s7.trans s8
      revert s78 hp8
      generalize upd (upd H6 pp (.tup [u,v])) p8 (.tup [u])=H8
      intro hp8 s78
      have q8:=q.trans s78
      obtain⟨a,as,rfl,ha,ea⟩:=KindR.Row.same q8.t pv
      refine⟨_,rfl,_,_,[u],as,rfl,rfl,hp8,ha,(by rw[ea.1];show 1+_≤_;omega),fun p9 H9 s9 h9=>?_⟩
      refine⟨q8.trans s9,(e.mono fun _ _ _ z=>KindR.Row.same (s78.trans s9).t z).snoc ?_⟩
      rw[ctab_s]
      exact⟨p9,_,rfl,h9,ents_cat (ents_one (R.same (q8.trans s9).t pu.1) (lv_ups (d:=1) pu.2)) (Ents.up (by decide) (ea.mono fun _ _ _ z=>KindR.Wt.same s9.t z))⟩
    · rintro ys H6 ⟨q,e⟩
      exact⟨bs,ts,SqT.of (q _ _ hb),SqT.of (q _ _ htp),.inl eb.1.symm⟩
    · rintro us H6 up ⟨q,eU⟩ nu
      have s7:=same_upd (o:=.lst us) nu
      have q7:=q.trans s7
      have hU:upd H6 up (.lst us) up=some (.lst us):=upd_same
      have eU:=eU.mono fun _ _ _ z=>KindR.Row.same s7.t z
      revert q7 hU eU
      clear s7 nu q
      generalize upd H6 up (.lst us)=H7
      intro q7 hU eU
      show gName 5 (.ref up) [some kv,some (.ref p),some (.ref tp),some (.ref bp),some (.ref p5),none] H7 _
      refine⟨_,rfl,(by show 1≤sizeLine;decide),fun fp nf=>?_⟩
      have s8:=same_upd (o:=.lst [.ref p5]) nf
      refine⟨_,rfl,_,_,[.ref p5],us,rfl,rfl,upd_same,s8 _ _ hU,(by rw[eU.1];show 1+_≤_;omega),fun cp nc=>?_⟩
      have s9:=same_upd (o:=.lst ([.ref p5]++us)) nc
      refine⟨cp,[.ref p5]++us,rfl,.inl ⟨SqL.of upd_same,fun l2 n2=>?_⟩⟩
      have s10:=same_upd (o:=.tup ([.ref p5]++us)) n2
      have s810:=s8.trans (s9.trans s10)
      have s710:=q7.trans s810
      refine k _ _ (q5.trans s710) ⟨l2,_,rfl,upd_same,Ents.app ?_ (eU.mono fun i _ hi z=>KindR.Row.same s810.t z)⟩
      exact Ents.nil.snoc (KindR.Row.same s710.t hfirst)
def spx_closable(w:World)(K:PySem.W.Frag)(mg:Str→Option Value)(base:Heap)(t:Adr):Sp:=fun vs H Q E=>∃(R:KindR Pr w K mg base),∃kv v x,vs=[kv,v]∧(KAt R.C R.fs H kv∧R.is H v x)∧(x=R.S.zero→∀H',Same H H'→Q .non H')∧(x≠R.S.zero→∀H',Same H H'→E (.ref t.NoClosure) none H')
theorem okx_need_closable(T:Txt K mg t):FnOk Pr w K mg base (CX1 Pr w) 41 t.need_closable t.d_need_closable ["kind","empty_weight"] (spx_closable w K mg base t):=by
  refine T.F_need_closable.okx sc_need_closable (fun vs H Q E h=>?_) (fun cdv A outer s H vs Q E hr h=>?_)
  · obtain⟨R,kv,v,x,rfl,_⟩:=h
    rfl
  · obtain⟨R,kv,v,x,rfl,⟨⟨kp,dx,rfl,hk⟩,hv⟩,k0,k1⟩:=h
    refine⟨_,(pss_one (ps_if (pt_cmpR (op_neD hr.units) (pv 1) (pe_meth0 (pv 0) R.cl R.t_nought R.G_nought (hr.mono (by decide)) R.b_nought .nil pass0) (nomark _)) (pss_one (ps_raise thru_cx rfl T.x_NoClosure.ex rfl T.m_NoClosure (pa_cons pe_str pa_nil))) pss_nil)),?_⟩
    refine⟨_,rfl,_,rfl,_,_,_,rfl,hk,R.l_nought,_,rfl,⟨_,_,rfl,hk⟩,fun z H1 s1 f1=>?_⟩
    by_cases e:x=R.S.zero
    · refine R.neD (R.same s1.t hv) f1 e ⟨_,rfl,?_⟩
      (try refine iteF ?_)
      exact k0 e _ s1
    · refine R.neT (R.same s1.t hv) f1 e ⟨_,rfl,?_⟩
      refine iteT ?_
      exact⟨(by show 1≤sizeLine;decide),k1 e _ s1⟩
def spx_closed(w:World)(K:PySem.W.Frag)(mg:Str→Option Value)(base:Heap)(t:Adr):Sp:=fun vs H Q E=>∃(R:KindR Pr w K mg base),∃kv mv l n st tb en,vs=[kv,mv]∧(KAt R.C R.fs H kv∧MachG R l n st tb en 1 1 1 mv H∧LOk l∧n≤20)∧
  (dotW R.S st en n=R.S.zero→n≤19→∀v H',Same H H'→MachG R l (1+n) (unitW R.S 0) (fun c=>ctab R.S n st (tb c) en) (unitW R.S 0) 1 3 1 v H'→Q v H')∧(dotW R.S st en n=R.S.zero→19 < n→∀H',Same H H'→E (.ref t.TooGreat) none H')∧(dotW R.S st en n≠R.S.zero→∀H',Same H H'→E (.ref t.NoClosure) none H')
theorem okx_closed(T:Txt K mg t):FnOk Pr w K mg base (CX1 Pr w) 45 t.closed t.d_closed ["kind","machine"] (spx_closed w K mg base t):=by
  refine T.F_closed.okx sc_closed (fun vs H Q E h=>?_) (fun cdv A outer s H vs Q E hr h=>?_)
  · obtain⟨R,kv,mv,l,n,st,tb,en,rfl,_⟩:=h
    rfl
  · obtain⟨R,kv,mv,l,n,st,tb,en,rfl,⟨hk,hm,L,hn⟩,k0,k2,k1⟩:=h
    have sl:1000 < sizeLine:=by decide
    have l3:=L.h3
    have M0:MOk n l []:=⟨⟨L,by simp,by simp⟩,by omega⟩
    have em:V.str (Str.ofString "")=vT []:=by rw[em_is];rfl
    refine⟨_,(pss_cons (ps_expr (PEX.thru thru_cx (px_call (okx_need_closable T) (hr.mono (by decide)) rfl T.m_need_closable T.F_need_closable.kp T.b_need_closable .nil (pa_cons (pv 0) (pa_cons (pe_call (ok_weight T) (hr.mono (by decide)) rfl T.m_weight T.F_weight.kp T.b_weight .nil pass0 (pa_cons (pv 0) (pa_cons (pv 1) (pa_cons pe_str pa_nil)))) pa_nil))))) (pss_cons (ps_set (i:=2) sc_closed.nd rfl (Or.inl rfl) (pe_op op_add (pe_call (ok_rooms T) (hr.mono (by decide)) rfl T.m_rooms T.F_rooms.kp T.b_rooms .nil pass0 (pa_cons (pv 1) pa_nil)) pe_int)) (pss_cons (ps_expr (PEX.thru thru_cx (px_call (okx_need_few_rooms T) (hr.mono (by decide)) rfl T.m_need_few_rooms T.F_need_few_rooms.kp T.b_need_few_rooms .nil (pa_cons (pv 2) pa_nil)))) (pss_cons (ps_setC (i₀:=3) (xs:=["table"]) sc_closed.nd rfl (Or.inl rfl) rfl (show CompOk ["kind","machine","size","tables","between"] (defScope s_closed) _ from⟨rfl,by decide +kernel,by decide +kernel,by decide +kernel,by decide +kernel,by decide +kernel⟩) (pi_tup (pe_ix ix_tup (pv 1) pe_int (fun _ _=>rfl))) (fun _ _ _ _ _=>(pg_name (i:=5) (by show List.Nodup (["kind","machine","size","tables","between","table"]:List Str);decide +kernel) rfl (Or.inl rfl))) (fun _ _ _ _ _=>(pe_call (ok_closed_table (w:=w) (base:=base) T) (hr.mono (by decide)) rfl T.m_closed_table T.F_closed_table.kp T.b_closed_table .nil pass0 (pa_cons (pv 0) (pa_cons (pv 1) (pa_cons (pv 5) pa_nil)))))) (pss_cons (ps_set (i:=4) sc_closed.nd rfl (Or.inl rfl) (pe_call (ok_unit T) (hr.mono (by decide)) rfl T.m_unit T.F_unit.kp T.b_unit .nil pass0 (pa_cons (pv 0) (pa_cons (pv 2) (pa_cons pe_int pa_nil))))) (pss_one (ps_ret (pe_tup (pa_cons (pe_ix ix_tup (pv 1) pe_int (fun _ _=>rfl)) (pa_cons (pv 4) (pa_cons (pe_callTy call_tuple_of (by rfl) T.z_tuple boot_tuple (pa_cons (pv 3) pa_nil)) (pa_cons (pv 4) pa_nil)))))))))))),?_⟩
    refine⟨_,rfl,_,rfl,_,rfl,?_⟩
    rw[em]
    refine⟨R,_,_,l,n,st,tb,en,[],1,1,1,rfl,⟨hk,hm,M0,by decide⟩,fun wv H1 s1 f1 z1=>?_⟩
    refine⟨R,_,_,_,rfl,⟨hk.same s1,f1⟩,fun e H2 s2=>?_,fun e H2 s2=>k1 e _ (s1.trans s2)⟩
    have q2:=s1.trans s2
    have k0:=k0 e
    refine⟨_,rfl,R,_,l,n,st,tb,en,1,1,1,rfl,hm.same q2.t,_,_,rfl,rfl,?_⟩
    show gName 2 (.int ((n:Int)+1)) [some kv,some mv,none,none,none] H2 _
    by_cases n19:n≤19
    case neg=>exact⟨_,rfl,_,rfl,fun z=>absurd z (by omega),fun _=>k2 e (by omega) _ q2⟩
    have k0:=k0 n19
    refine⟨_,rfl,_,rfl,fun _=>?_,fun z=>absurd z (by omega)⟩
    obtain⟨p,sv,tv,ev,rfl,hp,h1,⟨tp,ts,rfl,htp,et⟩,h3⟩:=id (hm.same q2.t)
    refine⟨_,rfl,_,_,_,_,rfl,rfl,SqT.of hp,rfl,tp,rfl,⟨_,SqT.of htp⟩,comp_go (n:=l.length) (fun i ys H3=>Same H2 H3∧Ents (fun c u H=>R.Tab (1+n) (1+n) (ctab R.S n st (tb c) en) 3 u H) ys i H3) (by omega) ⟨Same.refl _,Ents.nil⟩ (fun j ys H2 q=>q.2.1) ?_ ?_ ?_⟩
    · rintro j ys H3 hj ⟨q,e⟩
      obtain⟨u,eu,pu⟩:=et.2 j hj
      refine⟨⟨_,_,SqT.of (q _ _ htp),eu⟩,fun y H' hy=>?_⟩
      obtain⟨rfl,hy⟩:=hy
      have:=hy _ (SqT.of (q _ _ htp))
      rw[eu]at this
      cases this
      refine⟨⟨[some _],rfl,rfl⟩,_,rfl,_,rfl,_,rfl,R,_,_,_,l,n,st,tb,en,tb j,rfl,⟨hk.same (q2.trans q),hm.same (q2.trans q).t,KindR.Tab.same q.t pu,by omega⟩,fun v H4 s4 r4=>?_⟩
      exact⟨q.trans s4,(e.mono fun _ _ _ z=>KindR.Tab.same s4.t z).snoc r4⟩
    · rintro ys H3 ⟨q,e⟩
      exact⟨_,SqT.of (q _ _ htp),by rw[et.1];exact Nat.le_refl _⟩
    · rintro us H4 up ⟨q,eU⟩ nu
      have s5:=same_upd (o:=.lst us) nu
      have q5:=q.trans s5
      have hU:upd H4 up (.lst us) up=some (.lst us):=upd_same
      have eU:=eU.mono fun _ _ _ z=>KindR.Tab.same s5.t z
      revert q5 hU eU
      clear s5 nu q
      generalize upd H4 up (.lst us)=H5
      intro q5 hU eU
      show gName 3 (.ref up) [some kv,some (.ref p),some (.int ((n:Int)+1)),none,none] H5 _
      refine⟨_,rfl,_,rfl,R,_,_,_,1+n,0,rfl,⟨hk.same (q2.trans q5),by omega,by omega,rfl⟩,fun bv H6 s6 r6=>?_⟩
      show gName 4 bv [some kv,some (.ref p),some (.int ((n:Int)+1)),some (.ref up),none] H6 _
      have q6:=q5.trans s6
      refine⟨_,rfl,_,_,_,_,rfl,rfl,SqT.of (q6 _ _ hp),rfl,_,rfl,_,rfl,up,us,rfl,.inl ⟨SqL.of (s6 _ _ hU),fun p7 n7=>?_⟩⟩
      have s7:=same_upd (o:=.tup us) n7
      have hp7:upd H6 p7 (.tup us) p7=some (.tup us):=upd_same
      refine⟨_,rfl,(by show 4≤sizeLine;decide),fun p9 n9=>?_⟩
      have s9:=same_upd (o:=.tup [vT l,bv,V.ref p7,bv]) n9
      have s79:=s7.trans s9
      exact k0 _ _ (q2.trans (q6.trans s79)) ⟨p9,_,_,_,rfl,upd_same,KindR.Row.same s79.t r6,⟨p7,us,rfl,s9 _ _ hp7,eU.mono fun _ _ _ z=>KindR.Tab.same (s6.trans s79).t z⟩,KindR.Row.same s79.t r6⟩
def sp_closed(w:World)(K:PySem.W.Frag)(mg:Str→Option Value)(base:Heap):Sp:=fun vs H Q _=>∃(R:KindR Pr w K mg base),∃kv mv l n st tb en,vs=[kv,mv]∧(KAt R.C R.fs H kv∧MachG R l n st tb en 1 1 1 mv H∧LOk l∧n≤19∧dotW R.S st en n=R.S.zero)∧
  ∀v H',Same H H'→MachG R l (1+n) (unitW R.S 0) (fun c=>ctab R.S n st (tb c) en) (unitW R.S 0) 1 3 1 v H'→Q v H'
theorem ok_closed(T:Txt K mg t):FnOk Pr w K mg base CX0 45 t.closed t.d_closed ["kind","machine"] (sp_closed w K mg base):=
  (okx_closed T).quiet.imp fun vs H Q E h=>by
    obtain⟨R,kv,mv,l,n,st,tb,en,rfl,⟨hk,hm,L,hn,e⟩,k⟩:=h
    exact⟨R,kv,mv,l,n,st,tb,en,rfl,⟨hk,hm,L,by omega⟩,fun _ _=>k,fun _ z=>absurd z (by omega),fun ne=>absurd e ne⟩
theorem LOk.asc{l:List Nat}(L:LOk l):(tx l).cps.all (· < 128)=true:=L.asc'
def srow(S:SR)(W:List Nat)(c i:Nat):Nat→S.W:=fun j=>if W[i]? = some c∧j=i+1 then S.one else S.zero
def sp_single_row(w:World)(K:PySem.W.Frag)(mg:Str→Option Value)(base:Heap):Sp:=fun vs H Q _=>∃(R:KindR Pr w K mg base),∃kv c W,∃(z:Int),∃(i:Nat),vs=[kv,vT [c],vT W,.int z]∧(KAt R.C R.fs H kv∧W.length≤100∧z=i)∧
  ∀v H',Same H H'→R.Row (W.length+1) (srow R.S W c i) 1 v H'→Q v H'
theorem ok_single_row(T:Txt K mg t):FnOk Pr w K mg base CX0 42 t.single_row t.d_single_row ["kind","letter","word","place"] (sp_single_row w K mg base):=by
  refine T.F_single_row.ok sc_single_row (fun vs H Q E h=>?_) (fun cdv A outer s H vs Q E hr h=>?_)
  · obtain⟨R,kv,c,W,z,i,rfl,_⟩:=h
    rfl
  · obtain⟨R,kv,c,W,z,i,rfl,⟨hk,hW,rfl⟩,k⟩:=h
    have sl:1000 < sizeLine:=by decide
    have lw:∀H,LenV K (vT W) H W.length:=fun H=>⟨by rw[tx_len];omega,(tx_len W).symm⟩
    refine⟨_,(pss_cons (ps_if (PW.pt (pw_and (pt_cmpR op_lt (pv 3) (pe_callB call_len (by rfl) T.z_len PySem.boot_len (pa_cons (pv 2) pa_nil)) (nomark _)) (pw_and1 (pt_cmpR op_eq (pe_ix ix_str (pv 2) (pv 3) (fun _ _=>rfl)) (pv 1) (nomark _))))) (pss_one (ps_ret (pe_call (ok_unit T) (hr.mono (by decide)) rfl T.m_unit T.F_unit.kp T.b_unit .nil pass0 (pa_cons (pv 0) (pa_cons (pe_op op_add (pe_callB call_len (by rfl) T.z_len PySem.boot_len (pa_cons (pv 2) pa_nil)) pe_int) (pa_cons (pe_op op_add (pv 3) pe_int) pa_nil)))))) pss_nil) (pss_one (ps_ret (pe_call (ok_noughts T) (hr.mono (by decide)) rfl T.m_noughts T.F_noughts.kp T.b_noughts .nil pass0 (pa_cons (pv 0) (pa_cons (pe_op op_add (pe_callB call_len (by rfl) T.z_len PySem.boot_len (pa_cons (pv 2) pa_nil)) pe_int) pa_nil)))))),?_⟩
    have none_:W[i]?≠some c→∀v H',Same H H'→R.Row (W.length+1) (fun _=>R.S.zero) 1 v H'→Q v H':=fun h v H' s' r=>k v H' s' (Row.congr (fun j _=>by unfold srow;rw[if_neg (fun z=>h z.1)]) r)
    refine⟨_,rfl,_,rfl,_,_,rfl,lw _,_,_,rfl,rfl,_,rfl,?_⟩
    refine iteP (fun h0=>?_) (fun h0=>?_)
    · have hi:i < W.length:=by omega
      obtain⟨c',hc⟩:∃c',W[i]? = some c':=⟨W[i],by simp[hi]⟩
      have ac:atI (tx W).cps.toList (i:Int)=some c':=atI_nat (by show W.toArray.toList[_]? = _;simpa using hc)
      refine⟨_,rfl,_,rfl,_,_,_,rfl,rfl,(by rw[tx_len];omega),ac,_,rfl,rfl,_,rfl,?_⟩
      by_cases ecc:c'=c
      · subst ecc
        rw[show decide (V.str (⟨#[c']⟩:Str)=vT [c'])=true from decide_eq_true rfl]
        refine iteT ?_
        refine⟨_,rfl,_,rfl,_,_,rfl,lw _,_,_,rfl,rfl,_,rfl,_,_,rfl,rfl,R,_,_,_,W.length+1,i+1,rfl,⟨hk,by omega,by omega,by omega⟩,fun v H' s' r=>k v H' s' (Row.congr (fun j _=>?_) r)⟩
        unfold unitW srow
        by_cases hj:j=i+1
        · rw[if_pos hj,if_pos ⟨hc,hj⟩]
        · rw[if_neg hj,if_neg fun z=>hj z.2]
      · rw[show decide (V.str (⟨#[c']⟩:Str)=vT [c])=false from decide_eq_false fun z=>ecc (by have:=congrArg (fun v=>match v with | V.str s=>s.cps.toList | _=>[]) z;simpa [tx,vT] using this)]
        refine iteF ?_
        refine⟨_,rfl,_,rfl,_,_,rfl,lw _,_,_,rfl,rfl,R,_,_,W.length+1,1,rfl,⟨hk,by omega,by omega⟩,none_ fun z=>ecc (by rw[hc]at z;exact Option.some.inj z)⟩
    · refine⟨_,rfl,_,rfl,_,_,rfl,lw _,_,_,rfl,rfl,R,_,_,W.length+1,1,rfl,⟨hk,by omega,by omega⟩,none_ fun z=>?_⟩
      have:=(List.getElem?_eq_some_iff.mp z).1
      omega
def sp_single(w:World)(K:PySem.W.Frag)(mg:Str→Option Value)(base:Heap):Sp:=fun vs H Q _=>∃(R:KindR Pr w K mg base),∃kv l W bv b j,vs=[kv,vT l,vT W,bv]∧(KAt R.C R.fs H kv∧WOk l W 100∧W.length≤19∧R.is H bv b∧R.S.lv j 32 b∧j≤1000)∧
  ∀v H',Same H H'→MachG R l (W.length+1) (fun i=>R.S.mul b (unitW R.S 0 i)) (fun c i=>srow R.S W (l.getD c 0) i) (unitW R.S W.length) (j+1) 1 1 v H'→Q v H'
theorem ok_single(T:Txt K mg t):FnOk Pr w K mg base CX0 44 t.single t.d_single ["kind","letters","word","by"] (sp_single w K mg base):=by
  refine T.F_single.ok sc_single (fun vs H Q E h=>?_) (fun cdv A outer s H vs Q E hr h=>?_)
  · obtain⟨R,kv,l,W,bv,b,j,rfl,_⟩:=h
    rfl
  · obtain⟨R,kv,l,W,bv,b,jl,rfl,⟨hk,O,h19,hb,lb,hj⟩,k⟩:=h
    have L:=O.lo
    have l3:=L.h3
    have sl:1000 < sizeLine:=by decide
    have lw:∀H,LenV K (vT W) H W.length:=fun H=>⟨by rw[tx_len];omega,(tx_len W).symm⟩
    refine⟨_,(pss_cons (ps_expr (pe_call (ok_need_word T) (hr.mono (by decide)) rfl T.m_need_word T.F_need_word.kp T.b_need_word .nil pass0 (pa_cons (pv 1) (pa_cons (pv 2) pa_nil)))) (pss_cons (ps_set (i:=4) sc_single.nd rfl (Or.inl rfl) (pe_op op_add (pe_callB call_len (by rfl) T.z_len PySem.boot_len (pa_cons (pv 2) pa_nil)) pe_int)) (pss_cons (ps_expr (pe_call (ok_need_few_rooms T) (hr.mono (by decide)) rfl T.m_need_few_rooms T.F_need_few_rooms.kp T.b_need_few_rooms .nil pass0 (pa_cons (pv 4) pa_nil))) (pss_cons (ps_set (i:=5) sc_single.nd rfl (Or.inl rfl) (pe_lst pa_nil)) (pss_cons (ps_for PassesOwn.never rfl (pi_str (pv 1)) (pg_name (i:=6) sc_single.nd rfl (Or.inr rfl)) (pss_one (ps_expr (pe_bm PySem.F.plainAttrs_list PySem.F.slot_list_append PySem.F.type_list_append mt_append (pv 5) (pa_cons (pe_callTy call_tuple_of (by rfl) T.z_tuple boot_tuple (pa_cons (pe_comp (xs:=["place"]) rfl (show CompOk ["kind","letters","word","by","size","tables","letter","start"] (defScope s_single) _ from⟨rfl,by decide +kernel,by decide +kernel,by decide +kernel,by decide +kernel,by decide +kernel⟩) (pi_range1 rfl T.z_range (pa_cons (pv 4) pa_nil)) (fun _ _ _ _ _=>(pg_name (i:=8) (by show List.Nodup (["kind","letters","word","by","size","tables","letter","start","place"]:List Str);decide +kernel) rfl (Or.inl rfl))) (fun _ _ _ _ _=>(pe_call (ok_single_row (w:=w) (base:=base) T) (hr.mono (by decide)) rfl T.m_single_row T.F_single_row.kp T.b_single_row .nil pass0 (pa_cons (pv 0) (pa_cons (pv 6) (pa_cons (pv 2) (pa_cons (pv 8) pa_nil))))))) pa_nil)) pa_nil))))) (pss_cons (ps_set (i:=7) sc_single.nd rfl (Or.inl rfl) (pe_call (ok_times_row T) (hr.mono (by decide)) rfl T.m_times_row T.F_times_row.kp T.b_times_row .nil pass0 (pa_cons (pv 0) (pa_cons (pv 3) (pa_cons (pe_call (ok_unit T) (hr.mono (by decide)) rfl T.m_unit T.F_unit.kp T.b_unit .nil pass0 (pa_cons (pv 0) (pa_cons (pv 4) (pa_cons pe_int pa_nil)))) pa_nil))))) (pss_one (ps_ret (pe_tup (pa_cons (pv 1) (pa_cons (pv 7) (pa_cons (pe_callTy call_tuple_of (by rfl) T.z_tuple boot_tuple (pa_cons (pv 5) pa_nil)) (pa_cons (pe_call (ok_unit T) (hr.mono (by decide)) rfl T.m_unit T.F_unit.kp T.b_unit .nil pass0 (pa_cons (pv 0) (pa_cons (pv 4) (pa_cons (pe_callB call_len (by rfl) T.z_len PySem.boot_len (pa_cons (pv 2) pa_nil)) pa_nil)))) pa_nil))))))))))))),?_⟩
    refine⟨_,rfl,_,rfl,l,W,100,rfl,⟨O,by decide⟩,fun H1 s1=>?_⟩
    refine⟨_,rfl,_,_,rfl,lw _,_,_,rfl,rfl,?_⟩
    show gName 4 (.int ((W.length:Int)+1)) [some kv,some (vT l),some (vT W),some bv,none,none,none,none] H1 _
    refine⟨_,rfl,_,rfl,(by omega),?_⟩
    refine⟨(by show 0≤sizeLine;decide),fun fl nf=>?_⟩
    have s2:=same_upd (o:=.lst []) nf
    refine⟨_,rfl,_,rfl,L.asc,for_it (n:=l.length) (fun i σ H2=>∃v6 ys,σ=[some kv,some (vT l),some (vT W),some bv,some (.int ((W.length:Int)+1)),some (.ref fl),v6,none]∧Same H1 H2∧H2 fl=some (.lst ys)∧Ents (fun c u H=>R.Tab (W.length+1) (W.length+1) (fun i=>srow R.S W (l.getD c 0) i) 1 u H) ys i H2) ⟨_,[],rfl,s2,upd_same,Ents.nil⟩ ?_ ?_⟩
    · rintro i σ H2 hi ⟨v6,ys,rfl,q,hf,e⟩
      refine⟨(by show i < l.toArray.size;simpa using hi),fun x H' hy=>?_⟩
      obtain⟨rfl,c,hc,rfl⟩:=hy
      have hc:=tx_get hc
      have ec:l.getD i 0=c:=by rw[List.getD_eq_getElem?_getD,hc];rfl
      have q1:=s1.trans q
      refine⟨_,rfl,.inl ⟨rfl,_,SqL.of hf⟩,_,rfl,_,rfl,(by omega),(by omega),comp_go (n:=W.length+1) (fun b zs H3=>Same H' H3∧Ents (fun b u H=>R.Row (W.length+1) (srow R.S W c b) 1 u H) zs b H3) (by omega) ⟨Same.refl _,Ents.nil⟩ (fun b zs H3 c=>c.2.1) ?_ ?_ ?_⟩
      · rintro b' zs H3 hb' ⟨q3,cc⟩
        refine⟨(show b' < ((W.length:Int)+1).toNat by omega),fun y H'' hy=>?_⟩
        obtain⟨rfl,rfl⟩:=hy
        refine⟨⟨[some _],rfl,rfl⟩,_,rfl,_,rfl,_,rfl,_,rfl,R,_,c,W,_,b',rfl,⟨hk.same (q1.trans q3),by omega,by omega⟩,fun v H4 s4 r4=>?_⟩
        exact⟨q3.trans s4,(cc.mono fun _ _ _ z=>KindR.Row.same s4.t z).snoc r4⟩
      · rintro zs H3 ⟨q3,cc⟩
        show((W.length:Int)+1).toNat≤W.length+1
        omega
      · rintro zs H3 lp ⟨q3,cc⟩ nl
        have s4:=same_upd (o:=.lst zs) nl
        refine⟨lp,zs,rfl,.inl ⟨SqL.of upd_same,fun l2 n2=>?_⟩⟩
        have s5:=same_upd (o:=.tup zs) n2
        have s45:=s4.trans s5
        have q5:=q3.trans s45
        have hf5:=q5 _ _ hf
        refine⟨_,_,_,rfl,rfl,hf5,(by rw[e.1];omega),?_⟩
        have st:=sameT_lst (o:=.lst (ys++[.ref l2])) hf5
        refine⟨_,_,rfl,same_at (q.trans q5) nf,upd_same,((e.mono fun _ _ _ w'=>KindR.Tab.same q5.t w').snoc ?_).mono fun _ _ _ w'=>KindR.Tab.same st w'⟩
        rw[ec]
        exact⟨l2,zs,rfl,upd_same,cc.mono fun _ _ _ z=>KindR.Row.same s45.t z⟩
    · rintro σ H2 ⟨v6,ys,rfl,q,hf,e⟩
      have q1:=s1.trans q
      refine⟨(by show l.toArray.size≤_;simp),_,rfl,_,rfl,_,rfl,_,rfl,R,_,_,_,W.length+1,0,rfl,⟨hk.same q1,by omega,by omega,rfl⟩,fun uv H3 s3 r3=>?_⟩
      have q3:=q1.trans s3
      refine⟨R,_,_,_,W.length+1,b,_,jl,1,rfl,⟨hk.same q3,R.same q3.t hb,lb,r3,by omega,by omega⟩,fun sv H4 s4 r4=>?_⟩
      have q4:=q3.trans s4
      show gName 7 sv [some kv,some (vT l),some (vT W),some bv,some (.int ((W.length:Int)+1)),some (.ref fl),v6,none] H4 _
      have hf4:=(s3.trans s4) _ _ hf
      refine⟨_,rfl,_,rfl,_,rfl,fl,ys,rfl,.inl ⟨SqL.of hf4,fun p5 n5=>?_⟩⟩
      have s5:=same_upd (o:=.tup ys) n5
      have hp5:upd H4 p5 (.tup ys) p5=some (.tup ys):=upd_same
      have q5:=q4.trans s5
      refine⟨_,rfl,_,rfl,_,rfl,_,_,rfl,lw _,R,_,_,_,W.length+1,W.length,rfl,⟨hk.same q5,by omega,by omega,rfl⟩,fun ev H6 s6 r6=>?_⟩
      refine⟨(by show 4≤sizeLine;decide),fun p9 n9=>?_⟩
      have s9:=same_upd (o:=.tup [vT l,sv,V.ref p5,ev]) n9
      have s69:=s6.trans s9
      exact k _ _ (q5.trans s69) ⟨p9,_,_,_,rfl,upd_same,KindR.Row.same (s5.trans s69).t r4,⟨p5,ys,rfl,s69 _ _ hp5,e.mono fun _ _ _ z=>KindR.Tab.same ((s3.trans s4).trans (s5.trans s69)).t z⟩,KindR.Row.same s9.t r6⟩
def spb_two(w:World)(K:PySem.W.Frag)(mg:Str→Option Value)(base:Heap)(t:Adr)(f:Nat→Nat→Nat):Sp:=fun vs H _ E=>∃(R:KindR Pr w K mg base),∃kv ov hv l l' n k st1 tb1 en1 st2 tb2 en2,vs=[kv,ov,hv]∧(MachG R l n st1 tb1 en1 1 1 1 ov H∧MachG R l' k st2 tb2 en2 1 1 1 hv H∧n≤100∧k≤100)∧
  ((l≠l'∧E (.ref t.Unlike) none H)∨(l=l'∧20 < f n k∧E (.ref t.TooGreat) none H))
theorem okb_added(T:Txt K mg t):FnOk Pr w K mg base (CX1 Pr w) 45 t.added t.d_added ["kind","one","other"] (spb_two w K mg base t fun n k=>n+k):=by
  refine T.F_added.okx sc_added (fun vs H Q E h=>?_) (fun cdv A outer s H vs Q E hr h=>?_)
  · obtain⟨R,kv,ov,hv,l,l',n,k,st1,tb1,en1,st2,tb2,en2,rfl,_⟩:=h
    rfl
  · obtain⟨R,kv,ov,hv,l,l',n,k,st1,tb1,en1,st2,tb2,en2,rfl,⟨h1,h2,n1,k1⟩,h⟩:=h
    obtain⟨p1,a1,b1,c1,rfl,hp1,_⟩:=id h1
    obtain⟨p2,a2,b2,c2,rfl,hp2,_⟩:=id h2
    refine⟨_,(pss_cons (ps_expr (PEX.thru thru_cx (px_call (okx_need_same_letters T) (hr.mono (by decide)) rfl T.m_need_same_letters T.F_need_same_letters.kp T.b_need_same_letters .nil (pa_cons (pv 1) (pa_cons (pv 2) pa_nil))))) (pss_cons (ps_expr (PEX.thru thru_cx (px_call (okx_need_few_rooms T) (hr.mono (by decide)) rfl T.m_need_few_rooms T.F_need_few_rooms.kp T.b_need_few_rooms .nil (pa_cons (pe_op op_add (pe_call (ok_rooms T) (hr.mono (by decide)) rfl T.m_rooms T.F_rooms.kp T.b_rooms .nil pass0 (pa_cons (pv 1) pa_nil)) (pe_call (ok_rooms T) (hr.mono (by decide)) rfl T.m_rooms T.F_rooms.kp T.b_rooms .nil pass0 (pa_cons (pv 2) pa_nil))) pa_nil)))) pss_never)),?_⟩
    refine⟨_,rfl,_,rfl,l,l',p1,p2,a1,b1,c1,a2,b2,c2,rfl,⟨hp1,hp2⟩,fun e=>?_,fun ne=>?_⟩
    · rcases h with ⟨ne,_⟩ | ⟨_,hl,kE⟩
      · exact absurd e ne
      · refine⟨_,rfl,R,_,l,n,st1,tb1,en1,1,1,1,rfl,h1,_,rfl,R,_,l',k,st2,tb2,en2,1,1,1,rfl,h2,_,_,rfl,rfl,?_⟩
        exact⟨_,rfl,fun z=>absurd z (by have:20 < n+k:=hl;omega),fun _=>kE⟩
    · rcases h with ⟨_,kE⟩ | ⟨e,_⟩
      · exact kE
      · exact absurd e ne
theorem okb_joined(T:Txt K mg t):FnOk Pr w K mg base (CX1 Pr w) 45 t.joined t.d_joined ["kind","one","other"] (spb_two w K mg base t fun n k=>n+k):=by
  refine T.F_joined.okx sc_joined (fun vs H Q E h=>?_) (fun cdv A outer s H vs Q E hr h=>?_)
  · obtain⟨R,kv,ov,hv,l,l',n,k,st1,tb1,en1,st2,tb2,en2,rfl,_⟩:=h
    rfl
  · obtain⟨R,kv,ov,hv,l,l',n,k,st1,tb1,en1,st2,tb2,en2,rfl,⟨h1,h2,n1,k1⟩,h⟩:=h
    obtain⟨p1,a1,b1,c1,rfl,hp1,_⟩:=id h1
    obtain⟨p2,a2,b2,c2,rfl,hp2,_⟩:=id h2
    refine⟨_,(pss_cons (ps_expr (PEX.thru thru_cx (px_call (okx_need_same_letters T) (hr.mono (by decide)) rfl T.m_need_same_letters T.F_need_same_letters.kp T.b_need_same_letters .nil (pa_cons (pv 1) (pa_cons (pv 2) pa_nil))))) (pss_cons (ps_expr (PEX.thru thru_cx (px_call (okx_need_few_rooms T) (hr.mono (by decide)) rfl T.m_need_few_rooms T.F_need_few_rooms.kp T.b_need_few_rooms .nil (pa_cons (pe_op op_add (pe_call (ok_rooms T) (hr.mono (by decide)) rfl T.m_rooms T.F_rooms.kp T.b_rooms .nil pass0 (pa_cons (pv 1) pa_nil)) (pe_call (ok_rooms T) (hr.mono (by decide)) rfl T.m_rooms T.F_rooms.kp T.b_rooms .nil pass0 (pa_cons (pv 2) pa_nil))) pa_nil)))) pss_never)),?_⟩
    refine⟨_,rfl,_,rfl,l,l',p1,p2,a1,b1,c1,a2,b2,c2,rfl,⟨hp1,hp2⟩,fun e=>?_,fun ne=>?_⟩
    · rcases h with ⟨ne,_⟩ | ⟨_,hl,kE⟩
      · exact absurd e ne
      · refine⟨_,rfl,R,_,l,n,st1,tb1,en1,1,1,1,rfl,h1,_,rfl,R,_,l',k,st2,tb2,en2,1,1,1,rfl,h2,_,_,rfl,rfl,?_⟩
        exact⟨_,rfl,fun z=>absurd z (by have:20 < n+k:=hl;omega),fun _=>kE⟩
    · rcases h with ⟨_,kE⟩ | ⟨e,_⟩
      · exact kE
      · exact absurd e ne
theorem okb_crossed(T:Txt K mg t):FnOk Pr w K mg base (CX1 Pr w) 45 t.crossed t.d_crossed ["kind","one","other"] (spb_two w K mg base t fun n k=>n * k):=by
  refine T.F_crossed.okx sc_crossed (fun vs H Q E h=>?_) (fun cdv A outer s H vs Q E hr h=>?_)
  · obtain⟨R,kv,ov,hv,l,l',n,k,st1,tb1,en1,st2,tb2,en2,rfl,_⟩:=h
    rfl
  · obtain⟨R,kv,ov,hv,l,l',n,k,st1,tb1,en1,st2,tb2,en2,rfl,⟨h1,h2,n1,k1⟩,h⟩:=h
    obtain⟨p1,a1,b1,c1,rfl,hp1,_⟩:=id h1
    obtain⟨p2,a2,b2,c2,rfl,hp2,_⟩:=id h2
    refine⟨_,(pss_cons (ps_expr (PEX.thru thru_cx (px_call (okx_need_same_letters T) (hr.mono (by decide)) rfl T.m_need_same_letters T.F_need_same_letters.kp T.b_need_same_letters .nil (pa_cons (pv 1) (pa_cons (pv 2) pa_nil))))) (pss_cons (ps_expr (PEX.thru thru_cx (px_call (okx_need_few_rooms T) (hr.mono (by decide)) rfl T.m_need_few_rooms T.F_need_few_rooms.kp T.b_need_few_rooms .nil (pa_cons (pe_op op_mul (pe_call (ok_rooms T) (hr.mono (by decide)) rfl T.m_rooms T.F_rooms.kp T.b_rooms .nil pass0 (pa_cons (pv 1) pa_nil)) (pe_call (ok_rooms T) (hr.mono (by decide)) rfl T.m_rooms T.F_rooms.kp T.b_rooms .nil pass0 (pa_cons (pv 2) pa_nil))) pa_nil)))) pss_never)),?_⟩
    refine⟨_,rfl,_,rfl,l,l',p1,p2,a1,b1,c1,a2,b2,c2,rfl,⟨hp1,hp2⟩,fun e=>?_,fun ne=>?_⟩
    · rcases h with ⟨ne,_⟩ | ⟨_,hl,kE⟩
      · exact absurd e ne
      · refine⟨_,rfl,R,_,l,n,st1,tb1,en1,1,1,1,rfl,h1,_,rfl,R,_,l',k,st2,tb2,en2,1,1,1,rfl,h2,_,_,rfl,rfl,.inl ⟨by omega,by omega⟩,?_⟩
        have hl:((20:Nat):Int) < ((n * k:Nat):Int):=Int.ofNat_lt.mpr hl
        rw[Int.natCast_mul]at hl
        exact⟨_,rfl,fun z=>absurd z (by omega),fun _=>kE⟩
    · rcases h with ⟨_,kE⟩ | ⟨e,_⟩
      · exact kE
      · exact absurd e ne
def spb_single(K:PySem.W.Frag)(t:Adr):Sp:=fun vs H _ E=>∃kv l v bv,vs=[kv,vT l,v,bv]∧((∃ws,v=vT ws∧((∀c∈ws,c < 128)∧ws.length≤1000)∧(((∀c∈ws,c∈l)∧19 < ws.length∧∀H',Same H H'→E (.ref t.TooGreat) none H')∨((¬∀c∈ws,c∈l)∧∀H',Same H H'→E (.ref t.NoWord) none H')))∨(NoStr K v H∧E (.ref t.NoWord) none H))
theorem okb_single(T:Txt K mg t):FnOk Pr w K mg base (CX1 Pr w) 44 t.single t.d_single ["kind","letters","word","by"] (spb_single K t):=by
  refine T.F_single.okx sc_single (fun vs H Q E h=>?_) (fun cdv A outer s H vs Q E hr h=>?_)
  · obtain⟨kv,l,v,bv,rfl,_⟩:=h
    rfl
  · obtain⟨kv,l,v,bv,rfl,h⟩:=h
    refine⟨_,(pss_cons (ps_expr (PEX.thru thru_cx (px_call (okx_need_word T) (hr.mono (by decide)) rfl T.m_need_word T.F_need_word.kp T.b_need_word .nil (pa_cons (pv 1) (pa_cons (pv 2) pa_nil))))) (pss_cons (ps_set (i:=4) sc_single.nd rfl (Or.inl rfl) (pe_op op_add (pe_callB call_len (by rfl) T.z_len PySem.boot_len (pa_cons (pv 2) pa_nil)) pe_int)) (pss_cons (ps_expr (PEX.thru thru_cx (px_call (okx_need_few_rooms T) (hr.mono (by decide)) rfl T.m_need_few_rooms T.F_need_few_rooms.kp T.b_need_few_rooms .nil (pa_cons (pv 4) pa_nil)))) pss_never))),?_⟩
    rcases h with ⟨ws,rfl,W,h⟩ | ⟨hn,kE⟩
    · have sl:10000 < sizeLine:=by decide
      have wl:=W.2
      refine⟨_,rfl,_,rfl,l,_,rfl,.inl ⟨ws,rfl,W,fun al H1 s1=>?_,fun na H1 s1=>?_⟩⟩
      · rcases h with ⟨_,hl,kE⟩ | ⟨na,_⟩
        · have lw:LenV K (vT ws) H1 ws.length:=⟨by rw[tx_len];omega,(tx_len ws).symm⟩
          refine⟨_,rfl,_,_,rfl,lw,_,_,rfl,rfl,?_⟩
          exact⟨_,rfl,_,rfl,fun z=>absurd z (by omega),fun _=>kE _ s1⟩
        · exact absurd al na
      · rcases h with ⟨al,_⟩ | ⟨_,kE⟩
        · exact absurd al na
        · exact kE _ s1
    · exact⟨_,rfl,_,rfl,l,_,rfl,.inr ⟨hn,kE⟩⟩
def Big(N:Nat)(v:V)(H:Hp):Prop:=∃p a s b c us,v=.ref p∧H p=some (.tup [a,.ref s,b,c])∧H s=some (.tup us)∧us.length=N
theorem MachG.big{R:KindR Pr w K mg base}{l:List Nat}{n:Nat}{st:Nat→R.S.W}{tb:Nat→Nat→Nat→R.S.W}{en:Nat→R.S.W}{m1 m2 m3:Nat}{v:V}{H:Hp}(h:MachG R l n st tb en m1 m2 m3 v H):Big n v H:=by
  obtain⟨p,sv,tv,ev,rfl,hp,⟨s,us,rfl,hs,e⟩,_⟩:=h
  exact⟨p,_,s,_,_,us,rfl,hp,hs,e.1⟩
theorem wt_put{R:KindR Pr w K mg base}{x:Nat→R.S.W}{ys:List V}{j:Nat}{H H':Hp}{u:V}{y:R.S.W}(e:Ents (R.Wt x 1) ys j H)(s:SameT H H')(h:R.is H' u y)(l:R.S.lv 1 32 y):Ents (R.Wt (fun i=>if i=j then y else x i) 1) (ys++[u]) (j+1) H':=by
  refine(e.mono fun i v hi q=>?_).snoc ?_
  · show R.is _ _ (if i=j then y else x i)∧R.S.lv 1 32 (if i=j then y else x i)
    rw[if_neg (by omega)]
    exact⟨R.same s q.1,q.2⟩
  · show R.is _ _ (if j=j then y else x j)∧R.S.lv 1 32 (if j=j then y else x j)
    rw[if_pos rfl]
    exact⟨h,l⟩
theorem rep1{α:Type}(x:α)(k:Nat):(List.replicate k [x]).flatten=List.replicate k x:=by
  induction k with
  | zero=>rfl
  | succ k ih=>rw[List.replicate_succ,List.flatten_cons,ih,List.replicate_succ];rfl
theorem ents_rep{Pd:Nat→V→Hp→Prop}{v:V}{n:Nat}{H:Hp}(h:∀j,j < n→Pd j v H):Ents Pd (List.replicate n v) n H:=⟨by simp,fun j hj=>⟨v,by rw[List.getElem?_replicate,if_pos hj],h j hj⟩⟩
theorem Dr.ne{H:Hp}{a l:Addr}(d:Dr H a)(n:H l=none):l≠a:=fun e=>by
  obtain⟨xs,z⟩:=d.lst
  rw[← e,n]at z
  cases z
def sp_lmach(T:Txt K mg t):Sp:=fun vs H Q _=>∃(R:KindR Pr w K mg base),∃nm p,∃(a:Addr),∃so l,∃(n:Nat),∃(z:Int),So T R nm p∧vs=[.ref a,so,vT l,.int z]∧(Dr H a∧SortAt H so nm p∧l.length≤3∧n≤40∧z=n)∧∀v H' st tb,SameX a H H'→Dr H' a→MachG R l n st tb (fun _=>R.S.zero) 1 1 1 v H'→Q v H'
theorem ok_law_machine(T:Txt K mg t):FnOk Pr w K mg base CX0 4 t.law_machine t.d_law_machine ["_law_state_here","_law_sort_here","_law_letters_here","_law_many"] (sp_lmach (w:=w) (base:=base) T):=by
  refine T.F_law_machine.ok sc_law_machine (fun vs H Q E h=>?_) (fun cdv A outer s H vs Q E hr h=>?_)
  · obtain⟨R,nm,p,a,so,l,n,z,_,rfl,_⟩:=h
    rfl
  · obtain⟨R,nm,p,a,so,l,n,z,hS,rfl,⟨hD,hso,l3,hn,rfl⟩,k⟩:=h
    have sl:10000 < sizeLine:=by decide
    have lz:R.S.lv 1 32 R.S.zero:=R.S.lv_mono _ _ _ _ (by decide) (R.S.lv_zero _)
    have lo:R.S.lv 1 32 R.S.one:=R.S.lv_mono _ _ _ _ (by decide) R.S.lv_one
    refine⟨_,(pss_cons (ps_set (i:=4) sc_law_machine.nd rfl (Or.inr rfl) (pe_lst (pa_cons (pe_call (ok_law_nought T) (hr.mono (by decide)) rfl T.m_law_nought T.F_law_nought.kp T.b_law_nought .nil pass0 (pa_cons (pv 1) pa_nil)) (pa_cons (pe_call (ok_law_one T) (hr.mono (by decide)) rfl T.m_law_one T.F_law_one.kp T.b_law_one .nil pass0 (pa_cons (pv 1) pa_nil)) pa_nil)))) (pss_cons (ps_set (i:=5) sc_law_machine.nd rfl (Or.inl rfl) (pe_callTy call_tuple_of (by rfl) T.z_tuple boot_tuple (pa_cons (pe_comp (xs:=["_law_k"]) rfl (show CompOk ["_law_state_here","_law_sort_here","_law_letters_here","_law_many","_law_some","_law_start","_law_line","_law_table"] (defScope s_law_machine) _ from⟨rfl,by decide +kernel,by decide +kernel,by decide +kernel,by decide +kernel,by decide +kernel⟩) (pi_range1 rfl T.z_range (pa_cons (pv 3) pa_nil)) (fun _ _ _ _ _=>(pg_name (i:=8) (by show List.Nodup (["_law_state_here","_law_sort_here","_law_letters_here","_law_many","_law_some","_law_start","_law_line","_law_table","_law_k"]:List Str);decide +kernel) rfl (Or.inl rfl))) (fun _ _ _ _ _=>(pe_ix (show IxR _ (rIxL K)from ix_list) (pv 4) (pe_call (ok_law_next (w:=w) (base:=base) T) (hr.mono (by decide)) rfl T.m_law_next T.F_law_next.kp T.b_law_next .nil pass0 (pa_cons (pv 0) (pa_cons pe_int pa_nil))) (fun _ _=>rfl)))) pa_nil))) (pss_cons (ps_set (i:=6) sc_law_machine.nd rfl (Or.inl rfl) (pe_callTy call_tuple_of (by rfl) T.z_tuple boot_tuple (pa_cons (pe_comp (xs:=["_law_k"]) rfl (show CompOk ["_law_state_here","_law_sort_here","_law_letters_here","_law_many","_law_some","_law_start","_law_line","_law_table"] (defScope s_law_machine) _ from⟨rfl,by decide +kernel,by decide +kernel,by decide +kernel,by decide +kernel,by decide +kernel⟩) (pi_range1 rfl T.z_range (pa_cons (pv 3) pa_nil)) (fun _ _ _ _ _=>(pg_name (i:=8) (by show List.Nodup (["_law_state_here","_law_sort_here","_law_letters_here","_law_many","_law_some","_law_start","_law_line","_law_table","_law_k"]:List Str);decide +kernel) rfl (Or.inl rfl))) (fun _ _ _ _ _=>(pe_ix (show IxR _ (rIxL K)from ix_list) (pv 4) (pe_call (ok_law_next (w:=w) (base:=base) T) (hr.mono (by decide)) rfl T.m_law_next T.F_law_next.kp T.b_law_next .nil pass0 (pa_cons (pv 0) (pa_cons pe_int pa_nil))) (fun _ _=>rfl)))) pa_nil))) (pss_cons (ps_set (i:=7) sc_law_machine.nd rfl (Or.inl rfl) (pe_callTy call_tuple_of (by rfl) T.z_tuple boot_tuple (pa_cons (pe_op op_rep (pe_lst (pa_cons (pv 6) pa_nil)) (pv 3)) pa_nil))) (pss_one (ps_ret (pe_tup (pa_cons (pv 2) (pa_cons (pv 5) (pa_cons (pe_callTy call_tuple_of (by rfl) T.z_tuple boot_tuple (pa_cons (pe_op op_rep (pe_lst (pa_cons (pv 7) pa_nil)) (pe_callB call_len (by rfl) T.z_len PySem.boot_len (pa_cons (pv 2) pa_nil))) pa_nil)) (pa_cons (pe_callTy call_tuple_of (by rfl) T.z_tuple boot_tuple (pa_cons (pe_op op_rep (pe_lst (pa_cons (pe_ix ix_list (pv 4) pe_int (fun _ _=>rfl)) pa_nil)) (pv 3)) pa_nil)) pa_nil))))))))))),?_⟩
    refine⟨_,rfl,R,nm,p,so,hS,rfl,hso,fun zv H1 s1 f1=>?_⟩
    refine⟨_,rfl,R,nm,p,so,hS,rfl,hso.same s1.t,fun ov H2 s2 f2=>?_⟩
    refine⟨(by show 2≤sizeLine;decide),fun lp nlp=>?_⟩
    have s3:=same_upd (o:=.lst [zv,ov]) nlp
    have q3:=(s1.trans s2).trans s3
    have k3:=upd_same (H:=H2) (a:=lp) (o:=.lst [zv,ov])
    have f1:=R.same (s2.trans s3).t f1
    have f2:=R.same s3.t f2
    have d3:=hD.same q3
    have na:lp≠a:=(hD.same (s1.trans s2)).ne nlp
    revert q3 k3 f1 f2 d3
    clear s3
    generalize upd H2 lp (.lst [zv,ov])=H3
    intro q3 k3 f1 f2 d3
    have pick:∀{r:Int} {G:Hp},0≤r→r < 2→SameX a H3 G→Dr G a→∃u y,atI [zv,ov] r=some u∧R.is G u y∧R.S.lv 1 32 y:=fun{r G} r0 r1 sx dx=>by
      rcases(by omega:r=0∨r=1)with rfl | rfl
      · exact⟨zv,_,rfl,R.same (sx.tt d3) f1,lz⟩
      · exact⟨ov,_,rfl,R.same (sx.tt d3) f2,lo⟩
    show gName 4 (.ref lp) [some (.ref a),some so,some (vT l),some (.int n),none,none,none,none] H3 _
    refine⟨_,rfl,_,rfl,(by omega),(by omega),comp_go (n:=n) (fun j ys H4=>∃x,SameX a H3 H4∧Dr H4 a∧Ents (R.Wt x 1) ys j H4) (by omega) ⟨fun _=>R.S.zero,SameX.refl _ _,d3,Ents.nil⟩ (fun j ys H4 ⟨_,_,_,q⟩=>q.1) ?_ ?_ ?_⟩
    · rintro j ys H4 hj ⟨x,q,d4,e⟩
      refine⟨(show j < (n:Int).toNat by omega),fun y H' hy=>?_⟩
      obtain⟨rfl,rfl⟩:=hy
      refine⟨⟨[some _],rfl,rfl⟩,_,rfl,_,rfl,a,2,rfl,⟨d4,by decide,by decide⟩,fun r H5 s5 d5 r0 r1=>?_⟩
      obtain⟨u,y,au,fu,lu⟩:=pick r0 r1 (q.trans s5) d5
      refine⟨_,_,_,_,rfl,rfl,SqL.of (s5 _ _ na (q _ _ na k3)),au,?_⟩
      exact⟨_,q.trans s5,d5,wt_put e (s5.tt d4) fu lu⟩
    · rintro ys H4 ⟨x,q,d4,e⟩
      show(n:Int).toNat≤n
      omega
    rintro ys4 H4 l4 ⟨st,q4,d4,e4⟩ nl4
    have t4:=same_upd (o:=.lst ys4) nl4
    refine⟨l4,_,rfl,.inl ⟨SqL.of upd_same,fun sp nsp=>?_⟩⟩
    have t5:=t4.trans (same_upd (o:=.tup ys4) nsp)
    have r5:R.Row n st 1 (.ref sp) (upd (upd H4 l4 (.lst ys4)) sp (.tup ys4)):=⟨sp,ys4,rfl,upd_same,e4.mono fun _ _ _ z=>KindR.Wt.same t5.t z⟩
    have q5:SameX a H3 (upd (upd H4 l4 (.lst ys4)) sp (.tup ys4)):=q4.trans (.of t5)
    have d5:=d4.same t5
    revert r5 q5 d5
    clear t5 t4
    generalize upd (upd H4 l4 (.lst ys4)) sp (.tup ys4)=H5
    intro r5 q5 d5
    show gName 5 (.ref sp) [some (.ref a),some so,some (vT l),some (.int n),some (.ref lp),none,none,none] H5 _
    refine⟨_,rfl,_,rfl,(by omega),(by omega),comp_go (n:=n) (fun j ys H4=>∃x,SameX a H5 H4∧Dr H4 a∧Ents (R.Wt x 1) ys j H4) (by omega) ⟨fun _=>R.S.zero,SameX.refl _ _,d5,Ents.nil⟩ (fun j ys H4 ⟨_,_,_,q⟩=>q.1) ?_ ?_ ?_⟩
    · rintro j ys H4 hj ⟨x,q,d4,e⟩
      refine⟨(show j < (n:Int).toNat by omega),fun y H' hy=>?_⟩
      obtain⟨rfl,rfl⟩:=hy
      refine⟨⟨[some _],rfl,rfl⟩,_,rfl,_,rfl,a,2,rfl,⟨d4,by decide,by decide⟩,fun r H6 s6 d6 r0 r1=>?_⟩
      obtain⟨u,y,au,fu,lu⟩:=pick r0 r1 ((q5.trans q).trans s6) d6
      refine⟨_,_,_,_,rfl,rfl,SqL.of (s6 _ _ na (q _ _ na (q5 _ _ na k3))),au,?_⟩
      exact⟨_,q.trans s6,d6,wt_put e (s6.tt d4) fu lu⟩
    · rintro ys H4 ⟨x,q,d4,e⟩
      show(n:Int).toNat≤n
      omega
    rintro ys6 H6 l6 ⟨ln,q6,d6,e6⟩ nl6
    have t6:=same_upd (o:=.lst ys6) nl6
    refine⟨l6,_,rfl,.inl ⟨SqL.of upd_same,fun rp nrp=>?_⟩⟩
    have t7:=t6.trans (same_upd (o:=.tup ys6) nrp)
    have r7:R.Row n ln 1 (.ref rp) (upd (upd H6 l6 (.lst ys6)) rp (.tup ys6)):=⟨rp,ys6,rfl,upd_same,e6.mono fun _ _ _ z=>KindR.Wt.same t7.t z⟩
    have q7:SameX a H5 (upd (upd H6 l6 (.lst ys6)) rp (.tup ys6)):=q6.trans (.of t7)
    have d7:=d6.same t7
    revert r7 q7 d7
    clear t7 t6
    generalize upd (upd H6 l6 (.lst ys6)) rp (.tup ys6)=H7
    intro r7 q7 d7
    show gName 6 (.ref rp) [some (.ref a),some so,some (vT l),some (.int n),some (.ref lp),some (.ref sp),none,none] H7 _
    refine⟨_,rfl,(by show 1≤sizeLine;decide),fun a8 n8=>?_⟩
    have t8:=same_upd (o:=.lst [V.ref rp]) n8
    refine⟨_,rfl,_,_,_,rfl,rfl,upd_same,(by omega),(by omega),(by show 1 * _≤_;omega),fun a9 n9=>?_⟩
    rw[rep1,Int.toNat_natCast]
    have t9:=t8.trans (same_upd (o:=.lst (List.replicate n (V.ref rp))) n9)
    refine⟨a9,_,rfl,.inl ⟨SqL.of upd_same,fun tp ntp=>?_⟩⟩
    have t10:=t9.trans (same_upd (o:=.tup (List.replicate n (V.ref rp))) ntp)
    have r10:R.Tab n n (fun _=>ln) 1 (.ref tp) (upd (upd (upd H7 a8 (.lst [V.ref rp])) a9 (.lst (List.replicate n (V.ref rp)))) tp (.tup (List.replicate n (V.ref rp)))):=⟨tp,_,rfl,upd_same,ents_rep fun j _=>KindR.Row.same t10.t r7⟩
    have q10:SameX a H5 _:=q7.trans (.of t10)
    have d10:=d7.same t10
    revert r10 q10 d10
    clear t10 t9 t8
    generalize upd (upd (upd H7 a8 (.lst [V.ref rp])) a9 (.lst (List.replicate n (V.ref rp)))) tp (.tup (List.replicate n (V.ref rp)))=HA
    intro r10 q10 d10
    show gName 7 (.ref tp) [some (.ref a),some so,some (vT l),some (.int n),some (.ref lp),some (.ref sp),some (.ref rp),none] HA _
    refine⟨_,rfl,_,rfl,_,rfl,(by show 1≤sizeLine;decide),fun b1 m1=>?_⟩
    have u1:=same_upd (o:=.lst [V.ref tp]) m1
    have ll:LenV K (vT l) (upd HA b1 (.lst [V.ref tp])) l.length:=⟨by rw[tx_len];omega,(tx_len l).symm⟩
    refine⟨_,rfl,_,_,rfl,ll,_,_,_,rfl,rfl,upd_same,(by omega),(by omega),(by show 1 * _≤_;omega),fun b2 m2=>?_⟩
    rw[rep1,Int.toNat_natCast]
    have u2:=u1.trans (same_upd (o:=.lst (List.replicate l.length (V.ref tp))) m2)
    refine⟨b2,_,rfl,.inl ⟨SqL.of upd_same,fun b3 m3=>?_⟩⟩
    have u3:=u2.trans (same_upd (o:=.tup (List.replicate l.length (V.ref tp))) m3)
    have rB:TupOf (fun j u H=>R.Tab n n ((fun _ _=>ln) j) 1 u H) l.length (.ref b3) (upd (upd (upd HA b1 (.lst [V.ref tp])) b2 (.lst (List.replicate l.length (V.ref tp)))) b3 (.tup (List.replicate l.length (V.ref tp)))):=⟨b3,_,rfl,upd_same,ents_rep fun j _=>KindR.Tab.same u3.t r10⟩
    have kB:=u3 _ _ (q10 _ _ na (q5 _ _ na k3))
    have fB:=R.same (((q5.trans q10).trans (.of u3)).tt d3) f1
    have qB:SameX a H5 _:=q10.trans (.of u3)
    have dB:=d10.same u3
    revert rB kB fB qB dB
    clear u3 u2 u1 ll
    generalize upd (upd (upd HA b1 (.lst [V.ref tp])) b2 (.lst (List.replicate l.length (V.ref tp)))) b3 (.tup (List.replicate l.length (V.ref tp)))=HB
    intro rB kB fB qB dB
    refine⟨_,rfl,_,_,_,_,rfl,rfl,SqL.of kB,rfl,(by show 1≤sizeLine;decide),fun c1 o1=>?_⟩
    have w1:=same_upd (o:=.lst [zv]) o1
    refine⟨_,rfl,_,_,_,rfl,rfl,upd_same,(by omega),(by omega),(by show 1 * _≤_;omega),fun c2 o2=>?_⟩
    rw[rep1,Int.toNat_natCast]
    have w2:=w1.trans (same_upd (o:=.lst (List.replicate n zv)) o2)
    refine⟨c2,_,rfl,.inl ⟨SqL.of upd_same,fun c3 o3=>?_⟩⟩
    have w3:=w2.trans (same_upd (o:=.tup (List.replicate n zv)) o3)
    have rC:R.Row n (fun _=>R.S.zero) 1 (.ref c3) (upd (upd (upd HB c1 (.lst [zv])) c2 (.lst (List.replicate n zv))) c3 (.tup (List.replicate n zv))):=⟨c3,_,rfl,upd_same,ents_rep fun j _=>⟨R.same w3.t fB,lz⟩⟩
    refine⟨(by show 4≤sizeLine;decide),fun p6 n6=>?_⟩
    have w4:=same_upd (o:=.tup [vT l,.ref sp,.ref b3,.ref c3]) n6
    have w5:=w3.trans w4
    exact k _ _ st (fun _ _=>ln) (((SameX.of q3).trans q5).trans (qB.trans (.of w5))) (dB.same w5) ⟨p6,_,_,_,rfl,upd_same,KindR.Row.same ((qB.tt d5).trans w5.t) r5,rB.mono w5.t fun _ _ _ z=>KindR.Tab.same w5.t z,KindR.Row.same w4.t rC⟩
theorem comp_goI{J:It}{n k:Nat}{g:TG}{tc:TT}{te:TE}{σ:L2.St}{Q:VK}{H1:Hp}(Pv:Nat→List V→Hp→Prop)(hn:n≤10000)(h0:Pv 0 [] H1)(hl:∀i ys H,Pv i ys H→ys.length≤i)
    (hgo:∀i ys H,i < n→Pv i ys H→J.go i H∧∀x H',J.yld i H x H'→g x (σ++List.replicate k none) H' fun σ2 H2=>(∃zs,σ2=σ++zs∧zs.length=k)∧tc σ2 H2 fun b H3=>if b=true then te σ2 H3 fun v H4=>Pv (i+1) (ys++[v]) H4 else Pv (i+1) ys H3)
    (hstop:∀ys H,Pv n ys H→J.stop n H) (hend:∀ys H p,Pv n ys H→H p=none→Q (.ref p) (upd H p (.lst ys))) :
    CTailI J k g tc te σ Q H1:=by
  have z:10000 < sizeLine:=by decide
  refine⟨fun i m ys H=>m=n - i∧i≤n∧Pv i ys H,⟨n,rfl,Nat.zero_le _,h0⟩,?_⟩
  rintro i m ys H ⟨rfl,hi,p⟩
  have yl:=hl i ys H p
  by_cases hlt:i < n
  · obtain⟨a,b⟩:=hgo i ys H hlt p
    refine .inr ⟨a,by omega,fun x H' y=>?_⟩
    have c:=b x H' y
    have e1:∀ys H3,(∃m',m' < n - i∧m'=n - (i+1)∧i+1≤n∧Pv (i+1) ys H3)=Pv (i+1) ys H3:=fun ys H3=>propext ⟨fun⟨_,_,_,_,q⟩=>q,fun q=>⟨_,by omega,rfl,hlt,q⟩⟩
    simp only[e1]
    exact c
  · have e:i=n:=by omega
    subst e
    exact .inl ⟨hstop ys H p,by omega,fun q nq=>hend ys H q p nq⟩
theorem rev_is(l:List Nat):revS (tx l)=tx l.reverse:=by
  show(⟨_⟩:Str)=⟨_⟩
  simp[tx,revS]
theorem sl_but(l:List Nat)(h:1≤l.length):Txt.slice (tx l) none (some (-1))=tx (l.take (l.length - 1)):=by
  have e:Builtin.Str.strSliceIndices none (some (-1)) 1 (tx l).length=Builtin.Str.strSliceIndices none (some ((l.length:Int) - 1)) 1 (tx l).length:=by
    unfold Builtin.Str.strSliceIndices
    rw[tx_len]
    simp only[show((1:Int) > 0)=True from by simp,if_true]
    rw[if_pos (by decide),if_neg (by omega)]
    have e1:(-1:Int)+(l.length:Int)=(l.length:Int) - 1:=by omega
    rw[e1]
    try rw[Int.max_eq_left (by omega)]
    try rw[Int.min_eq_left (by omega)]
  have f:=sl_to (p:=l) (q:=(l.length:Int) - 1) (by omega) (by omega)
  have e2:Txt.slice (tx l) none (some (-1))=Txt.slice (tx l) none (some ((l.length:Int) - 1)):=by
    unfold Txt.slice
    rw[e]
  rw[e2,f,show((l.length:Int) - 1).toNat=l.length - 1 by omega]
def ab4:List Nat:=[97,98,99,100]
theorem ab4_is:(Str.ofString "abcd")=tx ab4:=by decide +kernel
theorem one_out{l:List Nat}(L:LOk l):∃c r,(ab4.filter fun c=>decide (c ∉ l))=c::r:=by
  cases e:(ab4.filter fun c=>decide (c ∉ l))with
  | cons c r=>exact⟨c,r,rfl⟩
  | nil=>
    have h:∀c∈ab4,c∈l:=fun c hc=>by
      by_cases z:c∈l
      · exact z
      · have:c∈ab4.filter fun c=>decide (c ∉ l):=List.mem_filter.mpr ⟨hc,decide_eq_true z⟩
        rw[e]at this
        cases this
    have h1:=h 97 (by decide)
    have h2:=h 98 (by decide)
    have h3:=h 99 (by decide)
    have h4:=h 100 (by decide)
    rcases three L.h1 L.h3 with ⟨a,rfl⟩ | ⟨a,b,rfl⟩ | ⟨a,b,c,rfl⟩ <;>simp at h1 h2 h3 h4 <;>omega
theorem iteS'{l l':List Nat}{A B:Prop}(h1:l=l'→A)(h2:l≠l'→B):if decide (vT l=vT l')=true then A else B:=by
  by_cases h:l=l'
  · rw[if_pos (by rw[h];simp)];exact h1 h
  · rw[if_neg]
    · exact h2 h
    · rw[decide_eq_false (fun e=>h (by
        have:=congrArg (fun z:Str=>z.cps.toList) (V.str.inj e)
        simpa [tx] using this))]
      decide
def sp_lother:Sp:=fun vs H Q _=>∃(a:Addr) (l:List Nat),vs=[.ref a,vT l]∧(Dr H a∧LOk l)∧∀(l':List Nat) H',SameX a H H'→Dr H' a→l'≠l→l'.length≤3→Q (vT l') H'
theorem ok_law_other(T:Txt K mg t):FnOk Pr w K mg base CX0 3 t.law_other t.d_law_other ["_law_state_here","_law_letters_here"] sp_lother:=by
  refine T.F_law_other.ok sc_law_other (fun vs H Q E h=>?_) (fun cdv A outer s H vs Q E hr h=>?_)
  · obtain⟨a,l,rfl,_⟩:=h
    rfl
  · obtain⟨a,l,rfl,⟨hD,L⟩,k⟩:=h
    have l1:=L.h1
    have l3:=L.h3
    have sl:10000 < sizeLine:=by decide
    refine⟨_,(pss_cons (ps_set (i:=2) sc_law_other.nd rfl (Or.inl rfl) (pe_rvs (pv 1) (pe_un un_neg pe_int))) (pss_cons (ps_if (PW.pt (pw_or (pt_cmpR op_eq (pv 2) (pv 1) (nomark _)) (pw_or1 (pt_cmpR op_eq (pe_call (ok_law_next T) (hr.mono (by decide)) rfl T.m_law_next T.F_law_next.kp T.b_law_next .nil pass0 (pa_cons (pv 0) (pa_cons pe_int pa_nil))) pe_int (nomark _))))) (pss_one (ps_set (i:=2) sc_law_other.nd rfl (Or.inl rfl) (pe_call (ok_law_letters T) (hr.mono (by decide)) rfl T.m_law_letters T.F_law_letters.kp T.b_law_letters .nil pass0 (pa_cons (pv 0) pa_nil)))) pss_nil) (pss_cons (ps_if (pt_cmpR op_eq (pv 2) (pv 1) (nomark _)) (pss_one (ps_set (i:=2) sc_law_other.nd rfl (Or.inl rfl) (pe_op op_add_str (pe_slice sl_str (pv 1) po_none (po_some (pe_un un_neg pe_int))) (pe_ix ix_list (pe_compif (xs:=["_law_sign"]) rfl (show CompOk ["_law_state_here","_law_letters_here","_law_other_here"] (defScope s_law_other) _ from⟨rfl,by decide +kernel,by decide +kernel,by decide +kernel,by decide +kernel,by decide +kernel⟩) (pi_str pe_str) (fun _ _ _ _ _=>(pg_name (i:=3) (by show List.Nodup (["_law_state_here","_law_letters_here","_law_other_here","_law_sign"]:List Str);decide +kernel) rfl (Or.inl rfl))) (fun _ _ _ _ _=>(pt_cmpR op_notin_str (pv 3) (pv 1) (by with_unfolding_all rfl))) (fun _ _ _ _ _=>(pv 3))) pe_int (fun _ _=>rfl))))) pss_nil) (pss_one (ps_ret (pv 2)))))),?_⟩
    refine⟨_,rfl,_,rfl,_,rfl,rfl,(by rw[tx_len];omega),?_⟩
    rw[rev_is]
    show gName 2 (vT l.reverse) [some (.ref a),some (vT l),none] H _
    refine(fun(key:∀(l':List Nat) H',l'.length≤3→SameX a H H'→Dr H' a→(?F:L2.St→Hp→Prop) [some (.ref a),some (vT l),some (vT l')] H')=>?main) ?rest
    case main=>
      refine⟨_,rfl,_,rfl,rfl,_,rfl,?_⟩
      refine iteS' (fun _=>?_) (fun _=>?_)
      · refine⟨_,rfl,a,rfl,hD,fun pl l' il H2 s2 d2 G i1 i3=>?_⟩
        exact key l' H2 (G.ok i1 i3).h3 s2 d2
      · refine⟨_,rfl,a,2,rfl,⟨hD,by decide,by decide⟩,fun r1 H1 s1 d1 a1 b1=>⟨rfl,_,rfl,?_⟩⟩
        refine iteI (fun _=>?_) (fun _=>?_)
        · refine⟨_,rfl,a,rfl,d1,fun pl l' il H2 s2 d2 G i1 i3=>?_⟩
          exact key l' H2 (G.ok i1 i3).h3 (s1.trans s2) d2
        · exact key l.reverse H1 (by rw[List.length_reverse];exact l3) s1 d1
    case rest=>
    intro l' H1 h3 s1 d1
    refine⟨_,rfl,_,rfl,rfl,_,rfl,?_⟩
    refine iteS' (fun e=>?_) (fun ne=>?_)
    · refine⟨_,rfl,_,rfl,_,rfl,_,rfl,(by rw[tx_len];omega),?_⟩
      rw[sl_but l l1]
      rw[ab4_is]
      refine⟨_,rfl,asc_of (by decide),comp_goI (n:=4) (fun j ys H2=>H2=H1∧ys=(((ab4.take j).filter fun c=>decide (c ∉ l)).map fun c=>vT [c])) (by decide) ⟨rfl,rfl⟩ (fun j ys H2 q=>by rw[q.2,List.length_map];exact Nat.le_trans (List.length_filter_le _ _) (by rw[List.length_take];omega)) ?_ ?_ ?_⟩
      · rintro j ys H2 hj ⟨rfl,rfl⟩
        refine⟨(by show j < 4;exact hj),fun y H' hy=>?_⟩
        obtain⟨rfl,c,hc,rfl⟩:=hy
        have hc:ab4[j]? = some c:=by simpa [tx] using hc
        refine⟨⟨[some _],rfl,rfl⟩,_,rfl,_,rfl,_,_,rfl,rfl,_,rfl,?_⟩
        have ein:=in_let l c
        have e2:(!(!(Builtin.Str.occurrences (tx l) ⟨#[c]⟩ 0 (tx l).length 1).isEmpty))=decide (c ∉ l):=by rw[ein];by_cases z:c∈l <;>simp[z]
        rw[e2]
        have tk:(ab4.take (j+1)).filter (fun c=>decide (c ∉ l))=(ab4.take j).filter (fun c=>decide (c ∉ l))++(if c ∉ l then [c]else []):=by
          rw[List.take_succ,hc,List.filter_append]
          by_cases z:c∈l <;>simp[z]
        by_cases z:c ∉ l
        · rw[decide_eq_true z]
          refine iteT ?_
          refine⟨_,rfl,rfl,?_⟩
          rw[tk,if_pos z,List.map_append];rfl
        · rw[decide_eq_false z]
          refine iteF ?_
          refine⟨rfl,?_⟩
          rw[tk,if_neg z,List.append_nil]
      · rintro ys H2 ⟨rfl,rfl⟩
        show 4≤4
        decide
      · rintro ys H2 q ⟨rfl,rfl⟩ nq
        obtain⟨c,r,ec⟩:=one_out L
        have e4:(ab4.take 4).filter (fun c=>decide (c ∉ l))=c::r:=ec
        rw[e4]
        have hcl:c ∉ l:=by
          have:c∈ab4.filter fun c=>decide (c ∉ l):=by rw[ec];simp
          exact of_decide_eq_true (List.mem_filter.mp this).2
        have at0:atI ((c::r).map fun c=>vT [c]) 0=some (vT [c]):=atI_nat (j:=0) rfl
        refine⟨_,_,_,_,rfl,rfl,SqL.of upd_same,at0,_,_,rfl,rfl,(by rw[tx_len,tx_len,List.length_take];show _+1≤_;omega),?_⟩
        rw[tx_app]
        refine⟨_,rfl,?_⟩
        refine k (l.take (l.length - 1)++[c]) _ (s1.trans (.of (same_upd nq))) (d1.same (same_upd nq)) (fun z=>hcl (by rw[← z];simp)) ?_
        rw[List.length_append,List.length_take]
        show _+1≤3
        omega
    · exact⟨_,rfl,k l' H1 s1 d1 ne h3⟩
def spx_made(w:World)(K:PySem.W.Frag)(mg:Str→Option Value)(base:Heap)(t:Adr):Sp:=fun vs H Q E=>∃(R:KindR Pr w K mg base),∃kv,∃way:Int,∃o1 o2,vs=[kv,.int way,o1,o2]∧KAt R.C R.fs H kv∧
  (((way=0∨way=1)∧∃l n k st1 tb1 en1 st2 tb2 en2,MachG R l n st1 tb1 en1 1 1 1 o1 H∧MachG R l k st2 tb2 en2 1 1 1 o2 H∧LOk l∧n+k≤20∧∀v H',Same H H'→Big (n+k) v H'→Q v H')∨
  (way=2∧∃l n k st1 tb1 en1 st2 tb2 en2,MachG R l n st1 tb1 en1 1 1 1 o1 H∧MachG R l k st2 tb2 en2 1 1 1 o2 H∧LOk l∧n≤100∧k≤100∧n * k≤20∧∀v H',Same H H'→Big (n * k) v H'→Q v H')∨
  ((way=0∨way=1∨way=2)∧∃l l' n k st1 tb1 en1 st2 tb2 en2,MachG R l n st1 tb1 en1 1 1 1 o1 H∧MachG R l' k st2 tb2 en2 1 1 1 o2 H∧n≤100∧k≤100∧((l≠l'∧E (.ref t.Unlike) none H)∨(l=l'∧(way≠2→20 < n+k)∧(way=2→20 < n * k)∧E (.ref t.TooGreat) none H)))∨
  (way=3∧∃l n st tb en,MachG R l n st tb en 1 1 1 o1 H∧LOk l∧n≤20∧(dotW R.S st en n=R.S.zero→n≤19→∀v H',Same H H'→Big (1+n) v H'→Q v H')∧(dotW R.S st en n=R.S.zero→19 < n→∀H',Same H H'→E (.ref t.TooGreat) none H')∧(dotW R.S st en n≠R.S.zero→∀H',Same H H'→E (.ref t.NoClosure) none H'))∨
  (way=4∧∃l p a b c,o1=.ref p∧H p=some (.tup [vT l,a,b,c])∧((∃ws,o2=vT ws∧WOk l ws 100∧ws.length≤19∧∀v H',Same H H'→Big (ws.length+1) v H'→Q v H')∨
    (∃ws,o2=vT ws∧((∀c∈ws,c < 128)∧ws.length≤1000)∧(((∀c∈ws,c∈l)∧19 < ws.length∧∀H',Same H H'→E (.ref t.TooGreat) none H')∨((¬∀c∈ws,c∈l)∧∀H',Same H H'→E (.ref t.NoWord) none H')))∨((∀H',Same H H'→NoStr K o2 H')∧∀H',Same H H'→E (.ref t.NoWord) none H'))))
theorem okx_added(T:Txt K mg t):FnOk Pr w K mg base (CX1 Pr w) 45 t.added t.d_added ["kind","one","other"] (fun vs H Q E=>sp_added w K mg base vs H Q E∨spb_two w K mg base t (fun n k=>n+k) vs H Q E):=FnOk.or (ok_added T).loud (okb_added T)
theorem okx_joined(T:Txt K mg t):FnOk Pr w K mg base (CX1 Pr w) 45 t.joined t.d_joined ["kind","one","other"] (fun vs H Q E=>sp_joined w K mg base vs H Q E∨spb_two w K mg base t (fun n k=>n+k) vs H Q E):=FnOk.or (ok_joined T).loud (okb_joined T)
theorem okx_crossed(T:Txt K mg t):FnOk Pr w K mg base (CX1 Pr w) 45 t.crossed t.d_crossed ["kind","one","other"] (fun vs H Q E=>sp_crossed w K mg base vs H Q E∨spb_two w K mg base t (fun n k=>n * k) vs H Q E):=FnOk.or (ok_crossed T).loud (okb_crossed T)
theorem okx_single(T:Txt K mg t):FnOk Pr w K mg base (CX1 Pr w) 44 t.single t.d_single ["kind","letters","word","by"] (fun vs H Q E=>sp_single w K mg base vs H Q E∨spb_single K t vs H Q E):=FnOk.or (ok_single T).loud (okb_single T)
theorem way_no{i j:Int}{A B:Prop}(h:i≠j)(q:B):if decide (V.int i=V.int j)=true then A else B:=by
  rw[if_neg (by rw[decide_eq_false (fun e=>h (V.int.inj e))];decide)];exact q
theorem way_yes{i:Int}{A B:Prop}(q:A):if decide (V.int i=V.int i)=true then A else B:=by
  rw[if_pos (decide_eq_true rfl)];exact q
theorem okx_law_made(T:Txt K mg t):FnOk Pr w K mg base (CX1 Pr w) 46 t.law_made t.d_law_made ["_law_kind_here","_law_way","_law_one_here","_law_other_here"] (spx_made w K mg base t):=by
  refine T.F_law_made.okx sc_law_made (fun vs H Q E h=>?_) (fun cdv A outer s H vs Q E hr h=>?_)
  · obtain⟨R,kv,way,o1,o2,rfl,_⟩:=h
    rfl
  · obtain⟨R,kv,way,o1,o2,rfl,hk,h⟩:=h
    refine⟨_,(pss_cons (ps_if (pt_cmpR op_eq (pv 1) pe_int (nomark _)) (pss_one (ps_ret (PEX.thru thru_cx (px_call (okx_added T) (hr.mono (by decide)) rfl T.m_added T.F_added.kp T.b_added .nil (pa_cons (pv 0) (pa_cons (pv 2) (pa_cons (pv 3) pa_nil))))))) pss_nil) (pss_cons (ps_if (pt_cmpR op_eq (pv 1) pe_int (nomark _)) (pss_one (ps_ret (PEX.thru thru_cx (px_call (okx_joined T) (hr.mono (by decide)) rfl T.m_joined T.F_joined.kp T.b_joined .nil (pa_cons (pv 0) (pa_cons (pv 2) (pa_cons (pv 3) pa_nil))))))) pss_nil) (pss_cons (ps_if (pt_cmpR op_eq (pv 1) pe_int (nomark _)) (pss_one (ps_ret (PEX.thru thru_cx (px_call (okx_crossed T) (hr.mono (by decide)) rfl T.m_crossed T.F_crossed.kp T.b_crossed .nil (pa_cons (pv 0) (pa_cons (pv 2) (pa_cons (pv 3) pa_nil))))))) pss_nil) (pss_cons (ps_if (pt_cmpR op_eq (pv 1) pe_int (nomark _)) (pss_one (ps_ret (PEX.thru thru_cx (px_call (okx_closed T) (hr.mono (by decide)) rfl T.m_closed T.F_closed.kp T.b_closed .nil (pa_cons (pv 0) (pa_cons (pv 2) pa_nil)))))) pss_nil) (pss_one (ps_ret (PEX.thru thru_cx (px_call (okx_single T) (hr.mono (by decide)) rfl T.m_single T.F_single.kp T.b_single .nil (pa_cons (pv 0) (pa_cons (pe_ix ix_tup (pv 2) pe_int (fun _ _=>rfl)) (pa_cons (pv 3) (pa_cons (pe_meth0 (pv 0) R.cl R.t_one R.G_one (hr.mono (by decide)) R.b_one .nil pass0) pa_nil)))))))))))),?_⟩
    refine⟨_,rfl,rfl,_,rfl,?_⟩
    rcases h with ⟨rfl | rfl,l,n,k,st1,tb1,en1,st2,tb2,en2,h1,h2,L,hl,kQ⟩ | ⟨rfl,l,n,k,st1,tb1,en1,st2,tb2,en2,h1,h2,L,n1,k1,hl,kQ⟩ | ⟨hw,l,l',n,k,st1,tb1,en1,st2,tb2,en2,h1,h2,n1,k1,hb⟩ | ⟨rfl,l,n,st,tb,en,h1,L,hn,kQ,kT,kC⟩ | ⟨rfl,l,p,a,b,c,rfl,hp,h⟩
    · refine way_yes ?_
      exact⟨_,rfl,_,rfl,_,rfl,.inl ⟨R,_,_,_,l,n,k,st1,tb1,en1,st2,tb2,en2,1,1,1,rfl,⟨hk,h1,h2,L,hl⟩,fun v H' s' m'=>kQ v H' s' m'.big⟩⟩
    · refine way_no (by decide) ?_
      refine⟨_,rfl,rfl,_,rfl,way_yes ?_⟩
      exact⟨_,rfl,_,rfl,_,rfl,.inl ⟨R,_,_,_,l,n,k,st1,tb1,en1,st2,tb2,en2,rfl,⟨hk,h1,h2,L,hl⟩,fun v H' s' m'=>kQ v H' s' m'.big⟩⟩
    · refine way_no (by decide) ?_
      refine⟨_,rfl,rfl,_,rfl,way_no (by decide) ?_⟩
      refine⟨_,rfl,rfl,_,rfl,way_yes ?_⟩
      exact⟨_,rfl,_,rfl,_,rfl,.inl ⟨R,_,_,_,l,n,k,st1,tb1,en1,st2,tb2,en2,rfl,⟨hk,h1,h2,L,n1,k1,hl⟩,fun v H' s' m'=>kQ v H' s' m'.big⟩⟩
    · rcases hw with rfl | rfl | rfl
      · refine way_yes ?_
        exact⟨_,rfl,_,rfl,_,rfl,.inr ⟨R,_,_,_,l,l',n,k,st1,tb1,en1,st2,tb2,en2,rfl,⟨h1,h2,n1,k1⟩,hb.imp_right fun z=>⟨z.1,z.2.1 (by decide),z.2.2.2⟩⟩⟩
      · refine way_no (by decide) ?_
        refine⟨_,rfl,rfl,_,rfl,way_yes ?_⟩
        exact⟨_,rfl,_,rfl,_,rfl,.inr ⟨R,_,_,_,l,l',n,k,st1,tb1,en1,st2,tb2,en2,rfl,⟨h1,h2,n1,k1⟩,hb.imp_right fun z=>⟨z.1,z.2.1 (by decide),z.2.2.2⟩⟩⟩
      · refine way_no (by decide) ?_
        refine⟨_,rfl,rfl,_,rfl,way_no (by decide) ?_⟩
        refine⟨_,rfl,rfl,_,rfl,way_yes ?_⟩
        exact⟨_,rfl,_,rfl,_,rfl,.inr ⟨R,_,_,_,l,l',n,k,st1,tb1,en1,st2,tb2,en2,rfl,⟨h1,h2,n1,k1⟩,hb.imp_right fun z=>⟨z.1,z.2.2.1 rfl,z.2.2.2⟩⟩⟩
    · refine way_no (by decide) ?_
      refine⟨_,rfl,rfl,_,rfl,way_no (by decide) ?_⟩
      refine⟨_,rfl,rfl,_,rfl,way_no (by decide) ?_⟩
      refine⟨_,rfl,rfl,_,rfl,way_yes ?_⟩
      exact⟨_,rfl,_,rfl,R,_,_,l,n,st,tb,en,rfl,⟨hk,h1,L,hn⟩,fun e z v H' s' m'=>kQ e z v H' s' m'.big,kT,kC⟩
    · refine way_no (by decide) ?_
      refine⟨_,rfl,rfl,_,rfl,way_no (by decide) ?_⟩
      refine⟨_,rfl,rfl,_,rfl,way_no (by decide) ?_⟩
      refine⟨_,rfl,rfl,_,rfl,way_no (by decide) ?_⟩
      obtain⟨kp,dx,rfl,hk'⟩:=id hk
      refine⟨_,rfl,_,rfl,_,_,_,_,rfl,rfl,SqT.of hp,rfl,_,rfl,_,rfl,_,_,_,rfl,hk',R.l_one,_,rfl,⟨_,_,rfl,hk'⟩,fun ov H1 s1 f1=>?_⟩
      rcases h with ⟨ws,rfl,W,hl,kQ⟩ | ⟨ws,rfl,W,h⟩ | ⟨hn,kE⟩
      · exact .inl ⟨R,_,l,ws,_,_,1,rfl,⟨⟨_,_,rfl,s1 _ _ hk'⟩,W,hl,f1,R.S.lv_mono _ _ _ _ (by decide) R.S.lv_one,by decide⟩,fun v H' s' m'=>kQ v H' (s1.trans s') m'.big⟩
      · exact .inr ⟨_,l,_,_,rfl,.inl ⟨ws,rfl,W,h.imp (fun z=>⟨z.1,z.2.1,fun H' s'=>z.2.2 H' (s1.trans s')⟩) fun z=>⟨z.1,fun H' s'=>z.2 H' (s1.trans s')⟩⟩⟩
      · exact .inr ⟨_,l,_,_,rfl,.inr ⟨hn _ s1,kE _ s1⟩⟩
theorem tn4{sp:Sp}{a b c d:V}{H:Hp}{σ:L2.St}{Q:VK}{E:XK}(h:sp [a,b,c,d] H Q E):tNil σ H (fun xs H2=>sp (a::b::c::d::xs) H2 Q E):=h
def clA(t:Adr):Nat→Addr
  | 0=>t.Unlike
  | 1=>t.NoClosure
  | 2=>t.NoWord
  | _=>t.TooGreat
def flg(j:Nat):List Bool:=[decide (j=0),decide (j=1),decide (j=2),decide (j=3)]
def sp_lref(w:World)(K:PySem.W.Frag)(mg:Str→Option Value)(base:Heap)(t:Adr):Sp:=fun vs H Q _=>∃kv way o1 o2 j,vs=[kv,way,o1,o2]∧(j < 4∧∀(Q':VK) (E:XK),(∀H',Same H H'→E (.ref (clA t j)) none H')→spx_made w K mg base t vs H Q' E)∧∀a H',Same H H'→H' a=some (.lst ((flg j).map V.bl))→Q (.ref a) H'
theorem ok_law_refused(T:Txt K mg t):FnOk Pr w K mg base CX0 47 t.law_refused t.d_law_refused ["_law_kind_here","_law_way","_law_one_here","_law_other_here"] (sp_lref w K mg base t):=by
  refine T.F_law_refused.ok sc_law_refused (fun vs H Q E h=>?_) (fun cdv A outer s H vs Q E hr h=>?_)
  · obtain⟨kv,way,o1,o2,j,rfl,_⟩:=h
    rfl
  · obtain⟨kv,way,o1,o2,j,rfl,⟨hj,hm⟩,k⟩:=h
    refine⟨_,(pss_cons (ps_set (i:=4) sc_law_refused.nd rfl (Or.inl rfl) pe_non) (pss_cons (ps_try (i:=5) (psx_one (psx_expr (px_call (okx_law_made T) (hr.mono (by decide)) rfl T.m_law_made T.F_law_made.kp T.b_law_made .nil (pa_cons (pv 0) (pa_cons (pv 1) (pa_cons (pv 2) (pa_cons (pv 3) pa_nil))))))) rfl rfl sc_law_refused.nd rfl rfl rfl T.m_WeighError (fun _=>(pss_one (ps_set (i:=4) sc_law_refused.nd rfl (Or.inl rfl) (pv 5))))) (pss_cons (ps_if (PW.pt (pw_or (pt_cmpR op_isN (pv 4) pe_non (nomark _)) (pw_or1 (pt_not (pt_val (pe_callB (call_isxK K rfl) (by rfl) T.z_isinstance boot_isinstance (pa_cons (pv 4) (pa_cons (pe_bltn (v:=.ty "ValueError") rfl T.z_ValueError boot_VE rfl) pa_nil)))))))) (pss_one (ps_ret (pe_lst pa_nil))) pss_nil) (pss_one (ps_ret (pe_lst (pa_cons (pe_callB (call_isxK K rfl) (by rfl) T.z_isinstance boot_isinstance (pa_cons (pv 4) (pa_cons (pe_glob (v:=.ref t.Unlike) rfl T.m_Unlike rfl) pa_nil))) (pa_cons (pe_callB (call_isxK K rfl) (by rfl) T.z_isinstance boot_isinstance (pa_cons (pv 4) (pa_cons (pe_glob (v:=.ref t.NoClosure) rfl T.m_NoClosure rfl) pa_nil))) (pa_cons (pe_callB (call_isxK K rfl) (by rfl) T.z_isinstance boot_isinstance (pa_cons (pv 4) (pa_cons (pe_glob (v:=.ref t.NoWord) rfl T.m_NoWord rfl) pa_nil))) (pa_cons (pe_callB (call_isxK K rfl) (by rfl) T.z_isinstance boot_isinstance (pa_cons (pv 4) (pa_cons (pe_glob (v:=.ref t.TooGreat) rfl T.m_TooGreat rfl) pa_nil))) pa_nil)))))))))),?_⟩
    refine⟨_,rfl,_,rfl,_,rfl,_,rfl,?_⟩
    refine tn4 (sp:=spx_made w K mg base t) (σ:=[]) ?_
    refine hm _ _ fun H' s'=>?_
    rcases(by omega:j=0∨j=1∨j=2∨j=3)with rfl | rfl | rfl | rfl
    · refine⟨_,rfl,T.eU,fun a ha=>?_⟩
      have t1:=s'.trans (same_upd (o:=ExcO a t.Unlike) ha)
      have hx:upd H' a (ExcO a t.Unlike) a=some (ExcO a t.Unlike):=upd_same
      refine⟨_,rfl,?_⟩
      show gName 4 (.ref a) [some kv,some way,some o1,some o2,some .non,some (.ref a)] (upd H' a (ExcO a t.Unlike)) _
      refine⟨_,rfl,rfl,_,rfl,?_⟩
      refine iteF ?_
      refine⟨_,rfl,_,_,_,_,_,rfl,hx,T.x_Unlike,rfl,T.vU,_,rfl,?_⟩
      (try refine iteF ?_)
      (try refine iteF ?_)
      refine⟨_,rfl,_,_,_,_,_,rfl,hx,T.x_Unlike,rfl,T.kUU,?_⟩
      refine⟨_,rfl,_,_,_,_,_,rfl,hx,T.x_Unlike,rfl,T.kUC,?_⟩
      refine⟨_,rfl,_,_,_,_,_,rfl,hx,T.x_Unlike,rfl,T.kUW,?_⟩
      refine⟨_,rfl,_,_,_,_,_,rfl,hx,T.x_Unlike,rfl,T.kUG,?_⟩
      refine⟨(by show 4≤sizeLine;decide),fun q nq=>?_⟩
      exact k _ _ (t1.trans (same_upd nq)) upd_same
    · refine⟨_,rfl,T.eC,fun a ha=>?_⟩
      have t1:=s'.trans (same_upd (o:=ExcO a t.NoClosure) ha)
      have hx:upd H' a (ExcO a t.NoClosure) a=some (ExcO a t.NoClosure):=upd_same
      refine⟨_,rfl,?_⟩
      show gName 4 (.ref a) [some kv,some way,some o1,some o2,some .non,some (.ref a)] (upd H' a (ExcO a t.NoClosure)) _
      refine⟨_,rfl,rfl,_,rfl,?_⟩
      refine iteF ?_
      refine⟨_,rfl,_,_,_,_,_,rfl,hx,T.x_NoClosure,rfl,T.vC,_,rfl,?_⟩
      (try refine iteF ?_)
      (try refine iteF ?_)
      refine⟨_,rfl,_,_,_,_,_,rfl,hx,T.x_NoClosure,rfl,T.kCU,?_⟩
      refine⟨_,rfl,_,_,_,_,_,rfl,hx,T.x_NoClosure,rfl,T.kCC,?_⟩
      refine⟨_,rfl,_,_,_,_,_,rfl,hx,T.x_NoClosure,rfl,T.kCW,?_⟩
      refine⟨_,rfl,_,_,_,_,_,rfl,hx,T.x_NoClosure,rfl,T.kCG,?_⟩
      refine⟨(by show 4≤sizeLine;decide),fun q nq=>?_⟩
      exact k _ _ (t1.trans (same_upd nq)) upd_same
    · refine⟨_,rfl,T.eW,fun a ha=>?_⟩
      have t1:=s'.trans (same_upd (o:=ExcO a t.NoWord) ha)
      have hx:upd H' a (ExcO a t.NoWord) a=some (ExcO a t.NoWord):=upd_same
      refine⟨_,rfl,?_⟩
      show gName 4 (.ref a) [some kv,some way,some o1,some o2,some .non,some (.ref a)] (upd H' a (ExcO a t.NoWord)) _
      refine⟨_,rfl,rfl,_,rfl,?_⟩
      refine iteF ?_
      refine⟨_,rfl,_,_,_,_,_,rfl,hx,T.x_NoWord,rfl,T.vW,_,rfl,?_⟩
      (try refine iteF ?_)
      (try refine iteF ?_)
      refine⟨_,rfl,_,_,_,_,_,rfl,hx,T.x_NoWord,rfl,T.kWU,?_⟩
      refine⟨_,rfl,_,_,_,_,_,rfl,hx,T.x_NoWord,rfl,T.kWC,?_⟩
      refine⟨_,rfl,_,_,_,_,_,rfl,hx,T.x_NoWord,rfl,T.kWW,?_⟩
      refine⟨_,rfl,_,_,_,_,_,rfl,hx,T.x_NoWord,rfl,T.kWG,?_⟩
      refine⟨(by show 4≤sizeLine;decide),fun q nq=>?_⟩
      exact k _ _ (t1.trans (same_upd nq)) upd_same
    · refine⟨_,rfl,T.eG,fun a ha=>?_⟩
      have t1:=s'.trans (same_upd (o:=ExcO a t.TooGreat) ha)
      have hx:upd H' a (ExcO a t.TooGreat) a=some (ExcO a t.TooGreat):=upd_same
      refine⟨_,rfl,?_⟩
      show gName 4 (.ref a) [some kv,some way,some o1,some o2,some .non,some (.ref a)] (upd H' a (ExcO a t.TooGreat)) _
      refine⟨_,rfl,rfl,_,rfl,?_⟩
      refine iteF ?_
      refine⟨_,rfl,_,_,_,_,_,rfl,hx,T.x_TooGreat,rfl,T.vG,_,rfl,?_⟩
      (try refine iteF ?_)
      (try refine iteF ?_)
      refine⟨_,rfl,_,_,_,_,_,rfl,hx,T.x_TooGreat,rfl,T.kGU,?_⟩
      refine⟨_,rfl,_,_,_,_,_,rfl,hx,T.x_TooGreat,rfl,T.kGC,?_⟩
      refine⟨_,rfl,_,_,_,_,_,rfl,hx,T.x_TooGreat,rfl,T.kGW,?_⟩
      refine⟨_,rfl,_,_,_,_,_,rfl,hx,T.x_TooGreat,rfl,T.kGG,?_⟩
      refine⟨(by show 4≤sizeLine;decide),fun q nq=>?_⟩
      exact k _ _ (t1.trans (same_upd nq)) upd_same
theorem ok_law_made(T:Txt K mg t):FnOk Pr w K mg base CX0 46 t.law_made t.d_law_made ["_law_kind_here","_law_way","_law_one_here","_law_other_here"] (fun vs H Q _=>spx_made w K mg base t vs H Q E0):=(okx_law_made T).quiet
theorem KAtx{C:Addr}{fs:List (Str × V)}{H H':Hp}{k:V}{a:Addr}(h:KAt C fs H k)(d:Dr H a)(s:SameX a H H'):KAt C fs H' k:=by
  obtain⟨p,dx,rfl,h⟩:=h
  refine⟨p,dx,rfl,s _ _ (fun e=>?_) h⟩
  obtain⟨xs,z⟩:=d.lst
  rw[← e,h]at z
  cases z
theorem is_bools{H:Hp}{a:Addr}(bs:List Bool)(h:H a=some (.lst (bs.map V.bl))):Is K H (.ref a) (.list (bs.map PyData.bool)):=by
  refine .lst (SqL.of h) ?_
  clear h
  induction bs with
  | nil=>exact .nil
  | cons b bs ih=>exact .cons (.bl b) ih
theorem sh_flg(j:Nat):shaped (.list ((flg j).map PyData.bool))=true∧noMix (.list ((flg j).map PyData.bool)) (.list ((flg j).map PyData.bool))=true:=by
  constructor
  · simp[flg,shaped,PyData.canLay0,PyData.canLayAll0,PyData.depth,PyData.depthAll]
  · simp[flg,noMix,noMixAll]
theorem ne_flg{j:Nat}{a b:Addr}{H:Hp}{Q:VK}(ha:H a=some (.lst ((flg j).map V.bl)))(hb:H b=some (.lst ((flg j).map V.bl)))(q:Q (.bl false) H):rNeD K (.ref a) (.ref b) H Q:=
  ⟨_,_,is_bools _ ha,is_bools _ hb,(sh_flg j).1,(sh_flg j).1,(sh_flg j).2,by rw[PySem.Spec.same_self];exact q⟩
theorem eq_flg{j:Nat}{a b:Addr}{H:Hp}{Q:VK}(ha:H a=some (.lst ((flg j).map V.bl)))(hb:H b=some (.lst ((flg j).map V.bl)))(q:Q (.bl true) H):rEqD K (.ref a) (.ref b) H Q:=
  ⟨_,_,is_bools _ ha,is_bools _ hb,(sh_flg j).1,(sh_flg j).1,(sh_flg j).2,by rw[PySem.Spec.same_self];exact q⟩
theorem four5{r:Int}(h0:0≤r)(h1:r < 4)(q1 q2 q3 q4:Addr){H:Hp}(k1:H q1=some (.lst [.int 4,.int 5]))(k2:H q2=some (.lst [.int 5,.int 4]))(k3:H q3=some (.lst [.int 2,.int 10]))(k4:H q4=some (.lst [.int 20,.int 1])) :
    ∃(x y:Nat) (q:Addr),atI [V.ref q1,V.ref q2,V.ref q3,V.ref q4] r=some (V.ref q)∧H q=some (.lst [.int (x:Int),.int (y:Int)])∧x * y=20∧1≤x∧x≤20∧y≤20∧∃b:Nat,((20:Int).fdiv (x:Int)+1=(b:Int))∧b≤40∧20 < x * b:=by
  rcases(by omega:r=0∨r=1∨r=2∨r=3)with rfl | rfl | rfl | rfl
  · exact⟨4,5,q1,rfl,k1,by decide,by decide,by decide,by decide,6,by decide,by decide,by decide⟩
  · exact⟨5,4,q2,rfl,k2,by decide,by decide,by decide,by decide,5,by decide,by decide,by decide⟩
  · exact⟨2,10,q3,rfl,k3,by decide,by decide,by decide,by decide,11,by decide,by decide,by decide⟩
  · exact⟨20,1,q4,rfl,k4,by decide,by decide,by decide,by decide,2,by decide,by decide,by decide⟩
def sp_ltwo(T:Txt K mg t):Sp:=fun vs H Q _=>∃(R:KindR Pr w K mg base),∃nm p,∃(a:Addr),∃so kv l,∃way:Int,So T R nm p∧vs=[.ref a,so,kv,vT l,.int way]∧(Dr H a∧SortAt H so nm p∧KAt R.C R.fs H kv∧LOk l∧0≤way∧way < 3)∧∀H',SameX a H H'→Dr H' a→Q (.bl true) H'
theorem ok_law_two(T:Txt K mg t):FnOk Pr w K mg base CX0 48 t.law_two t.d_law_two ["_law_state_here","_law_sort_here","_law_kind_here","_law_letters_here","_law_way"] (sp_ltwo (w:=w) (base:=base) T):=by
  refine T.F_law_two.ok sc_law_two (fun vs H Q E h=>?_) (fun cdv A outer s H vs Q E hr h=>?_)
  · obtain⟨R,nm,p,a,so,kv,l,way,_,rfl,_⟩:=h
    rfl
  · obtain⟨R,nm,p,a,so,kv,l,way,hS,rfl,⟨hD,hso,hk,L,w0,w3⟩,k⟩:=h
    have l3:=L.h3
    refine⟨_,(pss_cons (ps_set (i:=5) sc_law_two.nd rfl (Or.inl rfl) (pe_op op_add pe_int (pe_call (ok_law_next T) (hr.mono (by decide)) rfl T.m_law_next T.F_law_next.kp T.b_law_next .nil pass0 (pa_cons (pv 0) (pa_cons pe_int pa_nil))))) (pss_cons (ps_set (i:=6) sc_law_two.nd rfl (Or.inl rfl) (pe_ix ix_list (pe_lst (pa_cons (pe_lst (pa_cons (pv 5) (pa_cons (pe_op op_sub pe_int (pv 5)) pa_nil))) (pa_cons (pe_lst (pa_cons (pv 5) (pa_cons (pe_op op_sub pe_int (pv 5)) pa_nil))) (pa_cons (pe_ix ix_list (pe_lst (pa_cons (pe_lst (pa_cons pe_int (pa_cons pe_int pa_nil))) (pa_cons (pe_lst (pa_cons pe_int (pa_cons pe_int pa_nil))) (pa_cons (pe_lst (pa_cons pe_int (pa_cons pe_int pa_nil))) (pa_cons (pe_lst (pa_cons pe_int (pa_cons pe_int pa_nil))) pa_nil))))) (pe_call (ok_law_next T) (hr.mono (by decide)) rfl T.m_law_next T.F_law_next.kp T.b_law_next .nil pass0 (pa_cons (pv 0) (pa_cons pe_int pa_nil))) (fun _ _=>rfl)) pa_nil)))) (pv 4) (fun _ _=>rfl))) (pss_cons (ps_set (i:=7) sc_law_two.nd rfl (Or.inl rfl) (pe_call (ok_law_machine T) (hr.mono (by decide)) rfl T.m_law_machine T.F_law_machine.kp T.b_law_machine .nil pass0 (pa_cons (pv 0) (pa_cons (pv 1) (pa_cons (pv 3) (pa_cons (pe_ix ix_list (pv 6) pe_int (fun _ _=>rfl)) pa_nil)))))) (pss_cons (ps_set (i:=8) sc_law_two.nd rfl (Or.inl rfl) (pe_call (ok_law_made T) (hr.mono (by decide)) rfl T.m_law_made T.F_law_made.kp T.b_law_made .nil pass0 (pa_cons (pv 2) (pa_cons (pv 4) (pa_cons (pv 7) (pa_cons (pe_call (ok_law_machine T) (hr.mono (by decide)) rfl T.m_law_machine T.F_law_machine.kp T.b_law_machine .nil pass0 (pa_cons (pv 0) (pa_cons (pv 1) (pa_cons (pv 3) (pa_cons (pe_ix ix_list (pv 6) pe_int (fun _ _=>rfl)) pa_nil))))) pa_nil)))))) (pss_cons (ps_if (pt_cmpR op_ne (pe_callB call_len (by rfl) T.z_len PySem.boot_len (pa_cons (pe_ix ix_tup (pv 8) pe_int (fun _ _=>rfl)) pa_nil)) pe_int (nomark _)) (pss_one (ps_ret pe_bl)) pss_nil) (pss_cons (ps_set (i:=9) sc_law_two.nd rfl (Or.inl rfl) (pe_op op_add (pe_ix ix_list (pv 6) pe_int (fun _ _=>rfl)) pe_int)) (pss_cons (ps_if (pt_cmpR op_eq (pv 4) pe_int (nomark _)) (pss_one (ps_set (i:=9) sc_law_two.nd rfl (Or.inl rfl) (pe_op op_add (pe_op op_fdivB pe_int (pe_ix ix_list (pv 6) pe_int (fun _ _=>rfl))) pe_int))) pss_nil) (pss_cons (ps_set (i:=10) sc_law_two.nd rfl (Or.inl rfl) (pe_call (ok_law_machine T) (hr.mono (by decide)) rfl T.m_law_machine T.F_law_machine.kp T.b_law_machine .nil pass0 (pa_cons (pv 0) (pa_cons (pv 1) (pa_cons (pv 3) (pa_cons (pv 9) pa_nil)))))) (pss_cons (ps_if (pt_cmpR (op_neD hr.units) (pe_call (ok_law_refused T) (hr.mono (by decide)) rfl T.m_law_refused T.F_law_refused.kp T.b_law_refused .nil pass0 (pa_cons (pv 2) (pa_cons (pv 4) (pa_cons (pv 7) (pa_cons (pv 10) pa_nil))))) (pe_lst (pa_cons pe_bl (pa_cons pe_bl (pa_cons pe_bl (pa_cons pe_bl pa_nil))))) (nomark _)) (pss_one (ps_ret pe_bl)) pss_nil) (pss_cons (ps_set (i:=11) sc_law_two.nd rfl (Or.inl rfl) (pe_call (ok_law_machine T) (hr.mono (by decide)) rfl T.m_law_machine T.F_law_machine.kp T.b_law_machine .nil pass0 (pa_cons (pv 0) (pa_cons (pv 1) (pa_cons (pe_call (ok_law_other T) (hr.mono (by decide)) rfl T.m_law_other T.F_law_other.kp T.b_law_other .nil pass0 (pa_cons (pv 0) (pa_cons (pv 3) pa_nil))) (pa_cons (pv 9) pa_nil)))))) (pss_one (ps_ret (pe_cmpR (op_eqD hr.units) (pe_call (ok_law_refused T) (hr.mono (by decide)) rfl T.m_law_refused T.F_law_refused.kp T.b_law_refused .nil pass0 (pa_cons (pv 2) (pa_cons (pv 4) (pa_cons (pv 7) (pa_cons (pv 11) pa_nil))))) (pe_lst (pa_cons pe_bl (pa_cons pe_bl (pa_cons pe_bl (pa_cons pe_bl pa_nil))))) (nomark _)))))))))))))),?_⟩
    refine⟨_,rfl,a,19,rfl,⟨hD,by decide,by decide⟩,fun r1 H1 s1 d1 a1 b1=>⟨_,_,rfl,rfl,?_⟩⟩
    show gName 5 (.int (1+r1)) [some (.ref a),some so,some kv,some (vT l),some (.int way),none,none,none,none,none,none,none] H1 _
    refine(fun(key:∀(x y:Nat) (q:Addr) H',SameX a H H'→Dr H' a→q≠a→H' q=some (.lst [.int (x:Int),.int (y:Int)])→1≤x→x≤20→y≤20→(way≠2→x+y=20)→(way=2→x * y=20)→(way=2→∃b:Nat,((20:Int).fdiv (x:Int)+1=(b:Int))∧b≤40∧20 < x * b)→(?F:L2.St→Hp→Prop) [some (.ref a),some so,some kv,some (vT l),some (.int way),some (.int (1+r1)),some (.ref q),none,none,none,none,none] H')=>?main) ?rest
    case main=>
      refine⟨_,rfl,_,rfl,_,_,rfl,rfl,(by show 2≤sizeLine;decide),fun q1 n1=>?_⟩
      have t1:=same_upd (o:=.lst [.int (1+r1),.int (20 - (1+r1))]) n1
      refine⟨_,rfl,_,rfl,_,_,rfl,rfl,(by show 2≤sizeLine;decide),fun q2 n2=>?_⟩
      have t2:=same_upd (o:=.lst [.int (1+r1),.int (20 - (1+r1))]) n2
      refine⟨(by show 2≤sizeLine;decide),fun q3 n3=>⟨(by show 2≤sizeLine;decide),fun q4 n4=>⟨(by show 2≤sizeLine;decide),fun q5 n5=>⟨(by show 2≤sizeLine;decide),fun q6 n6=>⟨(by show 4≤sizeLine;decide),fun q7 n7=>?_⟩⟩⟩⟩⟩
      have t3:=same_upd (o:=.lst [.int 4,.int 5]) n3
      have t4:=same_upd (o:=.lst [.int 5,.int 4]) n4
      have t5:=same_upd (o:=.lst [.int 2,.int 10]) n5
      have t6:=same_upd (o:=.lst [.int 20,.int 1]) n6
      have t7:=same_upd (o:=.lst [.ref q3,.ref q4,.ref q5,.ref q6]) n7
      have k1:=(((((t2.trans t3).trans t4).trans t5).trans t6).trans t7) _ _ (upd_same (H:=H1) (a:=q1))
      have k2:=((((t3.trans t4).trans t5).trans t6).trans t7) _ _ (upd_same (a:=q2))
      have k3:=(((t4.trans t5).trans t6).trans t7) _ _ (upd_same (a:=q3))
      have k4:=((t5.trans t6).trans t7) _ _ (upd_same (a:=q4))
      have k5:=(t6.trans t7) _ _ (upd_same (a:=q5))
      have k6:=t7 _ _ (upd_same (a:=q6))
      have k7:=upd_same (H:=upd (upd (upd (upd (upd (upd H1 q1 (.lst [.int (1+r1),.int (20 - (1+r1))])) q2 (.lst [.int (1+r1),.int (20 - (1+r1))])) q3 (.lst [.int 4,.int 5])) q4 (.lst [.int 5,.int 4])) q5 (.lst [.int 2,.int 10])) q6 (.lst [.int 20,.int 1])) (a:=q7) (o:=.lst [.ref q3,.ref q4,.ref q5,.ref q6])
      have tt:=(((((t1.trans t2).trans t3).trans t4).trans t5).trans t6).trans t7
      have d7:=d1.same tt
      have s7:SameX a H _:=s1.trans (.of tt)
      have z1:q1≠a:=d1.ne n1
      have z2:q2≠a:=(d1.same t1).ne n2
      have z3:q3≠a:=(d1.same (t1.trans t2)).ne n3
      have z4:q4≠a:=(d1.same ((t1.trans t2).trans t3)).ne n4
      have z5:q5≠a:=(d1.same (((t1.trans t2).trans t3).trans t4)).ne n5
      have z6:q6≠a:=(d1.same ((((t1.trans t2).trans t3).trans t4).trans t5)).ne n6
      have z7:q7≠a:=(d1.same (((((t1.trans t2).trans t3).trans t4).trans t5).trans t6)).ne n7
      clear tt t1 t2 t3 t4 t5 t6 t7 n1 n2 n3 n4 n5 n6 n7
      revert k1 k2 k3 k4 k5 k6 k7 d7 s7
      generalize upd (upd (upd (upd (upd (upd (upd H1 q1 (.lst [.int (1+r1),.int (20 - (1+r1))])) q2 (.lst [.int (1+r1),.int (20 - (1+r1))])) q3 (.lst [.int 4,.int 5])) q4 (.lst [.int 5,.int 4])) q5 (.lst [.int 2,.int 10])) q6 (.lst [.int 20,.int 1])) q7 (.lst [.ref q3,.ref q4,.ref q5,.ref q6])=H7
      intro k1 k2 k3 k4 k5 k6 k7 d7 s7
      refine⟨_,rfl,a,4,rfl,⟨d7,by decide,by decide⟩,fun r8 H8 s8 d8 a8 b8=>?_⟩
      obtain⟨x,y,q,aq,kq,hxy,x1,x20,y20,hb⟩:=four5 a8 b8 q3 q4 q5 q6 (s8 _ _ z3 k3) (s8 _ _ z4 k4) (s8 _ _ z5 k5) (s8 _ _ z6 k6)
      refine⟨_,_,_,_,rfl,rfl,SqL.of (s8 _ _ z7 k7),aq,(by show 3≤sizeLine;decide),fun q9 n9=>?_⟩
      have t9:=same_upd (o:=.lst [.ref q1,.ref q2,.ref q]) n9
      have d9:=d8.same t9
      have s9:SameX a H _:=(s7.trans s8).trans (.of t9)
      have zq:q≠a:=fun e=>by
        obtain⟨c,g | ⟨d,g⟩⟩:=d8
        · rw[← e,kq]at g
          simp at g
        · rcases(by revert aq;rcases(by omega:r8=0∨r8=1∨r8=2∨r8=3)with rfl | rfl | rfl | rfl <;>intro aq <;>simp[atI,ixN]at aq <;>simp[aq]:q=q3∨q=q4∨q=q5∨q=q6)with z | z | z | z
          · exact z3 (z▸e)
          · exact z4 (z▸e)
          · exact z5 (z▸e)
          · exact z6 (z▸e)
      have e1:((1+r1).toNat:Int)=1+r1:=by omega
      have e2:((20 - (1+r1)).toNat:Int)=20 - (1+r1):=by omega
      rcases(by omega:way=0∨way=1∨way=2)with rfl | rfl | rfl
      · refine⟨_,rfl,_,_,_,_,rfl,rfl,SqL.of upd_same,rfl,?_⟩
        exact key (1+r1).toNat (20 - (1+r1)).toNat q1 _ s9 d9 z1 (by rw[e1,e2];exact t9 _ _ (s8 _ _ z1 k1)) (by omega) (by omega) (by omega) (fun _=>by omega) (fun z=>absurd z (by decide)) (fun z=>absurd z (by decide))
      · refine⟨_,rfl,_,_,_,_,rfl,rfl,SqL.of upd_same,rfl,?_⟩
        exact key (1+r1).toNat (20 - (1+r1)).toNat q2 _ s9 d9 z2 (by rw[e1,e2];exact t9 _ _ (s8 _ _ z2 k2)) (by omega) (by omega) (by omega) (fun _=>by omega) (fun z=>absurd z (by decide)) (fun z=>absurd z (by decide))
      · refine⟨_,rfl,_,_,_,_,rfl,rfl,SqL.of upd_same,rfl,?_⟩
        exact key x y q _ s9 d9 zq (t9 _ _ kq) x1 x20 y20 (fun z=>absurd rfl z) (fun _=>hxy) (fun _=>hb)
    case rest=>
    intro x y q H2 s2 d2 zq kq x1 x20 y20 hxy hm hb
    have hso2:=hso.same (s2.tt hD)
    refine⟨_,rfl,_,rfl,_,rfl,_,rfl,_,_,_,_,rfl,rfl,SqL.of kq,rfl,R,nm,p,a,so,l,x,_,hS,rfl,⟨d2,hso2,l3,by omega,rfl⟩,fun ov H3 st1 tb1 s3 d3 m1=>?_⟩
    have s23:=s2.trans s3
    show gName 7 ov [some (.ref a),some so,some kv,some (vT l),some (.int way),some (.int (1+r1)),some (.ref q),none,none,none,none,none] H3 _
    refine⟨_,rfl,_,rfl,_,rfl,_,rfl,_,rfl,_,rfl,_,rfl,_,_,_,_,rfl,rfl,SqL.of (s3 _ _ zq kq),rfl,R,nm,p,a,so,l,y,_,hS,rfl,⟨d3,hso.same (s23.tt hD),l3,by omega,rfl⟩,fun hv H4 st2 tb2 s4 d4 m2=>?_⟩
    have s24:=s23.trans s4
    have hk4:=(KAtx hk hD s24)
    have m1':=m1.same (s4.tt d3)
    refine(fun(key:∀v H',Same H4 H'→Big 20 v H'→(?F1:L2.St→Hp→Prop) [some (.ref a),some so,some kv,some (vT l),some (.int way),some (.int (1+r1)),some (.ref q),some ov,some v,none,none,none] H')=>?main1) ?rest1
    case main1=>
      refine tn4 (sp:=fun vs H Q _=>spx_made w K mg base t vs H Q E0) (E:=E0) (σ:=[]) ?_
      have key':∀N v H',N=20→Same H4 H'→Big N v H'→_:=fun N v H' e s' g=>key v H' s' (e▸g)
      by_cases h2:way=2
      · refine⟨R,_,_,_,_,rfl,hk4,.inr (.inl ⟨h2,l,x,y,st1,tb1,_,st2,tb2,_,m1',m2,L,by omega,by omega,by have:=hm h2;omega,fun v H' s' g=>?_⟩)⟩
        show gName 8 v [some (.ref a),some so,some kv,some (vT l),some (.int way),some (.int (1+r1)),some (.ref q),some ov,none,none,none,none] H' _
        exact key' _ v H' (hm h2) s' g
      · refine⟨R,_,_,_,_,rfl,hk4,.inl ⟨by omega,l,x,y,st1,tb1,_,st2,tb2,_,m1',m2,L,by have:=hxy h2;omega,fun v H' s' g=>?_⟩⟩
        show gName 8 v [some (.ref a),some so,some kv,some (vT l),some (.int way),some (.int (1+r1)),some (.ref q),some ov,none,none,none,none] H' _
        exact key' _ v H' (hxy h2) s' g
    case rest1=>
    rintro v H5 s5 ⟨vp,va,vs,vb,vc,us,rfl,hvp,hvs,ul⟩
    have lv:LenV K (.ref vs) H5 20:=.inr ⟨_,SqT.of hvs,ul.symm⟩
    refine⟨_,rfl,_,_,_,_,rfl,rfl,SqT.of hvp,rfl,_,_,rfl,lv,rfl,_,rfl,?_⟩
    refine iteNI (fun ne=>absurd rfl ne) (fun _=>?_)
    have s25:SameX a H H5:=s24.trans (.of s5)
    have d5:=d4.same s5
    have kq5:=s5 _ _ (s4 _ _ zq (s3 _ _ zq kq))
    have m5:=m1'.same s5.t
    refine⟨_,rfl,_,_,_,_,rfl,rfl,SqL.of kq5,rfl,_,_,rfl,rfl,?_⟩
    show gName 9 (.int ((y:Int)+1)) [some (.ref a),some so,some kv,some (vT l),some (.int way),some (.int (1+r1)),some (.ref q),some ov,some (.ref vp),none,none,none] H5 _
    refine(fun(key:∀b:Nat,b≤40→(way≠2→20 < x+b)→(way=2→20 < x * b)→(?F2:L2.St→Hp→Prop) [some (.ref a),some so,some kv,some (vT l),some (.int way),some (.int (1+r1)),some (.ref q),some ov,some (.ref vp),some (.int b),none,none] H5)=>?main2) ?rest2
    case main2=>
      refine⟨_,rfl,rfl,_,rfl,?_⟩
      refine iteI (fun h2=>?_) (fun h2=>?_)
      · obtain⟨b,eb,b40,hb⟩:=hb h2
        refine⟨_,rfl,_,_,_,_,rfl,rfl,SqL.of kq5,rfl,_,_,rfl,rfl,⟨by omega,?_⟩,_,_,rfl,rfl,?_⟩
        · rw[Int.natAbs_natCast]
          refine Nat.lt_of_le_of_lt (Nat.log2_le_self x) (by omega)
        · have:=key b b40 (fun z=>absurd h2 z) (fun _=>hb)
          rw[← eb]at this
          show gName 9 (.int ((20:Int).fdiv (x:Int)+1)) [some (.ref a),some so,some kv,some (vT l),some (.int way),some (.int (1+r1)),some (.ref q),some ov,some (.ref vp),some (.int ((y:Int)+1)),none,none] H5 _
          exact this
      · have:=key (y+1) (by omega) (fun _=>by have:=hxy h2;omega) (fun z=>absurd z h2)
        rw[Int.natCast_add]at this
        exact this
    case rest2=>
    intro b b40 hb1 hb2
    refine⟨_,rfl,_,rfl,_,rfl,_,rfl,R,nm,p,a,so,l,b,_,hS,rfl,⟨d5,hso.same (s25.tt hD),l3,by omega,rfl⟩,fun gv H6 st3 tb3 s6 d6 m6=>?_⟩
    have s26:=s25.trans s6
    have m56:=m5.same (s6.tt d5)
    show gName 10 gv [some (.ref a),some so,some kv,some (vT l),some (.int way),some (.int (1+r1)),some (.ref q),some ov,some (.ref vp),some (.int b),none,none] H6 _
    refine⟨_,rfl,_,rfl,_,rfl,_,rfl,kv,.int way,ov,gv,3,rfl,⟨by decide,fun Q' E' hE=>⟨R,_,_,_,_,rfl,(KAtx hk hD s26),.inr (.inr (.inl ⟨by omega,l,l,x,b,st1,tb1,_,st3,tb3,_,m56,m6,by omega,by omega,.inr ⟨rfl,hb1,hb2,hE _ (Same.refl _)⟩⟩))⟩⟩,fun f1 H7 s7 hf1=>?_⟩
    refine⟨(by show 4≤sizeLine;decide),fun f2 nf2=>?_⟩
    have t7:=same_upd (o:=.lst [.bl false,.bl false,.bl false,.bl true]) nf2
    refine ne_flg (j:=3) (t7 _ _ hf1) upd_same ⟨_,rfl,?_⟩
    refine iteF ?_
    have s8:=s7.trans t7
    have m8:=m56.same s8.t
    have s28:SameX a H _:=s26.trans (.of s8)
    have d8:=d6.same s8
    revert m8 s28 d8
    clear s8 t7 nf2 hf1
    generalize upd H7 f2 (.lst [.bl false,.bl false,.bl false,.bl true])=H8
    intro m8 s28 d8
    refine⟨_,rfl,_,rfl,_,rfl,_,rfl,a,l,rfl,⟨d8,L⟩,fun l' H9 s9 d9 ne l'3=>?_⟩
    have s29:=s28.trans s9
    refine⟨_,rfl,R,nm,p,a,so,l',b,_,hS,rfl,⟨d9,hso.same (s29.tt hD),l'3,by omega,rfl⟩,fun uv HA st4 tb4 sA dA mA=>?_⟩
    have s2A:=s29.trans sA
    show gName 11 uv [some (.ref a),some so,some kv,some (vT l),some (.int way),some (.int (1+r1)),some (.ref q),some ov,some (.ref vp),some (.int b),some gv,none] HA _
    refine⟨_,rfl,_,rfl,_,rfl,_,rfl,kv,.int way,ov,uv,0,rfl,⟨by decide,fun Q' E' hE=>⟨R,_,_,_,_,rfl,(KAtx hk hD s2A),.inr (.inr (.inl ⟨by omega,l,l',x,b,st1,tb1,_,st4,tb4,_,m8.same ((s9.trans sA).tt d8),mA,by omega,by omega,.inl ⟨fun e=>ne e.symm,hE _ (Same.refl _)⟩⟩))⟩⟩,fun f3 HB sB hf3=>?_⟩
    refine⟨(by show 4≤sizeLine;decide),fun f4 nf4=>?_⟩
    have tB:=same_upd (o:=.lst ((flg 0).map V.bl)) nf4
    have sC:=sB.trans tB
    refine eq_flg (j:=0) (tB _ _ hf3) upd_same ?_
    exact k _ (s2A.trans (.of sC)) (dA.same sC)
theorem dot_nil{S:SR}(x:Nat→S.W)(n:Nat):dotW S x (fun _=>S.zero) n=S.zero:=by
  unfold dotW
  rw[sm_congr (g:=fun _=>S.zero) fun i _=>S.mul_zero _]
  exact sm_zero n
theorem dot_one{S:SR}(n:Nat):dotW S (unitW S 0) (unitW S 0) (n+1)=S.one:=by
  unfold dotW
  induction n with
  | zero=>
    show S.add S.zero (S.mul (unitW S 0 0) (unitW S 0 0))=_
    rw[show unitW S 0 0=S.one from if_pos rfl,S.mul_one,S.add_comm,S.add_zero]
  | succ n ih=>
    show S.add (sm S (fun i=>S.mul (unitW S 0 i) (unitW S 0 i)) (n+1)) (S.mul (unitW S 0 (n+1)) (unitW S 0 (n+1)))=_
    rw[ih,show unitW S 0 (n+1)=S.zero from if_neg (by omega),S.mul_zero,S.add_zero]
def sp_lmore(T:Txt K mg t):Sp:=fun vs H Q _=>∃(R:KindR Pr w K mg base),∃nm p,∃(a:Addr),∃so kv l,So T R nm p∧vs=[.ref a,so,kv,vT l]∧(Dr H a∧SortAt H so nm p∧KAt R.C R.fs H kv∧LOk l)∧∀H',SameX a H H'→Dr H' a→Q (.bl true) H'
theorem ok_law_one_more(T:Txt K mg t):FnOk Pr w K mg base CX0 48 t.law_one_more t.d_law_one_more ["_law_state_here","_law_sort_here","_law_kind_here","_law_letters_here"] (sp_lmore (w:=w) (base:=base) T):=by
  refine T.F_law_one_more.ok sc_law_one_more (fun vs H Q E h=>?_) (fun cdv A outer s H vs Q E hr h=>?_)
  · obtain⟨R,nm,p,a,so,kv,l,_,rfl,_⟩:=h
    rfl
  · obtain⟨R,nm,p,a,so,kv,l,hS,rfl,⟨hD,hso,hk,L⟩,k⟩:=h
    have l3:=L.h3
    have lz:R.S.lv 1 32 R.S.zero:=R.S.lv_mono _ _ _ _ (by decide) (R.S.lv_zero _)
    have lo:R.S.lv 1 32 R.S.one:=R.S.lv_mono _ _ _ _ (by decide) R.S.lv_one
    refine⟨_,(pss_cons (ps_set (i:=4) sc_law_one_more.nd rfl (Or.inl rfl) (pe_call (ok_law_machine T) (hr.mono (by decide)) rfl T.m_law_machine T.F_law_machine.kp T.b_law_machine .nil pass0 (pa_cons (pv 0) (pa_cons (pv 1) (pa_cons (pv 3) (pa_cons pe_int pa_nil)))))) (pss_cons (ps_if (pt_cmpR op_ne (pe_callB call_len (by rfl) T.z_len PySem.boot_len (pa_cons (pe_ix ix_tup (pe_call (ok_closed T) (hr.mono (by decide)) rfl T.m_closed T.F_closed.kp T.b_closed .nil pass0 (pa_cons (pv 2) (pa_cons (pv 4) pa_nil))) pe_int (fun _ _=>rfl)) pa_nil)) pe_int (nomark _)) (pss_one (ps_ret pe_bl)) pss_nil) (pss_cons (ps_set (i:=5) sc_law_one_more.nd rfl (Or.inl rfl) (pe_call (ok_law_machine T) (hr.mono (by decide)) rfl T.m_law_machine T.F_law_machine.kp T.b_law_machine .nil pass0 (pa_cons (pv 0) (pa_cons (pv 1) (pa_cons (pv 3) (pa_cons pe_int pa_nil)))))) (pss_cons (ps_if (pt_cmpR (op_neD hr.units) (pe_call (ok_law_refused T) (hr.mono (by decide)) rfl T.m_law_refused T.F_law_refused.kp T.b_law_refused .nil pass0 (pa_cons (pv 2) (pa_cons pe_int (pa_cons (pv 5) (pa_cons pe_non pa_nil))))) (pe_lst (pa_cons pe_bl (pa_cons pe_bl (pa_cons pe_bl (pa_cons pe_bl pa_nil))))) (nomark _)) (pss_one (ps_ret pe_bl)) pss_nil) (pss_cons (ps_set (i:=6) sc_law_one_more.nd rfl (Or.inl rfl) (pe_callTy call_tuple_of (by rfl) T.z_tuple boot_tuple (pa_cons (pe_op op_cat (pe_lst (pa_cons (pe_call (ok_law_one T) (hr.mono (by decide)) rfl T.m_law_one T.F_law_one.kp T.b_law_one .nil pass0 (pa_cons (pv 1) pa_nil)) pa_nil)) (pe_op op_rep (pe_lst (pa_cons (pe_call (ok_law_nought T) (hr.mono (by decide)) rfl T.m_law_nought T.F_law_nought.kp T.b_law_nought .nil pass0 (pa_cons (pv 1) pa_nil)) pa_nil)) pe_int)) pa_nil))) (pss_cons (ps_set (i:=7) sc_law_one_more.nd rfl (Or.inl rfl) (pe_tup (pa_cons (pv 3) (pa_cons (pv 6) (pa_cons (pe_ix ix_tup (pv 5) pe_int (fun _ _=>rfl)) (pa_cons (pv 6) pa_nil)))))) (pss_one (ps_ret (pe_cmpR (op_eqD hr.units) (pe_call (ok_law_refused T) (hr.mono (by decide)) rfl T.m_law_refused T.F_law_refused.kp T.b_law_refused .nil pass0 (pa_cons (pv 2) (pa_cons pe_int (pa_cons (pv 7) (pa_cons pe_non pa_nil))))) (pe_lst (pa_cons pe_bl (pa_cons pe_bl (pa_cons pe_bl (pa_cons pe_bl pa_nil))))) (nomark _)))))))))),?_⟩
    refine⟨_,rfl,_,rfl,_,rfl,R,nm,p,a,so,l,19,_,hS,rfl,⟨hD,hso,l3,by decide,rfl⟩,fun mv H1 st1 tb1 s1 d1 m1=>?_⟩
    show gName 4 mv [some (.ref a),some so,some kv,some (vT l),none,none,none,none] H1 _
    refine⟨_,rfl,_,rfl,R,_,_,l,19,st1,tb1,_,rfl,⟨KAtx hk hD s1,m1,L,by decide,dot_nil _ _⟩,fun v H2 s2 m2=>?_⟩
    obtain⟨vp,va,vs,vb,vc,us,rfl,hvp,hvs,ul⟩:=m2.big
    have lv:LenV K (.ref vs) H2 20:=.inr ⟨_,SqT.of hvs,ul.symm⟩
    refine⟨_,_,_,_,rfl,rfl,SqT.of hvp,rfl,_,_,rfl,lv,rfl,_,rfl,?_⟩
    refine iteNI (fun ne=>absurd rfl ne) (fun _=>?_)
    have sx2:SameX a H H2:=s1.trans (.of s2)
    have d2:=d1.same s2
    refine⟨_,rfl,_,rfl,_,rfl,R,nm,p,a,so,l,20,_,hS,rfl,⟨d2,hso.same (sx2.tt hD),l3,by decide,rfl⟩,fun gv H3 st3 tb3 s3 d3 m3=>?_⟩
    have sx3:=sx2.trans s3
    show gName 5 gv [some (.ref a),some so,some kv,some (vT l),some mv,none,none,none] H3 _
    refine⟨_,rfl,_,rfl,kv,.int 3,gv,.non,3,rfl,⟨by decide,fun Q' E' hE=>⟨R,_,_,_,_,rfl,KAtx hk hD sx3,.inr (.inr (.inr (.inl ⟨rfl,l,20,st3,tb3,_,m3,L,by decide,fun _ z=>absurd z (by decide),fun _ _=>hE,fun ne=>absurd (dot_nil _ _) ne⟩)))⟩⟩,fun f1 H4 s4 hf1=>?_⟩
    refine⟨(by show 4≤sizeLine;decide),fun f2 nf2=>?_⟩
    have t4:=same_upd (o:=.lst [.bl false,.bl false,.bl false,.bl true]) nf2
    refine ne_flg (j:=3) (t4 _ _ hf1) upd_same ⟨_,rfl,?_⟩
    refine iteF ?_
    have s5:=s4.trans t4
    have m5:=m3.same s5.t
    have sx5:SameX a H _:=sx3.trans (.of s5)
    have d5:=d3.same s5
    revert m5 sx5 d5
    clear s5 t4 nf2 hf1
    generalize upd H4 f2 (.lst [.bl false,.bl false,.bl false,.bl true])=H5
    intro m5 sx5 d5
    refine⟨_,rfl,R,nm,p,so,hS,rfl,hso.same (sx5.tt hD),fun ov H6 s6 f6=>?_⟩
    refine⟨(by show 1≤sizeLine;decide),fun b1 n1=>?_⟩
    have u1:=same_upd (o:=.lst [ov]) n1
    have k1:=upd_same (H:=H6) (a:=b1) (o:=.lst [ov])
    have f6:=R.same u1.t f6
    have s61:=s6.trans u1
    revert k1 f6 s61
    clear u1
    generalize upd H6 b1 (.lst [ov])=H7
    intro k1 f6 s61
    refine⟨_,rfl,R,nm,p,so,hS,rfl,hso.same ((sx5.trans (.of s61)).tt hD),fun zv H8 s8 f8=>?_⟩
    refine⟨(by show 1≤sizeLine;decide),fun b2 n2=>?_⟩
    have u2:=same_upd (o:=.lst [zv]) n2
    have k2:=upd_same (H:=H8) (a:=b2) (o:=.lst [zv])
    have k1:=(s8.trans u2) _ _ k1
    have f6:=R.same (s8.trans u2).t f6
    have f8:=R.same u2.t f8
    have s68:=(s61.trans s8).trans u2
    revert k2 k1 f6 f8 s68
    clear u2
    generalize upd H8 b2 (.lst [zv])=H9
    intro k2 k1 f6 f8 s68
    refine⟨_,_,_,rfl,rfl,k2,(by decide),(by decide),(by show 1 * 19≤sizeLine;decide),fun b3 n3=>?_⟩
    rw[rep1]
    have u3:=same_upd (o:=.lst (List.replicate (19:Int).toNat zv)) n3
    refine⟨_,_,_,_,rfl,rfl,u3 _ _ k1,upd_same,(by rw[List.length_replicate];show 1+19≤sizeLine;decide),fun b4 n4=>?_⟩
    have u4:=u3.trans (same_upd (o:=.lst ([ov]++List.replicate (19:Int).toNat zv)) n4)
    refine⟨b4,_,rfl,.inl ⟨SqL.of upd_same,fun b5 n5=>?_⟩⟩
    have u5:=u4.trans (same_upd (o:=.tup ([ov]++List.replicate (19:Int).toNat zv)) n5)
    have rL:R.Row 20 (unitW R.S 0) 1 (.ref b5) (upd (upd (upd H9 b3 (.lst (List.replicate (19:Int).toNat zv))) b4 (.lst ([ov]++List.replicate (19:Int).toNat zv))) b5 (.tup ([ov]++List.replicate (19:Int).toNat zv))):=by
      refine⟨b5,_,rfl,upd_same,?_⟩
      refine Ents.app (n:=1) (k:=(19:Int).toNat) (Ents.nil.snoc (v:=ov) ⟨?_,unitW_lv⟩) (ents_rep fun j _=>⟨?_,unitW_lv⟩)
      · rw[show unitW R.S 0 0=R.S.one from if_pos rfl];exact R.same u5.t f6
      · rw[show unitW R.S 0 (1+j)=R.S.zero from if_neg (by omega)];exact R.same u5.t f8
    have s6A:=s68.trans u5
    revert rL s6A
    clear u5 u4 u3
    generalize upd (upd (upd H9 b3 (.lst (List.replicate (19:Int).toNat zv))) b4 (.lst ([ov]++List.replicate (19:Int).toNat zv))) b5 (.tup ([ov]++List.replicate (19:Int).toNat zv))=HA
    intro rL s6A
    have mA:=m5.same s6A.t
    obtain⟨gp,gs,gt,ge,rfl,hgp,g1,g2,g3⟩:=mA
    show gName 6 (.ref b5) [some (.ref a),some so,some kv,some (vT l),some mv,some (.ref gp),none,none] HA _
    refine⟨_,rfl,_,rfl,_,rfl,_,_,_,_,rfl,rfl,SqT.of hgp,rfl,_,rfl,(by show 4≤sizeLine;decide),fun hp nhp=>?_⟩
    have uB:=same_upd (o:=.tup [vT l,.ref b5,gt,.ref b5]) nhp
    have mB:MachG R l 20 (unitW R.S 0) tb3 (unitW R.S 0) 1 1 1 (.ref hp) (upd HA hp (.tup [vT l,.ref b5,gt,.ref b5])):=⟨hp,_,_,_,rfl,upd_same,KindR.Row.same uB.t rL,g2.mono uB.t fun _ _ _ z=>KindR.Tab.same uB.t z,KindR.Row.same uB.t rL⟩
    have sB:=s6A.trans uB
    have sxB:SameX a H _:=sx5.trans (.of sB)
    have dB:=d5.same sB
    revert mB sxB dB
    clear sB uB
    generalize upd HA hp (.tup [vT l,.ref b5,gt,.ref b5])=HB
    intro mB sxB dB
    show gName 7 (.ref hp) [some (.ref a),some so,some kv,some (vT l),some mv,some (.ref gp),some (.ref b5),none] HB _
    refine⟨_,rfl,_,rfl,kv,.int 3,.ref hp,.non,1,rfl,⟨by decide,fun Q' E' hE=>⟨R,_,_,_,_,rfl,KAtx hk hD sxB,.inr (.inr (.inr (.inl ⟨rfl,l,20,_,tb3,_,mB,L,by decide,fun e=>absurd (e.symm.trans (dot_one 19)) R.S.zo,fun e=>absurd (e.symm.trans (dot_one 19)) R.S.zo,fun _=>hE⟩)))⟩⟩,fun f3 HC sC hf3=>?_⟩
    refine⟨(by show 4≤sizeLine;decide),fun f4 nf4=>?_⟩
    have tC:=same_upd (o:=.lst [.bl false,.bl true,.bl false,.bl false]) nf4
    have sD:=sC.trans tC
    refine eq_flg (j:=1) (tC _ _ hf3) upd_same ?_
    exact k _ (sxB.trans (.of sD)) (dB.same sD)
theorem A_is:(Str.ofString "A")=tx [65]:=by decide +kernel
theorem one_is:(Str.ofString "1")=tx [49]:=by decide +kernel
theorem none_ix{l:List Nat}(L:LOk l):∃c,c ∉ l∧c < 128∧atI ((ab4.filter fun c=>decide (c ∉ l)).map fun c=>vT [c]) 0=some (vT [c]):=by
  obtain⟨c,r,ec⟩:=one_out L
  have hc:c∈ab4.filter fun c=>decide (c ∉ l):=by rw[ec];simp
  refine⟨c,of_decide_eq_true (List.mem_filter.mp hc).2,?_,by rw[ec];exact atI_nat (j:=0) rfl⟩
  have:∀c∈ab4,c < 128:=by decide
  exact this c (List.mem_filter.mp hc).1
def OddW(K:PySem.W.Frag)(l:List Nat)(v:V)(H:Hp):Prop:=(∃ws,v=vT ws∧((∀c∈ws,c < 128)∧ws.length≤1000)∧¬∀c∈ws,c∈l)∨∀H',Same H H'→NoStr K v H'
def sp_lwords(T:Txt K mg t):Sp:=fun vs H Q _=>∃(R:KindR Pr w K mg base),∃nm p,∃(a:Addr),∃so kv l,So T R nm p∧vs=[.ref a,so,kv,vT l]∧(Dr H a∧SortAt H so nm p∧KAt R.C R.fs H kv∧AZ l)∧∀H',Q (.bl true) H'
theorem ok_law_words_made(T:Txt K mg t):FnOk Pr w K mg base CX0 48 t.law_words_made t.d_law_words_made ["_law_state_here","_law_sort_here","_law_kind_here","_law_letters_here"] (sp_lwords (w:=w) (base:=base) T):=by
  refine T.F_law_words_made.ok sc_law_words_made (fun vs H Q E h=>?_) (fun cdv A outer s H vs Q E hr h=>?_)
  · obtain⟨R,nm,p,a,so,kv,l,_,rfl,_⟩:=h
    rfl
  · obtain⟨R,nm,p,a,so,kv,l,hS,rfl,⟨hD,hso,hk,Z⟩,k⟩:=h
    have L:=Z.lo
    have l1:=L.h1
    have l3:=L.h3
    have sl:10000 < sizeLine:=by decide
    obtain⟨c0,l',el⟩:∃c0 l',l=c0::l':=by
      cases l with
      | nil=>simp at l1
      | cons c0 l'=>exact⟨c0,l',rfl⟩
    have c0l:c0∈l:=by rw[el];simp
    have at0:atI (tx l).cps.toList 0=some c0:=atI_nat (j:=0) (by show l.toArray.toList[0]? = _;rw[el];rfl)
    refine⟨_,(pss_cons (ps_set (i:=4) sc_law_words_made.nd rfl (Or.inl rfl) (pe_call (ok_law_machine T) (hr.mono (by decide)) rfl T.m_law_machine T.F_law_machine.kp T.b_law_machine .nil pass0 (pa_cons (pv 0) (pa_cons (pv 1) (pa_cons (pv 3) (pa_cons pe_int pa_nil)))))) (pss_cons (ps_set (i:=5) sc_law_words_made.nd rfl (Or.inl rfl) pe_str) (pss_cons (ps_for PassesOwn.never rfl (pi_range1 rfl T.z_range (pa_cons pe_int pa_nil)) (pg_name (i:=6) sc_law_words_made.nd rfl (Or.inl rfl)) (pss_one (ps_set (i:=5) sc_law_words_made.nd rfl (Or.inl rfl) (pe_op op_add_str (pv 5) (pe_ix ix_str (pv 3) (pe_call (ok_law_next T) (hr.mono (by decide)) rfl T.m_law_next T.F_law_next.kp T.b_law_next .nil pass0 (pa_cons (pv 0) (pa_cons (pe_callB call_len (by rfl) T.z_len PySem.boot_len (pa_cons (pv 3) pa_nil)) pa_nil))) (fun _ _=>rfl)))))) (pss_cons (ps_if (pt_cmpR op_ne (pe_callB call_len (by rfl) T.z_len PySem.boot_len (pa_cons (pe_ix ix_tup (pe_call (ok_law_made T) (hr.mono (by decide)) rfl T.m_law_made T.F_law_made.kp T.b_law_made .nil pass0 (pa_cons (pv 2) (pa_cons pe_int (pa_cons (pv 4) (pa_cons (pv 5) pa_nil))))) pe_int (fun _ _=>rfl)) pa_nil)) pe_int (nomark _)) (pss_one (ps_ret pe_bl)) pss_nil) (pss_cons (ps_set (i:=7) sc_law_words_made.nd rfl (Or.inl rfl) (pe_call (ok_law_next T) (hr.mono (by decide)) rfl T.m_law_next T.F_law_next.kp T.b_law_next .nil pass0 (pa_cons (pv 0) (pa_cons pe_int pa_nil)))) (pss_cons (ps_if (pt_cmpR (op_neD hr.units) (pe_call (ok_law_refused T) (hr.mono (by decide)) rfl T.m_law_refused T.F_law_refused.kp T.b_law_refused .nil pass0 (pa_cons (pv 2) (pa_cons pe_int (pa_cons (pv 4) (pa_cons (pe_op op_add_str (pe_op op_add_str (pe_slice sl_str (pv 5) po_none (po_some (pv 7))) (pe_ix ix_str (pv 3) pe_int (fun _ _=>rfl))) (pe_slice sl_str (pv 5) (po_some (pv 7)) po_none)) pa_nil))))) (pe_lst (pa_cons pe_bl (pa_cons pe_bl (pa_cons pe_bl (pa_cons pe_bl pa_nil))))) (nomark _)) (pss_one (ps_ret pe_bl)) pss_nil) (pss_cons (ps_set (i:=8) sc_law_words_made.nd rfl (Or.inl rfl) (pe_ix ix_list (pe_compif (xs:=["_law_sign"]) rfl (show CompOk ["_law_state_here","_law_sort_here","_law_kind_here","_law_letters_here","_law_machine_here","_law_word","_law_k","_law_at","_law_none","_law_odd"] (defScope s_law_words_made) _ from⟨rfl,by decide +kernel,by decide +kernel,by decide +kernel,by decide +kernel,by decide +kernel⟩) (pi_str pe_str) (fun _ _ _ _ _=>(pg_name (i:=10) (by show List.Nodup (["_law_state_here","_law_sort_here","_law_kind_here","_law_letters_here","_law_machine_here","_law_word","_law_k","_law_at","_law_none","_law_odd","_law_sign"]:List Str);decide +kernel) rfl (Or.inl rfl))) (fun _ _ _ _ _=>(pt_cmpR op_notin_str (pv 10) (pv 3) (by with_unfolding_all rfl))) (fun _ _ _ _ _=>(pv 10))) pe_int (fun _ _=>rfl))) (pss_cons (ps_set (i:=9) sc_law_words_made.nd rfl (Or.inl rfl) (pe_lst (pa_cons (pe_op op_add_str (pe_op op_add_str (pe_slice sl_str (pv 5) po_none (po_some (pv 7))) pe_str) (pe_slice sl_str (pv 5) (po_some (pv 7)) po_none)) (pa_cons (pe_op op_add_str (pe_op op_add_str (pv 5) pe_str) (pv 5)) (pa_cons pe_non (pa_cons (pe_lst (pa_cons (pv 5) pa_nil)) (pa_cons pe_int (pa_cons (pe_tup (pa_cons (pe_ix ix_str (pv 3) pe_int (fun _ _=>rfl)) pa_nil)) (pa_cons (pe_op op_add_str (pe_op op_add_str (pe_slice sl_str (pv 5) po_none (po_some (pv 7))) (pv 8)) (pe_slice sl_str (pv 5) (po_some (pv 7)) po_none)) pa_nil))))))))) (pss_cons (ps_set (i:=9) sc_law_words_made.nd rfl (Or.inl rfl) (pe_ix ix_list (pv 9) (pe_call (ok_law_next T) (hr.mono (by decide)) rfl T.m_law_next T.F_law_next.kp T.b_law_next .nil pass0 (pa_cons (pv 0) (pa_cons pe_int pa_nil))) (fun _ _=>rfl))) (pss_one (ps_ret (pe_cmpR (op_eqD hr.units) (pe_call (ok_law_refused T) (hr.mono (by decide)) rfl T.m_law_refused T.F_law_refused.kp T.b_law_refused .nil pass0 (pa_cons (pv 2) (pa_cons pe_int (pa_cons (pv 4) (pa_cons (pv 9) pa_nil))))) (pe_lst (pa_cons pe_bl (pa_cons pe_bl (pa_cons pe_bl (pa_cons pe_bl pa_nil))))) (nomark _))))))))))))),?_⟩
    refine⟨_,rfl,_,rfl,_,rfl,R,nm,p,a,so,l,1,_,hS,rfl,⟨hD,hso,l3,by decide,rfl⟩,fun mv H1 st1 tb1 s1 d1 m1=>?_⟩
    show gName 4 mv [some (.ref a),some so,some kv,some (vT l),none,none,none,none,none,none] H1 _
    refine⟨_,rfl,(by decide),(by decide),for_range (lo:=0) (n:=19) (fun i σ H'=>∃ws v6,σ=[some (.ref a),some so,some kv,some (vT l),some mv,some (vT ws),v6,none,none,none]∧SameX a H1 H'∧Dr H' a∧ws.length=i∧∀c∈ws,c∈l) ⟨[],_,(by rw[show V.str (Str.ofString "")=vT [] by rw[em_is];rfl];rfl),SameX.refl _ _,d1,rfl,fun _ h=>by cases h⟩ ?_ ?_⟩
    · rintro i σ H2 hi ⟨ws,v6,rfl,q,d2,wl,wa⟩
      have ll:LenV K (vT l) H2 l.length:=⟨by rw[tx_len];omega,(tx_len l).symm⟩
      refine⟨_,rfl,_,rfl,_,rfl,_,rfl,_,_,rfl,ll,a,_,rfl,⟨d2,by omega,by omega⟩,fun r H3 s3 d3 r0 r1=>?_⟩
      obtain⟨c,hc⟩:∃c,l[r.toNat]? = some c:=⟨l[r.toNat]'(by omega),by simp⟩
      have ac:atI (tx l).cps.toList r=some c:=by
        rw[show r=((r.toNat:Nat):Int) by omega]
        exact atI_nat (by show l.toArray.toList[r.toNat]? = some c;simpa using hc)
      refine⟨_,_,_,rfl,rfl,(by rw[tx_len];omega),ac,_,_,rfl,rfl,(by rw[tx_len];show ws.length+1≤_;omega),?_⟩
      have e1:tx ws++(⟨#[c]⟩:Str)=tx (ws++[c]):=tx_app ws [c]
      refine⟨ws++[c],_,(by rw[e1];rfl),q.trans s3,d3,by simp[wl],fun x hx=>?_⟩
      rcases List.mem_append.mp hx with hx | hx
      · exact wa x hx
      · rw[List.mem_singleton.mp hx];exact List.mem_of_getElem? hc
    rintro σ H2 ⟨ws,v6,rfl,q2,d2,wl,wa⟩
    have sx2:=s1.trans q2
    have m2:=m1.same (q2.tt d1)
    have wasc:∀c∈ws,c < 128:=fun c hc=>L.as c (wa c hc)
    obtain⟨mp,ms,mt,me,rfl,hmp,_⟩:=id m2
    refine⟨_,rfl,_,rfl,_,rfl,R,_,_,_,_,rfl,KAtx hk hD sx2,.inr (.inr (.inr (.inr ⟨rfl,l,mp,ms,mt,me,rfl,hmp,.inl ⟨ws,rfl,⟨L,wa,by omega⟩,by omega,fun v H3 s3 g=>?_⟩⟩)))⟩
    obtain⟨vp,va,vs,vb,vc,us,rfl,hvp,hvs,ul⟩:=g
    have lv:LenV K (.ref vs) H3 20:=.inr ⟨_,SqT.of hvs,by rw[ul,wl]⟩
    refine⟨_,_,_,_,rfl,rfl,SqT.of hvp,rfl,_,_,rfl,lv,rfl,_,rfl,?_⟩
    refine iteNI (fun ne=>absurd rfl ne) (fun _=>?_)
    have sx3:SameX a H H3:=sx2.trans (.of s3)
    have d3:=d2.same s3
    refine⟨_,rfl,a,20,rfl,⟨d3,by decide,by decide⟩,fun r4 H4 s4 d4 a4 b4=>?_⟩
    have sx4:=sx3.trans s4
    have hmp4:=s4.tt d3 _ _ (s3 _ _ hmp)
    show gName 7 (.int r4) [some (.ref a),some so,some kv,some (vT l),some (.ref mp),some (vT ws),v6,none,none,none] H4 _
    have r4w:r4≤(ws.length:Int):=by omega
    have tkl:(ws.take r4.toNat).length≤19:=by rw[List.length_take];omega
    have drl:(ws.drop r4.toNat).length≤19:=by rw[List.length_drop];omega
    have tkd:(ws.take r4.toNat).length+(ws.drop r4.toNat).length=19:=by rw[← List.length_append,List.take_append_drop,wl]
    have mid:∀c:Nat,∀x∈(ws.take r4.toNat++[c])++ws.drop r4.toNat,x=c∨x∈ws:=fun c x hx=>by
      rcases List.mem_append.mp hx with hx | hx
      · rcases List.mem_append.mp hx with hx | hx
        · exact .inr (List.mem_of_mem_take hx)
        · exact .inl (List.mem_singleton.mp hx)
      · exact .inr (List.mem_of_mem_drop hx)
    have midl:∀c:Nat,((ws.take r4.toNat++[c])++ws.drop r4.toNat).length=20:=fun c=>by
      rw[List.length_append,List.length_append,List.length_singleton];omega
    have bad:∀(c:Nat) (H:Hp),c ∉ l→c < 128→OddW K l (vT ((ws.take r4.toNat++[c])++ws.drop r4.toNat)) H:=fun c H hc h128=>.inl ⟨_,rfl,⟨fun x hx=>(mid c x hx).elim (fun e=>by omega) (wasc x),by rw[midl];decide⟩,fun z=>hc (z c (by simp))⟩
    have e65:(65:Nat) ∉ l:=fun h=>by have:=Z.az _ h;omega
    have e49:(49:Nat) ∉ l:=fun h=>by have:=Z.az _ h;omega
    refine⟨_,rfl,_,rfl,_,rfl,_,rfl,_,rfl,_,rfl,(by rw[tx_len];omega),?_⟩
    rw[sl_to a4 r4w]
    refine⟨_,rfl,_,_,_,rfl,rfl,(by rw[tx_len];omega),at0,_,_,rfl,rfl,(by rw[tx_len];show _+1≤_;omega),?_⟩
    rw[show tx (ws.take r4.toNat)++(⟨#[c0]⟩:Str)=tx (ws.take r4.toNat++[c0])from tx_app _ [c0]]
    refine⟨_,rfl,_,rfl,_,rfl,_,rfl,(by rw[tx_len];omega),?_⟩
    rw[sl_from a4 r4w]
    refine⟨_,_,rfl,rfl,(by rw[tx_len,tx_len,List.length_append,List.length_singleton];omega),?_⟩
    rw[tx_app]
    refine⟨kv,.int 4,.ref mp,vT ((ws.take r4.toNat++[c0])++ws.drop r4.toNat),3,rfl,⟨by decide,fun Q' E' hE=>⟨R,_,_,_,_,rfl,KAtx hk hD sx4,.inr (.inr (.inr (.inr ⟨rfl,l,mp,ms,mt,me,rfl,hmp4,.inr (.inl ⟨_,rfl,⟨fun x hx=>(mid c0 x hx).elim (fun e=>by rw[e];exact L.as _ c0l) (wasc x),by rw[midl];decide⟩,.inl ⟨fun x hx=>(mid c0 x hx).elim (fun e=>by rw[e];exact c0l) (wa x),by rw[midl];decide,hE⟩⟩)⟩)))⟩⟩,fun f1 H5 s5 hf1=>?_⟩
    refine⟨(by show 4≤sizeLine;decide),fun f2 nf2=>?_⟩
    have t5:=same_upd (o:=.lst [.bl false,.bl false,.bl false,.bl true]) nf2
    refine ne_flg (j:=3) (t5 _ _ hf1) upd_same ⟨_,rfl,?_⟩
    refine iteF ?_
    have s6:=s5.trans t5
    have hmp6:=s6 _ _ hmp4
    have sx6:SameX a H _:=sx4.trans (.of s6)
    have d6:=d4.same s6
    revert hmp6 sx6 d6
    clear s6 t5 nf2 hf1
    generalize upd H5 f2 (.lst [.bl false,.bl false,.bl false,.bl true])=H6
    intro hmp6 sx6 d6
    rw[ab4_is]
    refine⟨_,rfl,asc_of (by decide),comp_goI (n:=4) (fun j ys H2=>H2=H6∧ys=(((ab4.take j).filter fun c=>decide (c ∉ l)).map fun c=>vT [c])) (by decide) ⟨rfl,rfl⟩ (fun j ys H2 q=>by rw[q.2,List.length_map];exact Nat.le_trans (List.length_filter_le _ _) (by rw[List.length_take];omega)) ?_ ?_ ?_⟩
    · rintro j ys H2 hj ⟨rfl,rfl⟩
      refine⟨(by show j < 4;exact hj),fun y H' hy=>?_⟩
      obtain⟨rfl,c,hc,rfl⟩:=hy
      have hc:ab4[j]? = some c:=by simpa [tx] using hc
      refine⟨⟨[some _],rfl,rfl⟩,_,rfl,_,rfl,_,_,rfl,rfl,_,rfl,?_⟩
      have ein:=in_let l c
      have e2:(!(!(Builtin.Str.occurrences (tx l) ⟨#[c]⟩ 0 (tx l).length 1).isEmpty))=decide (c ∉ l):=by rw[ein];by_cases z:c∈l <;>simp[z]
      rw[e2]
      have tk:(ab4.take (j+1)).filter (fun c=>decide (c ∉ l))=(ab4.take j).filter (fun c=>decide (c ∉ l))++(if c ∉ l then [c]else []):=by
        rw[List.take_succ,hc,List.filter_append]
        by_cases z:c∈l <;>simp[z]
      by_cases z:c ∉ l
      · rw[decide_eq_true z]
        refine iteT ?_
        refine⟨_,rfl,rfl,?_⟩
        rw[tk,if_pos z,List.map_append];rfl
      · rw[decide_eq_false z]
        refine iteF ?_
        refine⟨rfl,?_⟩
        rw[tk,if_neg z,List.append_nil]
    · rintro ys H2 ⟨rfl,rfl⟩
      show 4≤4
      decide
    rintro ys G6 q6 ⟨rfl,rfl⟩ nq6
    obtain⟨c,hcl,c128,ac⟩:=none_ix L
    have t7:=same_upd (o:=.lst ((((ab4.take 4).filter fun c=>decide (c ∉ l)).map fun c=>vT [c]))) nq6
    refine⟨_,_,_,_,rfl,rfl,SqL.of upd_same,ac,?_⟩
    have hmp7:=t7 _ _ hmp6
    have sx7:SameX a H _:=sx6.trans (.of t7)
    have d7:=d6.same t7
    revert hmp7 sx7 d7
    clear t7 nq6
    generalize upd G6 q6 (.lst ((((ab4.take 4).filter fun c=>decide (c ∉ l)).map fun c=>vT [c])))=H7
    intro hmp7 sx7 d7
    show gName 8 (vT [c]) [some (.ref a),some so,some kv,some (vT l),some (.ref mp),some (vT ws),v6,some (.int r4),none,none] H7 _
    refine⟨_,rfl,_,rfl,_,rfl,_,rfl,(by rw[tx_len];omega),?_⟩
    rw[sl_to a4 r4w,A_is]
    refine⟨_,_,rfl,rfl,(by rw[tx_len];show _+1≤_;omega),?_⟩
    rw[tx_app]
    refine⟨_,rfl,_,rfl,_,rfl,_,rfl,(by rw[tx_len];omega),?_⟩
    rw[sl_from a4 r4w]
    refine⟨_,_,rfl,rfl,(by rw[tx_len,tx_len,List.length_append,List.length_singleton];omega),?_⟩
    rw[tx_app,one_is]
    refine⟨_,rfl,_,_,rfl,rfl,(by rw[tx_len];show _+1≤_;omega),?_⟩
    rw[tx_app]
    refine⟨_,rfl,_,_,rfl,rfl,(by rw[tx_len,tx_len,List.length_append,List.length_singleton];omega),?_⟩
    rw[tx_app]
    refine⟨_,rfl,(by show 1≤sizeLine;decide),fun w1 nw1=>?_⟩
    have u1:=same_upd (o:=.lst [vT ws]) nw1
    refine⟨_,rfl,_,_,_,rfl,rfl,(by rw[tx_len];omega),at0,(by show 1≤sizeLine;decide),fun w2 nw2=>?_⟩
    have u2:=same_upd (o:=.tup [V.str ⟨#[c0]⟩]) nw2
    refine⟨_,rfl,_,rfl,_,rfl,_,rfl,(by rw[tx_len];omega),?_⟩
    rw[sl_to a4 r4w]
    refine⟨_,rfl,_,_,rfl,rfl,(by rw[tx_len,tx_len];show _+1≤_;omega),?_⟩
    rw[tx_app]
    refine⟨_,rfl,_,rfl,_,rfl,_,rfl,(by rw[tx_len];omega),?_⟩
    rw[sl_from a4 r4w]
    refine⟨_,_,rfl,rfl,(by rw[tx_len,tx_len,List.length_append,List.length_singleton];omega),?_⟩
    rw[tx_app]
    refine⟨(by show 7≤sizeLine;decide),fun w3 nw3=>?_⟩
    have u3:=same_upd (o:=.lst [vT ((ws.take r4.toNat++[65])++ws.drop r4.toNat),vT ((ws++[49])++ws),.non,.ref w1,.int 5,.ref w2,vT ((ws.take r4.toNat++[c])++ws.drop r4.toNat)]) nw3
    have k3:=upd_same (H:=upd (upd H7 w1 (.lst [vT ws])) w2 (.tup [V.str ⟨#[c0]⟩])) (a:=w3) (o:=.lst [vT ((ws.take r4.toNat++[65])++ws.drop r4.toNat),vT ((ws++[49])++ws),.non,.ref w1,.int 5,.ref w2,vT ((ws.take r4.toNat++[c])++ws.drop r4.toNat)])
    have k1:=(u2.trans u3) _ _ (upd_same (H:=H7) (a:=w1) (o:=.lst [vT ws]))
    have k2:=u3 _ _ (upd_same (a:=w2) (o:=.tup [V.str ⟨#[c0]⟩]))
    have u13:=(u1.trans u2).trans u3
    have z1:w1≠a:=d7.ne nw1
    have z2:w2≠a:=(d7.same u1).ne nw2
    have z3:w3≠a:=(d7.same (u1.trans u2)).ne nw3
    have hmp8:=u13 _ _ hmp7
    have sx8:SameX a H _:=sx7.trans (.of u13)
    have d8:=d7.same u13
    revert k1 k2 k3 hmp8 sx8 d8
    clear u13 u1 u2 u3 nw1 nw2 nw3
    show _→_→_→_→_→_→gName 9 (.ref w3) [some (.ref a),some so,some kv,some (vT l),some (.ref mp),some (vT ws),v6,some (.int r4),some (vT [c]),none] (upd (upd (upd H7 w1 (.lst [vT ws])) w2 (.tup [V.str ⟨#[c0]⟩])) w3 (.lst [vT ((ws.take r4.toNat++[65])++ws.drop r4.toNat),vT ((ws++[49])++ws),.non,.ref w1,.int 5,.ref w2,vT ((ws.take r4.toNat++[c])++ws.drop r4.toNat)])) _
    generalize upd (upd (upd H7 w1 (.lst [vT ws])) w2 (.tup [V.str ⟨#[c0]⟩])) w3 (.lst [vT ((ws.take r4.toNat++[65])++ws.drop r4.toNat),vT ((ws++[49])++ws),.non,.ref w1,.int 5,.ref w2,vT ((ws.take r4.toNat++[c])++ws.drop r4.toNat)])=H8
    intro k3 k1 k2 hmp8 sx8 d8
    refine⟨_,rfl,_,rfl,a,7,rfl,⟨d8,by decide,by decide⟩,fun r9 H9 s9 d9 a9 b9=>?_⟩
    have sx9:=sx8.trans s9
    have hmp9:=s9.tt d8 _ _ hmp8
    have odd:∃v,atI [vT ((ws.take r4.toNat++[65])++ws.drop r4.toNat),vT ((ws++[49])++ws),.non,.ref w1,.int 5,.ref w2,vT ((ws.take r4.toNat++[c])++ws.drop r4.toNat)] r9=some v∧OddW K l v H9:=by
      rcases(by omega:r9=0∨r9=1∨r9=2∨r9=3∨r9=4∨r9=5∨r9=6)with rfl | rfl | rfl | rfl | rfl | rfl | rfl
      · exact⟨_,rfl,bad 65 _ e65 (by decide)⟩
      · refine⟨_,rfl,.inl ⟨_,rfl,⟨fun x hx=>?_,by rw[List.length_append,List.length_append,List.length_singleton];omega⟩,fun z=>e49 (z 49 (by simp))⟩⟩
        rcases List.mem_append.mp hx with hx | hx
        · rcases List.mem_append.mp hx with hx | hx
          · exact wasc x hx
          · rw[List.mem_singleton.mp hx];decide
        · exact wasc x hx
      · exact⟨_,rfl,.inr fun H' _=>⟨_,TyOf.non,T.k_ns⟩⟩
      · exact⟨_,rfl,.inr fun H' s'=>⟨_,TyOf.lst (s' _ _ (s9 _ _ z1 k1)),T.k_ls⟩⟩
      · exact⟨_,rfl,.inr fun H' _=>⟨_,TyOf.int _,T.k_is⟩⟩
      · exact⟨_,rfl,.inr fun H' s'=>⟨_,TyOf.tup (s' _ _ (s9 _ _ z2 k2)),T.k_ts⟩⟩
      · exact⟨_,rfl,bad c _ hcl c128⟩
    obtain⟨v,av,hv⟩:=odd
    refine⟨_,_,_,_,rfl,rfl,SqL.of (s9 _ _ z3 k3),av,?_⟩
    show gName 9 v [some (.ref a),some so,some kv,some (vT l),some (.ref mp),some (vT ws),v6,some (.int r4),some (vT [c]),some (.ref w3)] H9 _
    refine⟨_,rfl,_,rfl,_,rfl,kv,.int 4,.ref mp,v,2,rfl,⟨by decide,fun Q' E' hE=>⟨R,_,_,_,_,rfl,KAtx hk hD sx9,.inr (.inr (.inr (.inr ⟨rfl,l,mp,ms,mt,me,rfl,hmp9,?_⟩)))⟩⟩,fun f3 HB sB hf3=>?_⟩
    · rcases hv with ⟨ws',rfl,W',hn⟩ | hn
      · exact .inr (.inl ⟨ws',rfl,W',.inr ⟨hn,hE⟩⟩)
      · exact .inr (.inr ⟨hn,hE⟩)
    refine⟨(by show 4≤sizeLine;decide),fun f4 nf4=>?_⟩
    have tB:=same_upd (o:=.lst [.bl false,.bl false,.bl true,.bl false]) nf4
    refine eq_flg (j:=2) (tB _ _ hf3) upd_same ?_
    exact k _
theorem Pool.z{p l:List Nat}{i:Nat}(G:Pool p l i)(i1:1≤i)(i3:i≤3):AZ l:=⟨G.ok i1 i3,fun c hc=>G.az c (List.mem_append_right _ hc)⟩
def sp_law(K:PySem.W.Frag):Sp:=fun vs H Q _=>∃(a:Addr) (ns:List Int),vs=[.ref a]∧SqL K H a (ns.map V.int)∧ns.length≤63∧∀H',Q (.bl true) H'
theorem ok_law(T:Txt K mg t):FnOk Pr w K mg base CX0 50 t.law t.d_law ["_law_script"] (sp_law K):=by
  refine T.F_law.ok sc_law (fun vs H Q E h=>?_) (fun cdv A outer s H vs Q E hr h=>?_)
  · obtain⟨a,ns,rfl,_⟩:=h
    rfl
  · obtain⟨a0,ns,rfl,hS0,hlen,k⟩:=h
    refine⟨_,(pss_cons (ps_set (i:=1) sc_law.nd rfl (Or.inl rfl) (pe_call (ok_law_state T) (hr.mono (by decide)) rfl T.m_law_state T.F_law_state.kp T.b_law_state .nil pass0 (pa_cons (pv 0) pa_nil))) (pss_cons (ps_set (i:=2) sc_law.nd rfl (Or.inl rfl) (pe_call (ok_law_sort T) (hr.mono (by decide)) rfl T.m_law_sort T.F_law_sort.kp T.b_law_sort .nil pass0 (pa_cons (pv 1) (pa_cons (pe_call (ok_law_next T) (hr.mono (by decide)) rfl T.m_law_next T.F_law_next.kp T.b_law_next .nil pass0 (pa_cons (pv 1) (pa_cons pe_int pa_nil))) pa_nil)))) (pss_cons (ps_set (i:=3) sc_law.nd rfl (Or.inl rfl) (pe_call (ok_law_kind T) (hr.mono (by decide)) rfl T.m_law_kind T.F_law_kind.kp T.b_law_kind .nil pass0 (pa_cons (pv 2) pa_nil))) (pss_cons (ps_set (i:=4) sc_law.nd rfl (Or.inl rfl) (pe_call (ok_law_letters T) (hr.mono (by decide)) rfl T.m_law_letters T.F_law_letters.kp T.b_law_letters .nil pass0 (pa_cons (pv 1) pa_nil))) (pss_cons (ps_if (pt_not (pt_val (pe_call (ok_law_two T) (hr.mono (by decide)) rfl T.m_law_two T.F_law_two.kp T.b_law_two .nil pass0 (pa_cons (pv 1) (pa_cons (pv 2) (pa_cons (pv 3) (pa_cons (pv 4) (pa_cons (pe_call (ok_law_next T) (hr.mono (by decide)) rfl T.m_law_next T.F_law_next.kp T.b_law_next .nil pass0 (pa_cons (pv 1) (pa_cons pe_int pa_nil))) pa_nil)))))))) (pss_one (ps_ret pe_bl)) pss_nil) (pss_one (ps_ret (pe_and (pe_call (ok_law_one_more T) (hr.mono (by decide)) rfl T.m_law_one_more T.F_law_one_more.kp T.b_law_one_more .nil pass0 (pa_cons (pv 1) (pa_cons (pv 2) (pa_cons (pv 3) (pa_cons (pv 4) pa_nil))))) (pe_one (pe_call (ok_law_words_made T) (hr.mono (by decide)) rfl T.m_law_words_made T.F_law_words_made.kp T.b_law_words_made .nil pass0 (pa_cons (pv 1) (pa_cons (pv 2) (pa_cons (pv 3) (pa_cons (pv 4) pa_nil)))))))))))))),?_⟩
    refine⟨_,rfl,a0,ns,rfl,hS0,hlen,fun a H1 na s1 d1=>?_⟩
    refine⟨_,rfl,_,rfl,a,4,rfl,⟨d1,by decide,by decide⟩,fun r2 H2 s2 d2 u2 w2=>⟨a,r2,rfl,⟨d2,u2,w2⟩,fun R nm p so H3 hS hso s3 d3=>?_⟩⟩
    refine⟨_,rfl,R,nm,p,so,hS,rfl,hso,fun kv H4 s4 hk=>?_⟩
    refine⟨_,rfl,a,rfl,d3.same s4,fun pl l il H5 s5 d5 G i1 i3=>?_⟩
    have Z:=G.z i1 i3
    have d4:=d3.same s4
    have hk5:=KAtx hk d4 s5
    have hso5:=(hso.same s4.t).same (s5.tt d4)
    refine⟨_,rfl,_,rfl,_,rfl,_,rfl,_,rfl,a,3,rfl,⟨d5,by decide,by decide⟩,fun wy H6 s6 d6 w0 w3=>?_⟩
    have hk6:=KAtx hk5 d5 s6
    have hso6:=hso5.same (s6.tt d5)
    refine⟨R,nm,p,a,so,kv,l,wy,hS,rfl,⟨d6,hso6,hk6,Z.lo,w0,w3⟩,fun H7 s7 d7=>⟨_,rfl,?_⟩⟩
    (try refine iteF ?_)
    have hk7:=KAtx hk6 d6 s7
    have hso7:=hso6.same (s7.tt d6)
    refine⟨_,rfl,_,rfl,_,rfl,_,rfl,R,nm,p,a,so,kv,l,hS,rfl,⟨d7,hso7,hk7,Z.lo⟩,fun H8 s8 d8=>⟨_,rfl,?_⟩⟩
    refine iteT ?_
    exact⟨_,rfl,_,rfl,_,rfl,_,rfl,R,nm,p,a,so,kv,l,hS,rfl,⟨d8,hso7.same (s8.tt d7),KAtx hk7 d7 s8,Z⟩,k⟩
theorem law_binds(T:Txt K mg t):∀(s:Shared) (u:Value),BindsTo s t.d_law ⟨[u],[]⟩ [("_law_script",u)]:=by
  obtain⟨oc,od,kV,doc,pm,an,cdv,ct,osl,e,_,_⟩:=T.F_law.ex
  rw[e]
  exact fun s u=>.of_eq rfl
end
abbrev FD(n q:Str)(s:Stmt)(c d e:Value)(v:Option Addr)(g j:Value):FuncData:=PySem.W.fnOf n q (defArgs s) (defBody s) (defScope s) .none c d e v g j
abbrev NS(K:PySem.W.Frag)(x:Str)(a:Addr):Prop:=PySem.W.nsIn K mainGlobals x=some (some (.ref a))
abbrev HL(K:PySem.W.Frag)(a:Addr)(b:Value)(u:Option Addr)(d:FuncData)(w:Array (Option Value)):Prop:=K.lookup a=some ⟨b,u,.func d,w⟩
abbrev KI(K:PySem.W.Frag)(a:Addr):Prop:=PySem.W.keepIn K (.ref a)=true
theorem txt_mk{K:PySem.W.Frag}{h:Heap}{mg:Str→Option Value}(X:K.In h)(G:h.Ns mainGlobals mg){A0 A1 A2 A3 A4 A5 A6 A7 A8 A9 A10 A11 A12 A13 A14 A15 A16 A17 A18 A19 A20 A21 A22 A23 A24 A25 A26 A27 A28 A29 A30 A31 A32 A33 A34 A35 A36 A37 A38 A39 A40 A41 A42 A43 A44 A45 A46 A47 A48 A49 A50 A51 A52 A53 A54 A55 A56 A57 A58 A59 A60 A61 A62 A63 A64 A65 A66 A67 A68 A69 A70 A71 A72 A73:Addr}{b0 c0 d0 e0 g0 j0 b1 c1 d1 e1 g1 j1 b2 c2 d2 e2 g2 j2 b3 c3 d3 e3 g3 j3 b4 c4 d4 e4 g4 j4 b5 c5 d5 e5 g5 j5 b6 c6 d6 e6 g6 j6 b7 c7 d7 e7 g7 j7 b8 c8 d8 e8 g8 j8 b9 c9 d9 e9 g9 j9 b10 c10 d10 e10 g10 j10 b11 c11 d11 e11 g11 j11 b12 c12 d12 e12 g12 j12 b13 c13 d13 e13 g13 j13 b14 c14 d14 e14 g14 j14 b15 c15 d15 e15 g15 j15 b16 c16 d16 e16 g16 j16 b17 c17 d17 e17 g17 j17 b18 c18 d18 e18 g18 j18 b19 c19 d19 e19 g19 j19 b20 c20 d20 e20 g20 j20 b21 c21 d21 e21 g21 j21 b22 c22 d22 e22 g22 j22 b23 c23 d23 e23 g23 j23 b24 c24 d24 e24 g24 j24 b25 c25 d25 e25 g25 j25 b26 c26 d26 e26 g26 j26 b27 c27 d27 e27 g27 j27 b28 c28 d28 e28 g28 j28 b29 c29 d29 e29 g29 j29 b30 c30 d30 e30 g30 j30 b31 c31 d31 e31 g31 j31 b32 c32 d32 e32 g32 j32 b33 c33 d33 e33 g33 j33 b34 c34 d34 e34 g34 j34 b35 c35 d35 e35 g35 j35 b36 c36 d36 e36 g36 j36 b37 c37 d37 e37 g37 j37 b38 c38 d38 e38 g38 j38 b39 c39 d39 e39 g39 j39 b40 c40 d40 e40 g40 j40 b41 c41 d41 e41 g41 j41 b42 c42 d42 e42 g42 j42 b43 c43 d43 e43 g43 j43 b44 c44 d44 e44 g44 j44 b45 c45 d45 e45 g45 j45 b46 c46 d46 e46 g46 j46 b47 c47 d47 e47 g47 j47 b48 c48 d48 e48 g48 j48 b49 c49 d49 e49 g49 j49 b50 c50 d50 e50 g50 j50 b51 c51 d51 e51 g51 j51 b52 c52 d52 e52 g52 j52 b53 c53 d53 e53 g53 j53 b54 c54 d54 e54 g54 j54 b55 c55 d55 e55 g55 j55 b56 c56 d56 e56 g56 j56 b57 c57 d57 e57 g57 j57 b58 c58 d58 e58 g58 j58 b59 c59 d59 e59 g59 j59 b60 c60 d60 e60 g60 j60 b61 c61 d61 e61 g61 j61 b62 c62 d62 e62 g62 j62 b63 c63 d63 e63 g63 j63 b64 c64 d64 e64 g64 j64:Value}{u0 v0 u1 v1 u2 v2 u3 v3 u4 v4 u5 v5 u6 v6 u7 v7 u8 v8 u9 v9 u10 v10 u11 v11 u12 v12 u13 v13 u14 v14 u15 v15 u16 v16 u17 v17 u18 v18 u19 v19 u20 v20 u21 v21 u22 v22 u23 v23 u24 v24 u25 v25 u26 v26 u27 v27 u28 v28 u29 v29 u30 v30 u31 v31 u32 v32 u33 v33 u34 v34 u35 v35 u36 v36 u37 v37 u38 v38 u39 v39 u40 v40 u41 v41 u42 v42 u43 v43 u44 v44 u45 v45 u46 v46 u47 v47 u48 v48 u49 v49 u50 v50 u51 v51 u52 v52 u53 v53 u54 v54 u55 v55 u56 v56 u57 v57 u58 v58 u59 v59 u60 v60 u61 v61 u62 v62 u63 v63 u64 v64:Option Addr}{w0 w1 w2 w3 w4 w5 w6 w7 w8 w9 w10 w11 w12 w13 w14 w15 w16 w17 w18 w19 w20 w21 w22 w23 w24 w25 w26 w27 w28 w29 w30 w31 w32 w33 w34 w35 w36 w37 w38 w39 w40 w41 w42 w43 w44 w45 w46 w47 w48 w49 w50 w51 w52 w53 w54 w55 w56 w57 w58 w59 w60 w61 w62 w63 w64:Array (Option Value)}
 (N0:NS K "Fractions" A0)
 (pg0:PySem.W.plainGet K A0 Str.empty=true)
 (hd0:PySem.W.hasDictIn K A0=true)
 (po0:PySem.W.plainOver K A0=true)
 (sa0:PySem.W.findIn K (.ref A0) "__setattr__"=some (some (.builtin "object.__setattr__")))
 (mk0:PySem.W.makesIn K A0=true)
 (kp0:KI K A0)
 (in0:PySem.W.findIn K (.ref A0) "__init__"=some (some (.builtin "object.__init__")))
 (N1:NS K "Residues" A1)
 (pg1:PySem.W.plainGet K A1 Str.empty=true)
 (hd1:PySem.W.hasDictIn K A1=true)
 (po1:PySem.W.plainOver K A1=true)
 (sa1:PySem.W.findIn K (.ref A1) "__setattr__"=some (some (.builtin "object.__setattr__")))
 (mk1:PySem.W.makesIn K A1=true)
 (kp1:KI K A1)
 (N2:NS K "Costs" A2)
 (pg2:PySem.W.plainGet K A2 Str.empty=true)
 (hd2:PySem.W.hasDictIn K A2=true)
 (po2:PySem.W.plainOver K A2=true)
 (sa2:PySem.W.findIn K (.ref A2) "__setattr__"=some (some (.builtin "object.__setattr__")))
 (mk2:PySem.W.makesIn K A2=true)
 (kp2:KI K A2)
 (in2:PySem.W.findIn K (.ref A2) "__init__"=some (some (.builtin "object.__init__")))
 (N3:NS K "Truths" A3)
 (pg3:PySem.W.plainGet K A3 Str.empty=true)
 (hd3:PySem.W.hasDictIn K A3=true)
 (po3:PySem.W.plainOver K A3=true)
 (sa3:PySem.W.findIn K (.ref A3) "__setattr__"=some (some (.builtin "object.__setattr__")))
 (mk3:PySem.W.makesIn K A3=true)
 (kp3:KI K A3)
 (in3:PySem.W.findIn K (.ref A3) "__init__"=some (some (.builtin "object.__init__")))
 (N4:NS K "WeighError" A4)
 (X4:ExcK K A4)
 (N5:NS K "Unlike" A5)
 (X5:ExcK K A5)
 (N6:NS K "NoClosure" A6)
 (X6:ExcK K A6)
 (N7:NS K "NoWord" A7)
 (X7:ExcK K A7)
 (N8:NS K "TooGreat" A8)
 (X8:ExcK K A8)
 (n0:NS K "is_whole" A9)
 (l0:HL K A9 b0 u0 (FD "is_whole" "is_whole" s_is_whole c0 d0 e0 v0 g0 j0) w0)
 (q0:PySem.W.codeIn K g0 "is_whole"=true)
 (k0:KI K A9)
 (n1:NS K "divisor" A10)
 (l1:HL K A10 b1 u1 (FD "divisor" "divisor" s_divisor c1 d1 e1 v1 g1 j1) w1)
 (q1:PySem.W.codeIn K g1 "divisor"=true)
 (k1:KI K A10)
 (n2:NS K "fraction" A11)
 (l2:HL K A11 b2 u2 (FD "fraction" "fraction" s_fraction c2 d2 e2 v2 g2 j2) w2)
 (q2:PySem.W.codeIn K g2 "fraction"=true)
 (k2:KI K A11)
 (n3:NS K "is_prime" A12)
 (l3:HL K A12 b3 u3 (FD "is_prime" "is_prime" s_is_prime c3 d3 e3 v3 g3 j3) w3)
 (q3:PySem.W.codeIn K g3 "is_prime"=true)
 (k3:KI K A12)
 (n4:PySem.W.findIn K (.ref A0) "nought"=some (some (.ref A13)))
 (i4:PySem.W.isFn K (.ref A13)=true)
 (l4:HL K A13 b4 u4 (FD "nought" "Fractions.nought" s_Fractions_nought c4 d4 e4 v4 g4 j4) w4)
 (q4:PySem.W.codeIn K g4 "Fractions.nought"=true)
 (k4:KI K A13)
 (n5:PySem.W.findIn K (.ref A0) "one"=some (some (.ref A14)))
 (i5:PySem.W.isFn K (.ref A14)=true)
 (l5:HL K A14 b5 u5 (FD "one" "Fractions.one" s_Fractions_one c5 d5 e5 v5 g5 j5) w5)
 (q5:PySem.W.codeIn K g5 "Fractions.one"=true)
 (k5:KI K A14)
 (n6:PySem.W.findIn K (.ref A0) "plus"=some (some (.ref A15)))
 (i6:PySem.W.isFn K (.ref A15)=true)
 (l6:HL K A15 b6 u6 (FD "plus" "Fractions.plus" s_Fractions_plus c6 d6 e6 v6 g6 j6) w6)
 (q6:PySem.W.codeIn K g6 "Fractions.plus"=true)
 (k6:KI K A15)
 (n7:PySem.W.findIn K (.ref A0) "times"=some (some (.ref A16)))
 (i7:PySem.W.isFn K (.ref A16)=true)
 (l7:HL K A16 b7 u7 (FD "times" "Fractions.times" s_Fractions_times c7 d7 e7 v7 g7 j7) w7)
 (q7:PySem.W.codeIn K g7 "Fractions.times"=true)
 (k7:KI K A16)
 (n8:PySem.W.findIn K (.ref A1) "__init__"=some (some (.ref A17)))
 (i8:PySem.W.isFn K (.ref A17)=true)
 (l8:HL K A17 b8 u8 (FD "__init__" "Residues.__init__" s_Residues___init__ c8 d8 e8 v8 g8 j8) w8)
 (q8:PySem.W.codeIn K g8 "Residues.__init__"=true)
 (k8:KI K A17)
 (n9:PySem.W.findIn K (.ref A1) "nought"=some (some (.ref A18)))
 (i9:PySem.W.isFn K (.ref A18)=true)
 (l9:HL K A18 b9 u9 (FD "nought" "Residues.nought" s_Residues_nought c9 d9 e9 v9 g9 j9) w9)
 (q9:PySem.W.codeIn K g9 "Residues.nought"=true)
 (k9:KI K A18)
 (n10:PySem.W.findIn K (.ref A1) "one"=some (some (.ref A19)))
 (i10:PySem.W.isFn K (.ref A19)=true)
 (l10:HL K A19 b10 u10 (FD "one" "Residues.one" s_Residues_one c10 d10 e10 v10 g10 j10) w10)
 (q10:PySem.W.codeIn K g10 "Residues.one"=true)
 (k10:KI K A19)
 (n11:PySem.W.findIn K (.ref A1) "plus"=some (some (.ref A20)))
 (i11:PySem.W.isFn K (.ref A20)=true)
 (l11:HL K A20 b11 u11 (FD "plus" "Residues.plus" s_Residues_plus c11 d11 e11 v11 g11 j11) w11)
 (q11:PySem.W.codeIn K g11 "Residues.plus"=true)
 (k11:KI K A20)
 (n12:PySem.W.findIn K (.ref A1) "times"=some (some (.ref A21)))
 (i12:PySem.W.isFn K (.ref A21)=true)
 (l12:HL K A21 b12 u12 (FD "times" "Residues.times" s_Residues_times c12 d12 e12 v12 g12 j12) w12)
 (q12:PySem.W.codeIn K g12 "Residues.times"=true)
 (k12:KI K A21)
 (n13:PySem.W.findIn K (.ref A2) "nought"=some (some (.ref A22)))
 (i13:PySem.W.isFn K (.ref A22)=true)
 (l13:HL K A22 b13 u13 (FD "nought" "Costs.nought" s_Costs_nought c13 d13 e13 v13 g13 j13) w13)
 (q13:PySem.W.codeIn K g13 "Costs.nought"=true)
 (k13:KI K A22)
 (n14:PySem.W.findIn K (.ref A2) "one"=some (some (.ref A23)))
 (i14:PySem.W.isFn K (.ref A23)=true)
 (l14:HL K A23 b14 u14 (FD "one" "Costs.one" s_Costs_one c14 d14 e14 v14 g14 j14) w14)
 (q14:PySem.W.codeIn K g14 "Costs.one"=true)
 (k14:KI K A23)
 (n15:PySem.W.findIn K (.ref A2) "plus"=some (some (.ref A24)))
 (i15:PySem.W.isFn K (.ref A24)=true)
 (l15:HL K A24 b15 u15 (FD "plus" "Costs.plus" s_Costs_plus c15 d15 e15 v15 g15 j15) w15)
 (q15:PySem.W.codeIn K g15 "Costs.plus"=true)
 (k15:KI K A24)
 (n16:PySem.W.findIn K (.ref A2) "times"=some (some (.ref A25)))
 (i16:PySem.W.isFn K (.ref A25)=true)
 (l16:HL K A25 b16 u16 (FD "times" "Costs.times" s_Costs_times c16 d16 e16 v16 g16 j16) w16)
 (q16:PySem.W.codeIn K g16 "Costs.times"=true)
 (k16:KI K A25)
 (n17:PySem.W.findIn K (.ref A3) "nought"=some (some (.ref A26)))
 (i17:PySem.W.isFn K (.ref A26)=true)
 (l17:HL K A26 b17 u17 (FD "nought" "Truths.nought" s_Truths_nought c17 d17 e17 v17 g17 j17) w17)
 (q17:PySem.W.codeIn K g17 "Truths.nought"=true)
 (k17:KI K A26)
 (n18:PySem.W.findIn K (.ref A3) "one"=some (some (.ref A27)))
 (i18:PySem.W.isFn K (.ref A27)=true)
 (l18:HL K A27 b18 u18 (FD "one" "Truths.one" s_Truths_one c18 d18 e18 v18 g18 j18) w18)
 (q18:PySem.W.codeIn K g18 "Truths.one"=true)
 (k18:KI K A27)
 (n19:PySem.W.findIn K (.ref A3) "plus"=some (some (.ref A28)))
 (i19:PySem.W.isFn K (.ref A28)=true)
 (l19:HL K A28 b19 u19 (FD "plus" "Truths.plus" s_Truths_plus c19 d19 e19 v19 g19 j19) w19)
 (q19:PySem.W.codeIn K g19 "Truths.plus"=true)
 (k19:KI K A28)
 (n20:PySem.W.findIn K (.ref A3) "times"=some (some (.ref A29)))
 (i20:PySem.W.isFn K (.ref A29)=true)
 (l20:HL K A29 b20 u20 (FD "times" "Truths.times" s_Truths_times c20 d20 e20 v20 g20 j20) w20)
 (q20:PySem.W.codeIn K g20 "Truths.times"=true)
 (k20:KI K A29)
 (n21:NS K "noughts" A30)
 (l21:HL K A30 b21 u21 (FD "noughts" "noughts" s_noughts c21 d21 e21 v21 g21 j21) w21)
 (q21:PySem.W.codeIn K g21 "noughts"=true)
 (k21:KI K A30)
 (n22:NS K "unit" A31)
 (l22:HL K A31 b22 u22 (FD "unit" "unit" s_unit c22 d22 e22 v22 g22 j22) w22)
 (q22:PySem.W.codeIn K g22 "unit"=true)
 (k22:KI K A31)
 (n23:NS K "times_row" A32)
 (l23:HL K A32 b23 u23 (FD "times_row" "times_row" s_times_row c23 d23 e23 v23 g23 j23) w23)
 (q23:PySem.W.codeIn K g23 "times_row"=true)
 (k23:KI K A32)
 (n24:NS K "column_at" A33)
 (l24:HL K A33 b24 u24 (FD "column_at" "column_at" s_column_at c24 d24 e24 v24 g24 j24) w24)
 (q24:PySem.W.codeIn K g24 "column_at"=true)
 (k24:KI K A33)
 (n25:NS K "columns_of" A34)
 (l25:HL K A34 b25 u25 (FD "columns_of" "columns_of" s_columns_of c25 d25 e25 v25 g25 j25) w25)
 (q25:PySem.W.codeIn K g25 "columns_of"=true)
 (k25:KI K A34)
 (n26:NS K "dot" A35)
 (l26:HL K A35 b26 u26 (FD "dot" "dot" s_dot c26 d26 e26 v26 g26 j26) w26)
 (q26:PySem.W.codeIn K g26 "dot"=true)
 (k26:KI K A35)
 (n27:NS K "row_by" A36)
 (l27:HL K A36 b27 u27 (FD "row_by" "row_by" s_row_by c27 d27 e27 v27 g27 j27) w27)
 (q27:PySem.W.codeIn K g27 "row_by"=true)
 (k27:KI K A36)
 (n28:NS K "by_column" A37)
 (l28:HL K A37 b28 u28 (FD "by_column" "by_column" s_by_column c28 d28 e28 v28 g28 j28) w28)
 (q28:PySem.W.codeIn K g28 "by_column"=true)
 (k28:KI K A37)
 (n29:NS K "is_word" A38)
 (l29:HL K A38 b29 u29 (FD "is_word" "is_word" s_is_word c29 d29 e29 v29 g29 j29) w29)
 (q29:PySem.W.codeIn K g29 "is_word"=true)
 (k29:KI K A38)
 (n30:NS K "need_word" A39)
 (l30:HL K A39 b30 u30 (FD "need_word" "need_word" s_need_word c30 d30 e30 v30 g30 j30) w30)
 (q30:PySem.W.codeIn K g30 "need_word"=true)
 (k30:KI K A39)
 (n31:NS K "rooms" A40)
 (l31:HL K A40 b31 u31 (FD "rooms" "rooms" s_rooms c31 d31 e31 v31 g31 j31) w31)
 (q31:PySem.W.codeIn K g31 "rooms"=true)
 (k31:KI K A40)
 (n32:NS K "table_of" A41)
 (l32:HL K A41 b32 u32 (FD "table_of" "table_of" s_table_of c32 d32 e32 v32 g32 j32) w32)
 (q32:PySem.W.codeIn K g32 "table_of"=true)
 (k32:KI K A41)
 (n33:NS K "ahead" A42)
 (l33:HL K A42 b33 u33 (FD "ahead" "ahead" s_ahead c33 d33 e33 v33 g33 j33) w33)
 (q33:PySem.W.codeIn K g33 "ahead"=true)
 (k33:KI K A42)
 (n34:NS K "weight" A43)
 (l34:HL K A43 b34 u34 (FD "weight" "weight" s_weight c34 d34 e34 v34 g34 j34) w34)
 (q34:PySem.W.codeIn K g34 "weight"=true)
 (k34:KI K A43)
 (n35:NS K "need_same_letters" A44)
 (l35:HL K A44 b35 u35 (FD "need_same_letters" "need_same_letters" s_need_same_letters c35 d35 e35 v35 g35 j35) w35)
 (q35:PySem.W.codeIn K g35 "need_same_letters"=true)
 (k35:KI K A44)
 (n36:NS K "need_few_rooms" A45)
 (l36:HL K A45 b36 u36 (FD "need_few_rooms" "need_few_rooms" s_need_few_rooms c36 d36 e36 v36 g36 j36) w36)
 (q36:PySem.W.codeIn K g36 "need_few_rooms"=true)
 (k36:KI K A45)
 (n37:NS K "beside" A46)
 (l37:HL K A46 b37 u37 (FD "beside" "beside" s_beside c37 d37 e37 v37 g37 j37) w37)
 (q37:PySem.W.codeIn K g37 "beside"=true)
 (k37:KI K A46)
 (n38:NS K "put_beside" A47)
 (l38:HL K A47 b38 u38 (FD "put_beside" "put_beside" s_put_beside c38 d38 e38 v38 g38 j38) w38)
 (q38:PySem.W.codeIn K g38 "put_beside"=true)
 (k38:KI K A47)
 (n39:NS K "added" A48)
 (l39:HL K A48 b39 u39 (FD "added" "added" s_added c39 d39 e39 v39 g39 j39) w39)
 (q39:PySem.W.codeIn K g39 "added"=true)
 (k39:KI K A48)
 (n40:NS K "outer" A49)
 (l40:HL K A49 b40 u40 (FD "outer" "outer" s_outer c40 d40 e40 v40 g40 j40) w40)
 (q40:PySem.W.codeIn K g40 "outer"=true)
 (k40:KI K A49)
 (n41:NS K "joined" A50)
 (l41:HL K A50 b41 u41 (FD "joined" "joined" s_joined c41 d41 e41 v41 g41 j41) w41)
 (q41:PySem.W.codeIn K g41 "joined"=true)
 (k41:KI K A50)
 (n42:NS K "cross_row" A51)
 (l42:HL K A51 b42 u42 (FD "cross_row" "cross_row" s_cross_row c42 d42 e42 v42 g42 j42) w42)
 (q42:PySem.W.codeIn K g42 "cross_row"=true)
 (k42:KI K A51)
 (n43:NS K "cross_table" A52)
 (l43:HL K A52 b43 u43 (FD "cross_table" "cross_table" s_cross_table c43 d43 e43 v43 g43 j43) w43)
 (q43:PySem.W.codeIn K g43 "cross_table"=true)
 (k43:KI K A52)
 (n44:NS K "crossed" A53)
 (l44:HL K A53 b44 u44 (FD "crossed" "crossed" s_crossed c44 d44 e44 v44 g44 j44) w44)
 (q44:PySem.W.codeIn K g44 "crossed"=true)
 (k44:KI K A53)
 (n45:NS K "closed_table" A54)
 (l45:HL K A54 b45 u45 (FD "closed_table" "closed_table" s_closed_table c45 d45 e45 v45 g45 j45) w45)
 (q45:PySem.W.codeIn K g45 "closed_table"=true)
 (k45:KI K A54)
 (n46:NS K "need_closable" A55)
 (l46:HL K A55 b46 u46 (FD "need_closable" "need_closable" s_need_closable c46 d46 e46 v46 g46 j46) w46)
 (q46:PySem.W.codeIn K g46 "need_closable"=true)
 (k46:KI K A55)
 (n47:NS K "closed" A56)
 (l47:HL K A56 b47 u47 (FD "closed" "closed" s_closed c47 d47 e47 v47 g47 j47) w47)
 (q47:PySem.W.codeIn K g47 "closed"=true)
 (k47:KI K A56)
 (n48:NS K "single_row" A57)
 (l48:HL K A57 b48 u48 (FD "single_row" "single_row" s_single_row c48 d48 e48 v48 g48 j48) w48)
 (q48:PySem.W.codeIn K g48 "single_row"=true)
 (k48:KI K A57)
 (n49:NS K "single" A58)
 (l49:HL K A58 b49 u49 (FD "single" "single" s_single c49 d49 e49 v49 g49 j49) w49)
 (q49:PySem.W.codeIn K g49 "single"=true)
 (k49:KI K A58)
 (n50:NS K "_law_next" A59)
 (l50:HL K A59 b50 u50 (FD "_law_next" "_law_next" s_law_next c50 d50 e50 v50 g50 j50) w50)
 (q50:PySem.W.codeIn K g50 "_law_next"=true)
 (k50:KI K A59)
 (n51:NS K "_law_state" A60)
 (l51:HL K A60 b51 u51 (FD "_law_state" "_law_state" s_law_state c51 d51 e51 v51 g51 j51) w51)
 (q51:PySem.W.codeIn K g51 "_law_state"=true)
 (k51:KI K A60)
 (n52:NS K "_law_nought" A61)
 (l52:HL K A61 b52 u52 (FD "_law_nought" "_law_nought" s_law_nought c52 d52 e52 v52 g52 j52) w52)
 (q52:PySem.W.codeIn K g52 "_law_nought"=true)
 (k52:KI K A61)
 (n53:NS K "_law_one" A62)
 (l53:HL K A62 b53 u53 (FD "_law_one" "_law_one" s_law_one c53 d53 e53 v53 g53 j53) w53)
 (q53:PySem.W.codeIn K g53 "_law_one"=true)
 (k53:KI K A62)
 (n54:NS K "_law_sort" A63)
 (l54:HL K A63 b54 u54 (FD "_law_sort" "_law_sort" s_law_sort c54 d54 e54 v54 g54 j54) w54)
 (q54:PySem.W.codeIn K g54 "_law_sort"=true)
 (k54:KI K A63)
 (n55:NS K "_law_kind" A64)
 (l55:HL K A64 b55 u55 (FD "_law_kind" "_law_kind" s_law_kind c55 d55 e55 v55 g55 j55) w55)
 (q55:PySem.W.codeIn K g55 "_law_kind"=true)
 (k55:KI K A64)
 (n56:NS K "_law_letters" A65)
 (l56:HL K A65 b56 u56 (FD "_law_letters" "_law_letters" s_law_letters c56 d56 e56 v56 g56 j56) w56)
 (q56:PySem.W.codeIn K g56 "_law_letters"=true)
 (k56:KI K A65)
 (n57:NS K "_law_machine" A66)
 (l57:HL K A66 b57 u57 (FD "_law_machine" "_law_machine" s_law_machine c57 d57 e57 v57 g57 j57) w57)
 (q57:PySem.W.codeIn K g57 "_law_machine"=true)
 (k57:KI K A66)
 (n58:NS K "_law_other" A67)
 (l58:HL K A67 b58 u58 (FD "_law_other" "_law_other" s_law_other c58 d58 e58 v58 g58 j58) w58)
 (q58:PySem.W.codeIn K g58 "_law_other"=true)
 (k58:KI K A67)
 (n59:NS K "_law_made" A68)
 (l59:HL K A68 b59 u59 (FD "_law_made" "_law_made" s_law_made c59 d59 e59 v59 g59 j59) w59)
 (q59:PySem.W.codeIn K g59 "_law_made"=true)
 (k59:KI K A68)
 (n60:NS K "_law_refused" A69)
 (l60:HL K A69 b60 u60 (FD "_law_refused" "_law_refused" s_law_refused c60 d60 e60 v60 g60 j60) w60)
 (q60:PySem.W.codeIn K g60 "_law_refused"=true)
 (k60:KI K A69)
 (n61:NS K "_law_two" A70)
 (l61:HL K A70 b61 u61 (FD "_law_two" "_law_two" s_law_two c61 d61 e61 v61 g61 j61) w61)
 (q61:PySem.W.codeIn K g61 "_law_two"=true)
 (k61:KI K A70)
 (n62:NS K "_law_one_more" A71)
 (l62:HL K A71 b62 u62 (FD "_law_one_more" "_law_one_more" s_law_one_more c62 d62 e62 v62 g62 j62) w62)
 (q62:PySem.W.codeIn K g62 "_law_one_more"=true)
 (k62:KI K A71)
 (n63:NS K "_law_words_made" A72)
 (l63:HL K A72 b63 u63 (FD "_law_words_made" "_law_words_made" s_law_words_made c63 d63 e63 v63 g63 j63) w63)
 (q63:PySem.W.codeIn K g63 "_law_words_made"=true)
 (k63:KI K A72)
 (n64:NS K "law" A73)
 (l64:HL K A73 b64 u64 (FD "law" "law" s_law c64 d64 e64 v64 g64 j64) w64)
 (q64:PySem.W.codeIn K g64 "law"=true)
 (k64:KI K A73)
 (z_isinstance:PySem.W.nsIn K mainGlobals "isinstance"=some none)
 (z_int:PySem.W.nsIn K mainGlobals "int"=some none)
 (z_bool:PySem.W.nsIn K mainGlobals "bool"=some none)
 (z_abs:PySem.W.nsIn K mainGlobals "abs"=some none)
 {tk_c_GREATEST_PRIME:Tok}
 (c_GREATEST_PRIME:PySem.W.nsIn K mainGlobals "GREATEST_PRIME"=some (some (.int 1000000 tk_c_GREATEST_PRIME)))
 (z_min:PySem.W.nsIn K mainGlobals "min"=some none)
 (z_tuple:PySem.W.nsIn K mainGlobals "tuple"=some none)
 (z_range:PySem.W.nsIn K mainGlobals "range"=some none)
 (z_len:PySem.W.nsIn K mainGlobals "len"=some none)
 (z_zip:PySem.W.nsIn K mainGlobals "zip"=some none)
 (z_str:PySem.W.nsIn K mainGlobals "str"=some none)
 (z_all:PySem.W.nsIn K mainGlobals "all"=some none)
 {tk_c_MOST_ROOMS:Tok}
 (c_MOST_ROOMS:PySem.W.nsIn K mainGlobals "MOST_ROOMS"=some (some (.int 20 tk_c_MOST_ROOMS)))
 (z_ValueError:PySem.W.nsIn K mainGlobals "ValueError"=some none)
 (k_ii:PySem.W.kitOne K (.type "int") (.type "int")=some true)
 (k_ib:PySem.W.kitOne K (.type "int") (.type "bool")=some false)
 (nP:PySem.W.findIn K (.ref A1) "prime"=some none)
 (k_ss:PySem.W.kitOne K (.type "str") (.type "str")=some true)
 (k_ns:PySem.W.kitOne K (.type "NoneType") (.type "str")=some false)
 (k_ls:PySem.W.kitOne K (.type "list") (.type "str")=some false)
 (k_is:PySem.W.kitOne K (.type "int") (.type "str")=some false)
 (k_ts:PySem.W.kitOne K (.type "tuple") (.type "str")=some false)
 (eU:PySem.W.exmOne K (.ref A5) (.ref A4)=some true)
 (vU:PySem.W.kitOne K (.ref A5) (.type "ValueError")=some true)
 (kUU:PySem.W.kitOne K (.ref A5) (.ref A5)=some true)
 (kUC:PySem.W.kitOne K (.ref A5) (.ref A6)=some false)
 (kUW:PySem.W.kitOne K (.ref A5) (.ref A7)=some false)
 (kUG:PySem.W.kitOne K (.ref A5) (.ref A8)=some false)
 (eC:PySem.W.exmOne K (.ref A6) (.ref A4)=some true)
 (vC:PySem.W.kitOne K (.ref A6) (.type "ValueError")=some true)
 (kCU:PySem.W.kitOne K (.ref A6) (.ref A5)=some false)
 (kCC:PySem.W.kitOne K (.ref A6) (.ref A6)=some true)
 (kCW:PySem.W.kitOne K (.ref A6) (.ref A7)=some false)
 (kCG:PySem.W.kitOne K (.ref A6) (.ref A8)=some false)
 (eW:PySem.W.exmOne K (.ref A7) (.ref A4)=some true)
 (vW:PySem.W.kitOne K (.ref A7) (.type "ValueError")=some true)
 (kWU:PySem.W.kitOne K (.ref A7) (.ref A5)=some false)
 (kWC:PySem.W.kitOne K (.ref A7) (.ref A6)=some false)
 (kWW:PySem.W.kitOne K (.ref A7) (.ref A7)=some true)
 (kWG:PySem.W.kitOne K (.ref A7) (.ref A8)=some false)
 (eG:PySem.W.exmOne K (.ref A8) (.ref A4)=some true)
 (vG:PySem.W.kitOne K (.ref A8) (.type "ValueError")=some true)
 (kGU:PySem.W.kitOne K (.ref A8) (.ref A5)=some false)
 (kGC:PySem.W.kitOne K (.ref A8) (.ref A6)=some false)
 (kGW:PySem.W.kitOne K (.ref A8) (.ref A7)=some false)
 (kGG:PySem.W.kitOne K (.ref A8) (.ref A8)=some true)
 : ∃t:Adr,Txt K mg t:=
 ⟨{ is_whole:=A9,d_is_whole:=FD "is_whole" "is_whole" s_is_whole c0 d0 e0 v0 g0 j0,divisor:=A10,d_divisor:=FD "divisor" "divisor" s_divisor c1 d1 e1 v1 g1 j1,fraction:=A11,d_fraction:=FD "fraction" "fraction" s_fraction c2 d2 e2 v2 g2 j2,is_prime:=A12,d_is_prime:=FD "is_prime" "is_prime" s_is_prime c3 d3 e3 v3 g3 j3,Fractions_nought:=A13,d_Fractions_nought:=FD "nought" "Fractions.nought" s_Fractions_nought c4 d4 e4 v4 g4 j4,Fractions_one:=A14,d_Fractions_one:=FD "one" "Fractions.one" s_Fractions_one c5 d5 e5 v5 g5 j5,Fractions_plus:=A15,d_Fractions_plus:=FD "plus" "Fractions.plus" s_Fractions_plus c6 d6 e6 v6 g6 j6,Fractions_times:=A16,d_Fractions_times:=FD "times" "Fractions.times" s_Fractions_times c7 d7 e7 v7 g7 j7,Residues___init__:=A17,d_Residues___init__:=FD "__init__" "Residues.__init__" s_Residues___init__ c8 d8 e8 v8 g8 j8,Residues_nought:=A18,d_Residues_nought:=FD "nought" "Residues.nought" s_Residues_nought c9 d9 e9 v9 g9 j9,Residues_one:=A19,d_Residues_one:=FD "one" "Residues.one" s_Residues_one c10 d10 e10 v10 g10 j10,Residues_plus:=A20,d_Residues_plus:=FD "plus" "Residues.plus" s_Residues_plus c11 d11 e11 v11 g11 j11,Residues_times:=A21,d_Residues_times:=FD "times" "Residues.times" s_Residues_times c12 d12 e12 v12 g12 j12,Costs_nought:=A22,d_Costs_nought:=FD "nought" "Costs.nought" s_Costs_nought c13 d13 e13 v13 g13 j13,Costs_one:=A23,d_Costs_one:=FD "one" "Costs.one" s_Costs_one c14 d14 e14 v14 g14 j14,Costs_plus:=A24,d_Costs_plus:=FD "plus" "Costs.plus" s_Costs_plus c15 d15 e15 v15 g15 j15,Costs_times:=A25,d_Costs_times:=FD "times" "Costs.times" s_Costs_times c16 d16 e16 v16 g16 j16,Truths_nought:=A26,d_Truths_nought:=FD "nought" "Truths.nought" s_Truths_nought c17 d17 e17 v17 g17 j17,Truths_one:=A27,d_Truths_one:=FD "one" "Truths.one" s_Truths_one c18 d18 e18 v18 g18 j18,Truths_plus:=A28,d_Truths_plus:=FD "plus" "Truths.plus" s_Truths_plus c19 d19 e19 v19 g19 j19,Truths_times:=A29,d_Truths_times:=FD "times" "Truths.times" s_Truths_times c20 d20 e20 v20 g20 j20,noughts:=A30,d_noughts:=FD "noughts" "noughts" s_noughts c21 d21 e21 v21 g21 j21,unit:=A31,d_unit:=FD "unit" "unit" s_unit c22 d22 e22 v22 g22 j22,times_row:=A32,d_times_row:=FD "times_row" "times_row" s_times_row c23 d23 e23 v23 g23 j23,column_at:=A33,d_column_at:=FD "column_at" "column_at" s_column_at c24 d24 e24 v24 g24 j24,columns_of:=A34,d_columns_of:=FD "columns_of" "columns_of" s_columns_of c25 d25 e25 v25 g25 j25,dot:=A35,d_dot:=FD "dot" "dot" s_dot c26 d26 e26 v26 g26 j26,row_by:=A36,d_row_by:=FD "row_by" "row_by" s_row_by c27 d27 e27 v27 g27 j27,by_column:=A37,d_by_column:=FD "by_column" "by_column" s_by_column c28 d28 e28 v28 g28 j28,is_word:=A38,d_is_word:=FD "is_word" "is_word" s_is_word c29 d29 e29 v29 g29 j29,need_word:=A39,d_need_word:=FD "need_word" "need_word" s_need_word c30 d30 e30 v30 g30 j30,rooms:=A40,d_rooms:=FD "rooms" "rooms" s_rooms c31 d31 e31 v31 g31 j31,table_of:=A41,d_table_of:=FD "table_of" "table_of" s_table_of c32 d32 e32 v32 g32 j32,ahead:=A42,d_ahead:=FD "ahead" "ahead" s_ahead c33 d33 e33 v33 g33 j33,weight:=A43,d_weight:=FD "weight" "weight" s_weight c34 d34 e34 v34 g34 j34,need_same_letters:=A44,d_need_same_letters:=FD "need_same_letters" "need_same_letters" s_need_same_letters c35 d35 e35 v35 g35 j35,need_few_rooms:=A45,d_need_few_rooms:=FD "need_few_rooms" "need_few_rooms" s_need_few_rooms c36 d36 e36 v36 g36 j36,beside:=A46,d_beside:=FD "beside" "beside" s_beside c37 d37 e37 v37 g37 j37,put_beside:=A47,d_put_beside:=FD "put_beside" "put_beside" s_put_beside c38 d38 e38 v38 g38 j38,added:=A48,d_added:=FD "added" "added" s_added c39 d39 e39 v39 g39 j39,outer:=A49,d_outer:=FD "outer" "outer" s_outer c40 d40 e40 v40 g40 j40,joined:=A50,d_joined:=FD "joined" "joined" s_joined c41 d41 e41 v41 g41 j41,cross_row:=A51,d_cross_row:=FD "cross_row" "cross_row" s_cross_row c42 d42 e42 v42 g42 j42,cross_table:=A52,d_cross_table:=FD "cross_table" "cross_table" s_cross_table c43 d43 e43 v43 g43 j43,crossed:=A53,d_crossed:=FD "crossed" "crossed" s_crossed c44 d44 e44 v44 g44 j44,closed_table:=A54,d_closed_table:=FD "closed_table" "closed_table" s_closed_table c45 d45 e45 v45 g45 j45,need_closable:=A55,d_need_closable:=FD "need_closable" "need_closable" s_need_closable c46 d46 e46 v46 g46 j46,closed:=A56,d_closed:=FD "closed" "closed" s_closed c47 d47 e47 v47 g47 j47,single_row:=A57,d_single_row:=FD "single_row" "single_row" s_single_row c48 d48 e48 v48 g48 j48,single:=A58,d_single:=FD "single" "single" s_single c49 d49 e49 v49 g49 j49,law_next:=A59,d_law_next:=FD "_law_next" "_law_next" s_law_next c50 d50 e50 v50 g50 j50,law_state:=A60,d_law_state:=FD "_law_state" "_law_state" s_law_state c51 d51 e51 v51 g51 j51,law_nought:=A61,d_law_nought:=FD "_law_nought" "_law_nought" s_law_nought c52 d52 e52 v52 g52 j52,law_one:=A62,d_law_one:=FD "_law_one" "_law_one" s_law_one c53 d53 e53 v53 g53 j53,law_sort:=A63,d_law_sort:=FD "_law_sort" "_law_sort" s_law_sort c54 d54 e54 v54 g54 j54,law_kind:=A64,d_law_kind:=FD "_law_kind" "_law_kind" s_law_kind c55 d55 e55 v55 g55 j55,law_letters:=A65,d_law_letters:=FD "_law_letters" "_law_letters" s_law_letters c56 d56 e56 v56 g56 j56,law_machine:=A66,d_law_machine:=FD "_law_machine" "_law_machine" s_law_machine c57 d57 e57 v57 g57 j57,law_other:=A67,d_law_other:=FD "_law_other" "_law_other" s_law_other c58 d58 e58 v58 g58 j58,law_made:=A68,d_law_made:=FD "_law_made" "_law_made" s_law_made c59 d59 e59 v59 g59 j59,law_refused:=A69,d_law_refused:=FD "_law_refused" "_law_refused" s_law_refused c60 d60 e60 v60 g60 j60,law_two:=A70,d_law_two:=FD "_law_two" "_law_two" s_law_two c61 d61 e61 v61 g61 j61,law_one_more:=A71,d_law_one_more:=FD "_law_one_more" "_law_one_more" s_law_one_more c62 d62 e62 v62 g62 j62,law_words_made:=A72,d_law_words_made:=FD "_law_words_made" "_law_words_made" s_law_words_made c63 d63 e63 v63 g63 j63,law:=A73,d_law:=FD "law" "law" s_law c64 d64 e64 v64 g64 j64,Fractions:=A0,Residues:=A1,Costs:=A2,Truths:=A3,WeighError:=A4,Unlike:=A5,NoClosure:=A6,NoWord:=A7,TooGreat:=A8 },
   { F_is_whole:=fun_mk (st:=s_is_whole) l0 q0 k0,
     b_is_whole:=(fun_mk (st:=s_is_whole) l0 q0 k0).binds (ps:=["thing"]) fun _ _ _ _ _ _ us hl=>match us,hl with | [_],_=>rfl,
     m_is_whole:=PySem.W.mg_of X G n0,
     F_divisor:=fun_mk (st:=s_divisor) l1 q1 k1,
     b_divisor:=(fun_mk (st:=s_divisor) l1 q1 k1).binds (ps:=["one","other"]) fun _ _ _ _ _ _ us hl=>match us,hl with | [_,_],_=>rfl,
     m_divisor:=PySem.W.mg_of X G n1,
     F_fraction:=fun_mk (st:=s_fraction) l2 q2 k2,
     b_fraction:=(fun_mk (st:=s_fraction) l2 q2 k2).binds (ps:=["top","bottom"]) fun _ _ _ _ _ _ us hl=>match us,hl with | [_,_],_=>rfl,
     m_fraction:=PySem.W.mg_of X G n2,
     F_is_prime:=fun_mk (st:=s_is_prime) l3 q3 k3,
     b_is_prime:=(fun_mk (st:=s_is_prime) l3 q3 k3).binds (ps:=["number"]) fun _ _ _ _ _ _ us hl=>match us,hl with | [_],_=>rfl,
     m_is_prime:=PySem.W.mg_of X G n3,
     F_Fractions_nought:=fun_mk (st:=s_Fractions_nought) l4 q4 k4,
     b_Fractions_nought:=(fun_mk (st:=s_Fractions_nought) l4 q4 k4).binds (ps:=["self"]) fun _ _ _ _ _ _ us hl=>match us,hl with | [_],_=>rfl,
     t_Fractions_nought:=⟨n4,i4,k4⟩,
     F_Fractions_one:=fun_mk (st:=s_Fractions_one) l5 q5 k5,
     b_Fractions_one:=(fun_mk (st:=s_Fractions_one) l5 q5 k5).binds (ps:=["self"]) fun _ _ _ _ _ _ us hl=>match us,hl with | [_],_=>rfl,
     t_Fractions_one:=⟨n5,i5,k5⟩,
     F_Fractions_plus:=fun_mk (st:=s_Fractions_plus) l6 q6 k6,
     b_Fractions_plus:=(fun_mk (st:=s_Fractions_plus) l6 q6 k6).binds (ps:=["self","x","y"]) fun _ _ _ _ _ _ us hl=>match us,hl with | [_,_,_],_=>rfl,
     t_Fractions_plus:=⟨n6,i6,k6⟩,
     F_Fractions_times:=fun_mk (st:=s_Fractions_times) l7 q7 k7,
     b_Fractions_times:=(fun_mk (st:=s_Fractions_times) l7 q7 k7).binds (ps:=["self","x","y"]) fun _ _ _ _ _ _ us hl=>match us,hl with | [_,_,_],_=>rfl,
     t_Fractions_times:=⟨n7,i7,k7⟩,
     F_Residues___init__:=fun_mk (st:=s_Residues___init__) l8 q8 k8,
     b_Residues___init__:=(fun_mk (st:=s_Residues___init__) l8 q8 k8).binds (ps:=["self","prime"]) fun _ _ _ _ _ _ us hl=>match us,hl with | [_,_],_=>rfl,
     t_Residues___init__:=⟨n8,i8,k8⟩,
     F_Residues_nought:=fun_mk (st:=s_Residues_nought) l9 q9 k9,
     b_Residues_nought:=(fun_mk (st:=s_Residues_nought) l9 q9 k9).binds (ps:=["self"]) fun _ _ _ _ _ _ us hl=>match us,hl with | [_],_=>rfl,
     t_Residues_nought:=⟨n9,i9,k9⟩,
     F_Residues_one:=fun_mk (st:=s_Residues_one) l10 q10 k10,
     b_Residues_one:=(fun_mk (st:=s_Residues_one) l10 q10 k10).binds (ps:=["self"]) fun _ _ _ _ _ _ us hl=>match us,hl with | [_],_=>rfl,
     t_Residues_one:=⟨n10,i10,k10⟩,
     F_Residues_plus:=fun_mk (st:=s_Residues_plus) l11 q11 k11,
     b_Residues_plus:=(fun_mk (st:=s_Residues_plus) l11 q11 k11).binds (ps:=["self","x","y"]) fun _ _ _ _ _ _ us hl=>match us,hl with | [_,_,_],_=>rfl,
     t_Residues_plus:=⟨n11,i11,k11⟩,
     F_Residues_times:=fun_mk (st:=s_Residues_times) l12 q12 k12,
     b_Residues_times:=(fun_mk (st:=s_Residues_times) l12 q12 k12).binds (ps:=["self","x","y"]) fun _ _ _ _ _ _ us hl=>match us,hl with | [_,_,_],_=>rfl,
     t_Residues_times:=⟨n12,i12,k12⟩,
     F_Costs_nought:=fun_mk (st:=s_Costs_nought) l13 q13 k13,
     b_Costs_nought:=(fun_mk (st:=s_Costs_nought) l13 q13 k13).binds (ps:=["self"]) fun _ _ _ _ _ _ us hl=>match us,hl with | [_],_=>rfl,
     t_Costs_nought:=⟨n13,i13,k13⟩,
     F_Costs_one:=fun_mk (st:=s_Costs_one) l14 q14 k14,
     b_Costs_one:=(fun_mk (st:=s_Costs_one) l14 q14 k14).binds (ps:=["self"]) fun _ _ _ _ _ _ us hl=>match us,hl with | [_],_=>rfl,
     t_Costs_one:=⟨n14,i14,k14⟩,
     F_Costs_plus:=fun_mk (st:=s_Costs_plus) l15 q15 k15,
     b_Costs_plus:=(fun_mk (st:=s_Costs_plus) l15 q15 k15).binds (ps:=["self","x","y"]) fun _ _ _ _ _ _ us hl=>match us,hl with | [_,_,_],_=>rfl,
     t_Costs_plus:=⟨n15,i15,k15⟩,
     F_Costs_times:=fun_mk (st:=s_Costs_times) l16 q16 k16,
     b_Costs_times:=(fun_mk (st:=s_Costs_times) l16 q16 k16).binds (ps:=["self","x","y"]) fun _ _ _ _ _ _ us hl=>match us,hl with | [_,_,_],_=>rfl,
     t_Costs_times:=⟨n16,i16,k16⟩,
     F_Truths_nought:=fun_mk (st:=s_Truths_nought) l17 q17 k17,
     b_Truths_nought:=(fun_mk (st:=s_Truths_nought) l17 q17 k17).binds (ps:=["self"]) fun _ _ _ _ _ _ us hl=>match us,hl with | [_],_=>rfl,
     t_Truths_nought:=⟨n17,i17,k17⟩,
     F_Truths_one:=fun_mk (st:=s_Truths_one) l18 q18 k18,
     b_Truths_one:=(fun_mk (st:=s_Truths_one) l18 q18 k18).binds (ps:=["self"]) fun _ _ _ _ _ _ us hl=>match us,hl with | [_],_=>rfl,
     t_Truths_one:=⟨n18,i18,k18⟩,
     F_Truths_plus:=fun_mk (st:=s_Truths_plus) l19 q19 k19,
     b_Truths_plus:=(fun_mk (st:=s_Truths_plus) l19 q19 k19).binds (ps:=["self","x","y"]) fun _ _ _ _ _ _ us hl=>match us,hl with | [_,_,_],_=>rfl,
     t_Truths_plus:=⟨n19,i19,k19⟩,
     F_Truths_times:=fun_mk (st:=s_Truths_times) l20 q20 k20,
     b_Truths_times:=(fun_mk (st:=s_Truths_times) l20 q20 k20).binds (ps:=["self","x","y"]) fun _ _ _ _ _ _ us hl=>match us,hl with | [_,_,_],_=>rfl,
     t_Truths_times:=⟨n20,i20,k20⟩,
     F_noughts:=fun_mk (st:=s_noughts) l21 q21 k21,
     b_noughts:=(fun_mk (st:=s_noughts) l21 q21 k21).binds (ps:=["kind","size"]) fun _ _ _ _ _ _ us hl=>match us,hl with | [_,_],_=>rfl,
     m_noughts:=PySem.W.mg_of X G n21,
     F_unit:=fun_mk (st:=s_unit) l22 q22 k22,
     b_unit:=(fun_mk (st:=s_unit) l22 q22 k22).binds (ps:=["kind","size","place"]) fun _ _ _ _ _ _ us hl=>match us,hl with | [_,_,_],_=>rfl,
     m_unit:=PySem.W.mg_of X G n22,
     F_times_row:=fun_mk (st:=s_times_row) l23 q23 k23,
     b_times_row:=(fun_mk (st:=s_times_row) l23 q23 k23).binds (ps:=["kind","by","row"]) fun _ _ _ _ _ _ us hl=>match us,hl with | [_,_,_],_=>rfl,
     m_times_row:=PySem.W.mg_of X G n23,
     F_column_at:=fun_mk (st:=s_column_at) l24 q24 k24,
     b_column_at:=(fun_mk (st:=s_column_at) l24 q24 k24).binds (ps:=["table","place"]) fun _ _ _ _ _ _ us hl=>match us,hl with | [_,_],_=>rfl,
     m_column_at:=PySem.W.mg_of X G n24,
     F_columns_of:=fun_mk (st:=s_columns_of) l25 q25 k25,
     b_columns_of:=(fun_mk (st:=s_columns_of) l25 q25 k25).binds (ps:=["table"]) fun _ _ _ _ _ _ us hl=>match us,hl with | [_],_=>rfl,
     m_columns_of:=PySem.W.mg_of X G n25,
     F_dot:=fun_mk (st:=s_dot) l26 q26 k26,
     b_dot:=(fun_mk (st:=s_dot) l26 q26 k26).binds (ps:=["kind","row","column"]) fun _ _ _ _ _ _ us hl=>match us,hl with | [_,_,_],_=>rfl,
     m_dot:=PySem.W.mg_of X G n26,
     F_row_by:=fun_mk (st:=s_row_by) l27 q27 k27,
     b_row_by:=(fun_mk (st:=s_row_by) l27 q27 k27).binds (ps:=["kind","row","table"]) fun _ _ _ _ _ _ us hl=>match us,hl with | [_,_,_],_=>rfl,
     m_row_by:=PySem.W.mg_of X G n27,
     F_by_column:=fun_mk (st:=s_by_column) l28 q28 k28,
     b_by_column:=(fun_mk (st:=s_by_column) l28 q28 k28).binds (ps:=["kind","table","column"]) fun _ _ _ _ _ _ us hl=>match us,hl with | [_,_,_],_=>rfl,
     m_by_column:=PySem.W.mg_of X G n28,
     F_is_word:=fun_mk (st:=s_is_word) l29 q29 k29,
     b_is_word:=(fun_mk (st:=s_is_word) l29 q29 k29).binds (ps:=["letters","thing"]) fun _ _ _ _ _ _ us hl=>match us,hl with | [_,_],_=>rfl,
     m_is_word:=PySem.W.mg_of X G n29,
     F_need_word:=fun_mk (st:=s_need_word) l30 q30 k30,
     b_need_word:=(fun_mk (st:=s_need_word) l30 q30 k30).binds (ps:=["letters","thing"]) fun _ _ _ _ _ _ us hl=>match us,hl with | [_,_],_=>rfl,
     m_need_word:=PySem.W.mg_of X G n30,
     F_rooms:=fun_mk (st:=s_rooms) l31 q31 k31,
     b_rooms:=(fun_mk (st:=s_rooms) l31 q31 k31).binds (ps:=["machine"]) fun _ _ _ _ _ _ us hl=>match us,hl with | [_],_=>rfl,
     m_rooms:=PySem.W.mg_of X G n31,
     F_table_of:=fun_mk (st:=s_table_of) l32 q32 k32,
     b_table_of:=(fun_mk (st:=s_table_of) l32 q32 k32).binds (ps:=["machine","letter"]) fun _ _ _ _ _ _ us hl=>match us,hl with | [_,_],_=>rfl,
     m_table_of:=PySem.W.mg_of X G n32,
     F_ahead:=fun_mk (st:=s_ahead) l33 q33 k33,
     b_ahead:=(fun_mk (st:=s_ahead) l33 q33 k33).binds (ps:=["kind","machine","word"]) fun _ _ _ _ _ _ us hl=>match us,hl with | [_,_,_],_=>rfl,
     m_ahead:=PySem.W.mg_of X G n33,
     F_weight:=fun_mk (st:=s_weight) l34 q34 k34,
     b_weight:=(fun_mk (st:=s_weight) l34 q34 k34).binds (ps:=["kind","machine","word"]) fun _ _ _ _ _ _ us hl=>match us,hl with | [_,_,_],_=>rfl,
     m_weight:=PySem.W.mg_of X G n34,
     F_need_same_letters:=fun_mk (st:=s_need_same_letters) l35 q35 k35,
     b_need_same_letters:=(fun_mk (st:=s_need_same_letters) l35 q35 k35).binds (ps:=["one","other"]) fun _ _ _ _ _ _ us hl=>match us,hl with | [_,_],_=>rfl,
     m_need_same_letters:=PySem.W.mg_of X G n35,
     F_need_few_rooms:=fun_mk (st:=s_need_few_rooms) l36 q36 k36,
     b_need_few_rooms:=(fun_mk (st:=s_need_few_rooms) l36 q36 k36).binds (ps:=["count"]) fun _ _ _ _ _ _ us hl=>match us,hl with | [_],_=>rfl,
     m_need_few_rooms:=PySem.W.mg_of X G n36,
     F_beside:=fun_mk (st:=s_beside) l37 q37 k37,
     b_beside:=(fun_mk (st:=s_beside) l37 q37 k37).binds (ps:=["kind","first","second","step"]) fun _ _ _ _ _ _ us hl=>match us,hl with | [_,_,_,_],_=>rfl,
     m_beside:=PySem.W.mg_of X G n37,
     F_put_beside:=fun_mk (st:=s_put_beside) l38 q38 k38,
     b_put_beside:=(fun_mk (st:=s_put_beside) l38 q38 k38).binds (ps:=["kind","one","other"]) fun _ _ _ _ _ _ us hl=>match us,hl with | [_,_,_],_=>rfl,
     m_put_beside:=PySem.W.mg_of X G n38,
     F_added:=fun_mk (st:=s_added) l39 q39 k39,
     b_added:=(fun_mk (st:=s_added) l39 q39 k39).binds (ps:=["kind","one","other"]) fun _ _ _ _ _ _ us hl=>match us,hl with | [_,_,_],_=>rfl,
     m_added:=PySem.W.mg_of X G n39,
     F_outer:=fun_mk (st:=s_outer) l40 q40 k40,
     b_outer:=(fun_mk (st:=s_outer) l40 q40 k40).binds (ps:=["kind","column","row"]) fun _ _ _ _ _ _ us hl=>match us,hl with | [_,_,_],_=>rfl,
     m_outer:=PySem.W.mg_of X G n40,
     F_joined:=fun_mk (st:=s_joined) l41 q41 k41,
     b_joined:=(fun_mk (st:=s_joined) l41 q41 k41).binds (ps:=["kind","one","other"]) fun _ _ _ _ _ _ us hl=>match us,hl with | [_,_,_],_=>rfl,
     m_joined:=PySem.W.mg_of X G n41,
     F_cross_row:=fun_mk (st:=s_cross_row) l42 q42 k42,
     b_cross_row:=(fun_mk (st:=s_cross_row) l42 q42 k42).binds (ps:=["kind","one","other"]) fun _ _ _ _ _ _ us hl=>match us,hl with | [_,_,_],_=>rfl,
     m_cross_row:=PySem.W.mg_of X G n42,
     F_cross_table:=fun_mk (st:=s_cross_table) l43 q43 k43,
     b_cross_table:=(fun_mk (st:=s_cross_table) l43 q43 k43).binds (ps:=["kind","one","other"]) fun _ _ _ _ _ _ us hl=>match us,hl with | [_,_,_],_=>rfl,
     m_cross_table:=PySem.W.mg_of X G n43,
     F_crossed:=fun_mk (st:=s_crossed) l44 q44 k44,
     b_crossed:=(fun_mk (st:=s_crossed) l44 q44 k44).binds (ps:=["kind","one","other"]) fun _ _ _ _ _ _ us hl=>match us,hl with | [_,_,_],_=>rfl,
     m_crossed:=PySem.W.mg_of X G n44,
     F_closed_table:=fun_mk (st:=s_closed_table) l45 q45 k45,
     b_closed_table:=(fun_mk (st:=s_closed_table) l45 q45 k45).binds (ps:=["kind","machine","table"]) fun _ _ _ _ _ _ us hl=>match us,hl with | [_,_,_],_=>rfl,
     m_closed_table:=PySem.W.mg_of X G n45,
     F_need_closable:=fun_mk (st:=s_need_closable) l46 q46 k46,
     b_need_closable:=(fun_mk (st:=s_need_closable) l46 q46 k46).binds (ps:=["kind","empty_weight"]) fun _ _ _ _ _ _ us hl=>match us,hl with | [_,_],_=>rfl,
     m_need_closable:=PySem.W.mg_of X G n46,
     F_closed:=fun_mk (st:=s_closed) l47 q47 k47,
     b_closed:=(fun_mk (st:=s_closed) l47 q47 k47).binds (ps:=["kind","machine"]) fun _ _ _ _ _ _ us hl=>match us,hl with | [_,_],_=>rfl,
     m_closed:=PySem.W.mg_of X G n47,
     F_single_row:=fun_mk (st:=s_single_row) l48 q48 k48,
     b_single_row:=(fun_mk (st:=s_single_row) l48 q48 k48).binds (ps:=["kind","letter","word","place"]) fun _ _ _ _ _ _ us hl=>match us,hl with | [_,_,_,_],_=>rfl,
     m_single_row:=PySem.W.mg_of X G n48,
     F_single:=fun_mk (st:=s_single) l49 q49 k49,
     b_single:=(fun_mk (st:=s_single) l49 q49 k49).binds (ps:=["kind","letters","word","by"]) fun _ _ _ _ _ _ us hl=>match us,hl with | [_,_,_,_],_=>rfl,
     m_single:=PySem.W.mg_of X G n49,
     F_law_next:=fun_mk (st:=s_law_next) l50 q50 k50,
     b_law_next:=(fun_mk (st:=s_law_next) l50 q50 k50).binds (ps:=["_law_state_here","_law_many"]) fun _ _ _ _ _ _ us hl=>match us,hl with | [_,_],_=>rfl,
     m_law_next:=PySem.W.mg_of X G n50,
     F_law_state:=fun_mk (st:=s_law_state) l51 q51 k51,
     b_law_state:=(fun_mk (st:=s_law_state) l51 q51 k51).binds (ps:=["_law_script"]) fun _ _ _ _ _ _ us hl=>match us,hl with | [_],_=>rfl,
     m_law_state:=PySem.W.mg_of X G n51,
     F_law_nought:=fun_mk (st:=s_law_nought) l52 q52 k52,
     b_law_nought:=(fun_mk (st:=s_law_nought) l52 q52 k52).binds (ps:=["_law_sort_here"]) fun _ _ _ _ _ _ us hl=>match us,hl with | [_],_=>rfl,
     m_law_nought:=PySem.W.mg_of X G n52,
     F_law_one:=fun_mk (st:=s_law_one) l53 q53 k53,
     b_law_one:=(fun_mk (st:=s_law_one) l53 q53 k53).binds (ps:=["_law_sort_here"]) fun _ _ _ _ _ _ us hl=>match us,hl with | [_],_=>rfl,
     m_law_one:=PySem.W.mg_of X G n53,
     F_law_sort:=fun_mk (st:=s_law_sort) l54 q54 k54,
     b_law_sort:=(fun_mk (st:=s_law_sort) l54 q54 k54).binds (ps:=["_law_state_here","_law_way"]) fun _ _ _ _ _ _ us hl=>match us,hl with | [_,_],_=>rfl,
     m_law_sort:=PySem.W.mg_of X G n54,
     F_law_kind:=fun_mk (st:=s_law_kind) l55 q55 k55,
     b_law_kind:=(fun_mk (st:=s_law_kind) l55 q55 k55).binds (ps:=["_law_sort_here"]) fun _ _ _ _ _ _ us hl=>match us,hl with | [_],_=>rfl,
     m_law_kind:=PySem.W.mg_of X G n55,
     F_law_letters:=fun_mk (st:=s_law_letters) l56 q56 k56,
     b_law_letters:=(fun_mk (st:=s_law_letters) l56 q56 k56).binds (ps:=["_law_state_here"]) fun _ _ _ _ _ _ us hl=>match us,hl with | [_],_=>rfl,
     m_law_letters:=PySem.W.mg_of X G n56,
     F_law_machine:=fun_mk (st:=s_law_machine) l57 q57 k57,
     b_law_machine:=(fun_mk (st:=s_law_machine) l57 q57 k57).binds (ps:=["_law_state_here","_law_sort_here","_law_letters_here","_law_many"]) fun _ _ _ _ _ _ us hl=>match us,hl with | [_,_,_,_],_=>rfl,
     m_law_machine:=PySem.W.mg_of X G n57,
     F_law_other:=fun_mk (st:=s_law_other) l58 q58 k58,
     b_law_other:=(fun_mk (st:=s_law_other) l58 q58 k58).binds (ps:=["_law_state_here","_law_letters_here"]) fun _ _ _ _ _ _ us hl=>match us,hl with | [_,_],_=>rfl,
     m_law_other:=PySem.W.mg_of X G n58,
     F_law_made:=fun_mk (st:=s_law_made) l59 q59 k59,
     b_law_made:=(fun_mk (st:=s_law_made) l59 q59 k59).binds (ps:=["_law_kind_here","_law_way","_law_one_here","_law_other_here"]) fun _ _ _ _ _ _ us hl=>match us,hl with | [_,_,_,_],_=>rfl,
     m_law_made:=PySem.W.mg_of X G n59,
     F_law_refused:=fun_mk (st:=s_law_refused) l60 q60 k60,
     b_law_refused:=(fun_mk (st:=s_law_refused) l60 q60 k60).binds (ps:=["_law_kind_here","_law_way","_law_one_here","_law_other_here"]) fun _ _ _ _ _ _ us hl=>match us,hl with | [_,_,_,_],_=>rfl,
     m_law_refused:=PySem.W.mg_of X G n60,
     F_law_two:=fun_mk (st:=s_law_two) l61 q61 k61,
     b_law_two:=(fun_mk (st:=s_law_two) l61 q61 k61).binds (ps:=["_law_state_here","_law_sort_here","_law_kind_here","_law_letters_here","_law_way"]) fun _ _ _ _ _ _ us hl=>match us,hl with | [_,_,_,_,_],_=>rfl,
     m_law_two:=PySem.W.mg_of X G n61,
     F_law_one_more:=fun_mk (st:=s_law_one_more) l62 q62 k62,
     b_law_one_more:=(fun_mk (st:=s_law_one_more) l62 q62 k62).binds (ps:=["_law_state_here","_law_sort_here","_law_kind_here","_law_letters_here"]) fun _ _ _ _ _ _ us hl=>match us,hl with | [_,_,_,_],_=>rfl,
     m_law_one_more:=PySem.W.mg_of X G n62,
     F_law_words_made:=fun_mk (st:=s_law_words_made) l63 q63 k63,
     b_law_words_made:=(fun_mk (st:=s_law_words_made) l63 q63 k63).binds (ps:=["_law_state_here","_law_sort_here","_law_kind_here","_law_letters_here"]) fun _ _ _ _ _ _ us hl=>match us,hl with | [_,_,_,_],_=>rfl,
     m_law_words_made:=PySem.W.mg_of X G n63,
     F_law:=fun_mk (st:=s_law) l64 q64 k64,
     b_law:=(fun_mk (st:=s_law) l64 q64 k64).binds (ps:=["_law_script"]) fun _ _ _ _ _ _ us hl=>match us,hl with | [_],_=>rfl,
     m_law:=PySem.W.mg_of X G n64,
     C_Fractions:=⟨pg0,hd0,po0,sa0⟩,
     m_Fractions:=PySem.W.mg_of X G N0,
     M_Fractions:=⟨mk0,in0,kp0⟩,
     C_Residues:=⟨pg1,hd1,po1,sa1⟩,
     m_Residues:=PySem.W.mg_of X G N1,
     M_Residues:=⟨mk1,n8,i8,kp1⟩,
     C_Costs:=⟨pg2,hd2,po2,sa2⟩,
     m_Costs:=PySem.W.mg_of X G N2,
     M_Costs:=⟨mk2,in2,kp2⟩,
     C_Truths:=⟨pg3,hd3,po3,sa3⟩,
     m_Truths:=PySem.W.mg_of X G N3,
     M_Truths:=⟨mk3,in3,kp3⟩,
     m_WeighError:=PySem.W.mg_of X G N4,
     x_WeighError:=X4,
     m_Unlike:=PySem.W.mg_of X G N5,
     x_Unlike:=X5,
     m_NoClosure:=PySem.W.mg_of X G N6,
     x_NoClosure:=X6,
     m_NoWord:=PySem.W.mg_of X G N7,
     x_NoWord:=X7,
     m_TooGreat:=PySem.W.mg_of X G N8,
     x_TooGreat:=X8,
     z_isinstance:=PySem.W.mg_none_of X G z_isinstance,
     z_int:=PySem.W.mg_none_of X G z_int,
     z_bool:=PySem.W.mg_none_of X G z_bool,
     z_abs:=PySem.W.mg_none_of X G z_abs,
     c_GREATEST_PRIME:=⟨_,PySem.W.mg_of X G c_GREATEST_PRIME⟩,
     z_min:=PySem.W.mg_none_of X G z_min,
     z_tuple:=PySem.W.mg_none_of X G z_tuple,
     z_range:=PySem.W.mg_none_of X G z_range,
     z_len:=PySem.W.mg_none_of X G z_len,
     z_zip:=PySem.W.mg_none_of X G z_zip,
     z_str:=PySem.W.mg_none_of X G z_str,
     z_all:=PySem.W.mg_none_of X G z_all,
     c_MOST_ROOMS:=⟨_,PySem.W.mg_of X G c_MOST_ROOMS⟩,
     z_ValueError:=PySem.W.mg_none_of X G z_ValueError,
     k_ii:=k_ii,
     k_ib:=k_ib,
     nP:=nP,
     k_ss:=k_ss,
     k_ns:=k_ns,
     k_ls:=k_ls,
     k_is:=k_is,
     k_ts:=k_ts,
     eU:=eU,
     vU:=vU,
     kUU:=kUU,
     kUC:=kUC,
     kUW:=kUW,
     kUG:=kUG,
     eC:=eC,
     vC:=vC,
     kCU:=kCU,
     kCC:=kCC,
     kCW:=kCW,
     kCG:=kCG,
     eW:=eW,
     vW:=vW,
     kWU:=kWU,
     kWC:=kWC,
     kWW:=kWW,
     kWG:=kWG,
     eG:=eG,
     vG:=vG,
     kGU:=kGU,
     kGC:=kGC,
     kGW:=kGW,
     kGG:=kGG }⟩
end K27
open PySem PySem.W PyProof.Rows
set_option maxRecDepth 100000 in
set_option maxHeartbeats 0 in
theorem PySem.Challenge.cw_weighwalk_k27_building_refused_holds : PySem.Challenge.rw_weighwalk_k27_building_refused.Holds := by
  w_on;o_law
  refine H27.holds_ (by assumption) ?hw ?hc
  (case hw=>w_witness2)
  unfold H27.hook
  k_fill
  refine L2.walk_ofK (l:=PySem.Challenge.rw_weighwalk_k27_building_refused) (n:=63) (k:=50) (x:="_law_script") (CX:=L2.CX0) (sp:=K27.sp_law) rfl (by decide) rfl ⟨rfl,by decide,by decide⟩ (by decide +kernel) (fun w h Y=>PySem.W.kIn_of Y) ?F ?S ?C
  case F=>
    intro w mg fa h KX G hmg
    have T:∃t,K27.Txt (L2.KOf KX) mg t:=by
      dsimp only[L2.KOf]
      refine' K27.txt_mk KX G ?N0 ?pg0 ?hd0 ?po0 ?sa0 ?mk0 ?kp0 ?in0 ?N1 ?pg1 ?hd1 ?po1 ?sa1 ?mk1 ?kp1 ?N2 ?pg2 ?hd2 ?po2 ?sa2 ?mk2 ?kp2 ?in2 ?N3 ?pg3 ?hd3 ?po3 ?sa3 ?mk3 ?kp3 ?in3 ?N4 ?X4 ?N5 ?X5 ?N6 ?X6 ?N7 ?X7 ?N8 ?X8 ?n0 ?l0 ?q0 ?k0 ?n1 ?l1 ?q1 ?k1 ?n2 ?l2 ?q2 ?k2 ?n3 ?l3 ?q3 ?k3 ?n4 ?i4 ?l4 ?q4 ?k4 ?n5 ?i5 ?l5 ?q5 ?k5 ?n6 ?i6 ?l6 ?q6 ?k6 ?n7 ?i7 ?l7 ?q7 ?k7 ?n8 ?i8 ?l8 ?q8 ?k8 ?n9 ?i9 ?l9 ?q9 ?k9 ?n10 ?i10 ?l10 ?q10 ?k10 ?n11 ?i11 ?l11 ?q11 ?k11 ?n12 ?i12 ?l12 ?q12 ?k12 ?n13 ?i13 ?l13 ?q13 ?k13 ?n14 ?i14 ?l14 ?q14 ?k14 ?n15 ?i15 ?l15 ?q15 ?k15 ?n16 ?i16 ?l16 ?q16 ?k16 ?n17 ?i17 ?l17 ?q17 ?k17 ?n18 ?i18 ?l18 ?q18 ?k18 ?n19 ?i19 ?l19 ?q19 ?k19 ?n20 ?i20 ?l20 ?q20 ?k20 ?n21 ?l21 ?q21 ?k21 ?n22 ?l22 ?q22 ?k22 ?n23 ?l23 ?q23 ?k23 ?n24 ?l24 ?q24 ?k24 ?n25 ?l25 ?q25 ?k25 ?n26 ?l26 ?q26 ?k26 ?n27 ?l27 ?q27 ?k27 ?n28 ?l28 ?q28 ?k28 ?n29 ?l29 ?q29 ?k29 ?n30 ?l30 ?q30 ?k30 ?n31 ?l31 ?q31 ?k31 ?n32 ?l32 ?q32 ?k32 ?n33 ?l33 ?q33 ?k33 ?n34 ?l34 ?q34 ?k34 ?n35 ?l35 ?q35 ?k35 ?n36 ?l36 ?q36 ?k36 ?n37 ?l37 ?q37 ?k37 ?n38 ?l38 ?q38 ?k38 ?n39 ?l39 ?q39 ?k39 ?n40 ?l40 ?q40 ?k40 ?n41 ?l41 ?q41 ?k41 ?n42 ?l42 ?q42 ?k42 ?n43 ?l43 ?q43 ?k43 ?n44 ?l44 ?q44 ?k44 ?n45 ?l45 ?q45 ?k45 ?n46 ?l46 ?q46 ?k46 ?n47 ?l47 ?q47 ?k47 ?n48 ?l48 ?q48 ?k48 ?n49 ?l49 ?q49 ?k49 ?n50 ?l50 ?q50 ?k50 ?n51 ?l51 ?q51 ?k51 ?n52 ?l52 ?q52 ?k52 ?n53 ?l53 ?q53 ?k53 ?n54 ?l54 ?q54 ?k54 ?n55 ?l55 ?q55 ?k55 ?n56 ?l56 ?q56 ?k56 ?n57 ?l57 ?q57 ?k57 ?n58 ?l58 ?q58 ?k58 ?n59 ?l59 ?q59 ?k59 ?n60 ?l60 ?q60 ?k60 ?n61 ?l61 ?q61 ?k61 ?n62 ?l62 ?q62 ?k62 ?n63 ?l63 ?q63 ?k63 ?n64 ?l64 ?q64 ?k64 ?z_isinstance ?z_int ?z_bool ?z_abs ?c_GREATEST_PRIME ?z_min ?z_tuple ?z_range ?z_len ?z_zip ?z_str ?z_all ?c_MOST_ROOMS ?z_ValueError ?k_ii ?k_ib ?nP ?k_ss ?k_ns ?k_ls ?k_is ?k_ts ?eU ?vU ?kUU ?kUC ?kUW ?kUG ?eC ?vC ?kCU ?kCC ?kCW ?kCG ?eW ?vW ?kWU ?kWC ?kWW ?kWG ?eG ?vG ?kGU ?kGC ?kGW ?kGG
      (case N0 | pg0 | hd0 | po0 | sa0 | mk0 | kp0 | in0 | N1 | pg1 | hd1 | po1 | sa1 | mk1 | kp1 | N2 | pg2 | hd2 | po2 | sa2 | mk2 | kp2 | in2 | N3 | pg3 | hd3 | po3 | sa3 | mk3 | kp3 | in3 | N4=>show _=_;k_is)
      (case X4=>exact⟨by kernel_rfl,by kernel_rfl,by kernel_rfl,by kernel_rfl,by kernel_rfl,by kernel_rfl⟩)
      (case N5=>show _=_;k_is)
      (case X5=>exact⟨by kernel_rfl,by kernel_rfl,by kernel_rfl,by kernel_rfl,by kernel_rfl,by kernel_rfl⟩)
      (case N6=>show _=_;k_is)
      (case X6=>exact⟨by kernel_rfl,by kernel_rfl,by kernel_rfl,by kernel_rfl,by kernel_rfl,by kernel_rfl⟩)
      (case N7=>show _=_;k_is)
      (case X7=>exact⟨by kernel_rfl,by kernel_rfl,by kernel_rfl,by kernel_rfl,by kernel_rfl,by kernel_rfl⟩)
      (case N8=>show _=_;k_is)
      (case X8=>exact⟨by kernel_rfl,by kernel_rfl,by kernel_rfl,by kernel_rfl,by kernel_rfl,by kernel_rfl⟩)
      (case n0=>show _=_;k_is)
      (case l0=>exact H27.lk_is_whole _)
      (case q0 | k0 | n1=>show _=_;k_is)
      (case l1=>exact H27.lk_divisor _)
      (case q1 | k1 | n2=>show _=_;k_is)
      (case l2=>exact H27.lk_fraction _)
      (case q2 | k2 | n3=>show _=_;k_is)
      (case l3=>exact H27.lk_is_prime _)
      (case q3 | k3 | n4 | i4=>show _=_;k_is)
      (case l4=>exact H27.lk_Fractions_nought _)
      (case q4 | k4 | n5 | i5=>show _=_;k_is)
      (case l5=>exact H27.lk_Fractions_one _)
      (case q5 | k5 | n6 | i6=>show _=_;k_is)
      (case l6=>exact H27.lk_Fractions_plus _)
      (case q6 | k6 | n7 | i7=>show _=_;k_is)
      (case l7=>exact H27.lk_Fractions_times _)
      (case q7 | k7 | n8 | i8=>show _=_;k_is)
      (case l8=>exact H27.lk_Residues___init__ _)
      (case q8 | k8 | n9 | i9=>show _=_;k_is)
      (case l9=>exact H27.lk_Residues_nought _)
      (case q9 | k9 | n10 | i10=>show _=_;k_is)
      (case l10=>exact H27.lk_Residues_one _)
      (case q10 | k10 | n11 | i11=>show _=_;k_is)
      (case l11=>exact H27.lk_Residues_plus _)
      (case q11 | k11 | n12 | i12=>show _=_;k_is)
      (case l12=>exact H27.lk_Residues_times _)
      (case q12 | k12 | n13 | i13=>show _=_;k_is)
      (case l13=>exact H27.lk_Costs_nought _)
      (case q13 | k13 | n14 | i14=>show _=_;k_is)
      (case l14=>exact H27.lk_Costs_one _)
      (case q14 | k14 | n15 | i15=>show _=_;k_is)
      (case l15=>exact H27.lk_Costs_plus _)
      (case q15 | k15 | n16 | i16=>show _=_;k_is)
      (case l16=>exact H27.lk_Costs_times _)
      (case q16 | k16 | n17 | i17=>show _=_;k_is)
      (case l17=>exact H27.lk_Truths_nought _)
      (case q17 | k17 | n18 | i18=>show _=_;k_is)
      (case l18=>exact H27.lk_Truths_one _)
      (case q18 | k18 | n19 | i19=>show _=_;k_is)
      (case l19=>exact H27.lk_Truths_plus _)
      (case q19 | k19 | n20 | i20=>show _=_;k_is)
      (case l20=>exact H27.lk_Truths_times _)
      (case q20 | k20 | n21=>show _=_;k_is)
      (case l21=>exact H27.lk_noughts _)
      (case q21 | k21 | n22=>show _=_;k_is)
      (case l22=>exact H27.lk_unit _)
      (case q22 | k22 | n23=>show _=_;k_is)
      (case l23=>exact H27.lk_times_row _)
      (case q23 | k23 | n24=>show _=_;k_is)
      (case l24=>exact H27.lk_column_at _)
      (case q24 | k24 | n25=>show _=_;k_is)
      (case l25=>exact H27.lk_columns_of _)
      (case q25 | k25 | n26=>show _=_;k_is)
      (case l26=>exact H27.lk_dot _)
      (case q26 | k26 | n27=>show _=_;k_is)
      (case l27=>exact H27.lk_row_by _)
      (case q27 | k27 | n28=>show _=_;k_is)
      (case l28=>exact H27.lk_by_column _)
      (case q28 | k28 | n29=>show _=_;k_is)
      (case l29=>exact H27.lk_is_word _)
      (case q29 | k29 | n30=>show _=_;k_is)
      (case l30=>exact H27.lk_need_word _)
      (case q30 | k30 | n31=>show _=_;k_is)
      (case l31=>exact H27.lk_rooms _)
      (case q31 | k31 | n32=>show _=_;k_is)
      (case l32=>exact H27.lk_table_of _)
      (case q32 | k32 | n33=>show _=_;k_is)
      (case l33=>exact H27.lk_ahead _)
      (case q33 | k33 | n34=>show _=_;k_is)
      (case l34=>exact H27.lk_weight _)
      (case q34 | k34 | n35=>show _=_;k_is)
      (case l35=>exact H27.lk_need_same_letters _)
      (case q35 | k35 | n36=>show _=_;k_is)
      (case l36=>exact H27.lk_need_few_rooms _)
      (case q36 | k36 | n37=>show _=_;k_is)
      (case l37=>exact H27.lk_beside _)
      (case q37 | k37 | n38=>show _=_;k_is)
      (case l38=>exact H27.lk_put_beside _)
      (case q38 | k38 | n39=>show _=_;k_is)
      (case l39=>exact H27.lk_added _)
      (case q39 | k39 | n40=>show _=_;k_is)
      (case l40=>exact H27.lk_outer _)
      (case q40 | k40 | n41=>show _=_;k_is)
      (case l41=>exact H27.lk_joined _)
      (case q41 | k41 | n42=>show _=_;k_is)
      (case l42=>exact H27.lk_cross_row _)
      (case q42 | k42 | n43=>show _=_;k_is)
      (case l43=>exact H27.lk_cross_table _)
      (case q43 | k43 | n44=>show _=_;k_is)
      (case l44=>exact H27.lk_crossed _)
      (case q44 | k44 | n45=>show _=_;k_is)
      (case l45=>exact H27.lk_closed_table _)
      (case q45 | k45 | n46=>show _=_;k_is)
      (case l46=>exact H27.lk_need_closable _)
      (case q46 | k46 | n47=>show _=_;k_is)
      (case l47=>exact H27.lk_closed _)
      (case q47 | k47 | n48=>show _=_;k_is)
      (case l48=>exact H27.lk_single_row _)
      (case q48 | k48 | n49=>show _=_;k_is)
      (case l49=>exact H27.lk_single _)
      (case q49 | k49 | n50=>show _=_;k_is)
      (case l50=>exact H27.lk__law_next _)
      (case q50 | k50 | n51=>show _=_;k_is)
      (case l51=>exact H27.lk__law_state _)
      (case q51 | k51 | n52=>show _=_;k_is)
      (case l52=>exact H27.lk__law_nought _)
      (case q52 | k52 | n53=>show _=_;k_is)
      (case l53=>exact H27.lk__law_one _)
      (case q53 | k53 | n54=>show _=_;k_is)
      (case l54=>exact H27.lk__law_sort _)
      (case q54 | k54 | n55=>show _=_;k_is)
      (case l55=>exact H27.lk__law_kind _)
      (case q55 | k55 | n56=>show _=_;k_is)
      (case l56=>exact H27.lk__law_letters _)
      (case q56 | k56 | n57=>show _=_;k_is)
      (case l57=>exact H27.lk__law_machine _)
      (case q57 | k57 | n58=>show _=_;k_is)
      (case l58=>exact H27.lk__law_other _)
      (case q58 | k58 | n59=>show _=_;k_is)
      (case l59=>exact H27.lk__law_made _)
      (case q59 | k59 | n60=>show _=_;k_is)
      (case l60=>exact H27.lk__law_refused _)
      (case q60 | k60 | n61=>show _=_;k_is)
      (case l61=>exact H27.lk__law_two _)
      (case q61 | k61 | n62=>show _=_;k_is)
      (case l62=>exact H27.lk__law_one_more _)
      (case q62 | k62 | n63=>show _=_;k_is)
      (case l63=>exact H27.lk__law_words_made _)
      (case q63 | k63 | n64=>show _=_;k_is)
      (case l64=>exact H27.lk_law _)
      (case q64 | k64 | z_isinstance | z_int | z_bool | z_abs | c_GREATEST_PRIME | z_min | z_tuple | z_range | z_len | z_zip | z_str | z_all | c_MOST_ROOMS | z_ValueError=>show _=_;k_is)
      (case k_ii=>kit_is)
      (case k_ib=>kit_is)
      (case nP=>k_is)
      (case k_ss=>kit_is)
      (case k_ns=>kit_is)
      (case k_ls=>kit_is)
      (case k_is=>kit_is)
      (case k_ts=>kit_is)
      (case eU=>kernel_rfl)
      (case vU=>kernel_rfl)
      (case kUU=>kernel_rfl)
      (case kUC=>kernel_rfl)
      (case kUW=>kernel_rfl)
      (case kUG=>kernel_rfl)
      (case eC=>kernel_rfl)
      (case vC=>kernel_rfl)
      (case kCU=>kernel_rfl)
      (case kCC=>kernel_rfl)
      (case kCW=>kernel_rfl)
      (case kCG=>kernel_rfl)
      (case eW=>kernel_rfl)
      (case vW=>kernel_rfl)
      (case kWU=>kernel_rfl)
      (case kWC=>kernel_rfl)
      (case kWW=>kernel_rfl)
      (case kWG=>kernel_rfl)
      (case eG=>kernel_rfl)
      (case vG=>kernel_rfl)
      (case kGU=>kernel_rfl)
      (case kGC=>kernel_rfl)
      (case kGW=>kernel_rfl)
      (case kGG=>kernel_rfl)
    obtain⟨t,T⟩:=T
    have e0:=hmg.symm.trans T.m_law
    cases e0
    exact⟨_,K27.law_binds T,fun base kb nb=>K27.ok_law T⟩
  case S=>exact fun K H a ns hl hO hS=>⟨a,ns,rfl,hS,hl,fun _=>rfl⟩
  case C=>exact fun _ _ _ _ z=>z
